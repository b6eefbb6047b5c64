import PyProof.Rows.All
import Wide.All
import OpenK.AllK
import Wide.FinOn
import Lean
import PyProof.EqAt
import PyProof.EqKinds
import PyProof.TupleCall
import PySem.Challenge.RW_fitwhatever_k04_sums_made
set_option Elab.async false
set_option linter.all false
set_option maxRecDepth 100000
/-! THE HAND LAYER, for ints, bools, texts, own classes, LISTS and tuples (index, slices, in, append, pop ..), calls, loops. Paste it whole ahead of your own text; what your proof does not reach may be deleted. -/
namespace L2
open PySem PySem.Spec PyProof.Rows

/-- a key: an int or a str -/
abbrev Key := Sum Int Str
def keyIs : Key → Value → Bool
  | .inl k, v => Value.isInt k v
  | .inr x, v => Value.isStrOf x v
def keyH (w : World) : Key → Int
  | .inl k => hashInt k
  | .inr x => hashStr w x
theorem keyIs_shape : ∀ {k : Key} {v : Value}, keyIs k v = true → (∃ i t, k = Sum.inl i ∧ v = Value.int i t) ∨ (∃ x t, k = Sum.inr x ∧ v = Value.str x t)
  | .inl i, v, h => by
    obtain ⟨t, e⟩ := Value.isInt_shape (k := i) (v := v) h
    exact .inl ⟨i, t, rfl, e⟩
  | .inr x, v, h => by
    obtain ⟨t, e⟩ := Value.isStrOf_shape (x := x) (v := v) h
    exact .inr ⟨x, t, rfl, e⟩
theorem keyIs_int (i : Int) (t : Tok) : keyIs (.inl i) (.int i t) = true := by simp [keyIs, Value.isInt]
theorem keyIs_str (x : Str) (t : Tok) : keyIs (.inr x) (.str x t) = true := by simp [keyIs, Value.isStrOf]
theorem key_ll (a b : Int) : decide ((Sum.inl a : Key) = Sum.inl b) = (a == b) := by
  by_cases e : a = b
  · subst e; simp
  · have h : ¬ (Sum.inl a : Key) = Sum.inl b := fun q => e (Sum.inl.inj q)
    rw [decide_eq_false h]
    exact (beq_eq_false_iff_ne.mpr e).symm
theorem key_rr (a b : Str) : decide ((Sum.inr a : Key) = Sum.inr b) = decide (a = b) := by
  by_cases e : a = b
  · subst e; simp
  · have h : ¬ (Sum.inr a : Key) = Sum.inr b := fun q => e (Sum.inr.inj q)
    rw [decide_eq_false h, decide_eq_false e]
theorem key_lr (a : Int) (b : Str) : decide ((Sum.inl a : Key) = Sum.inr b) = false := decide_eq_false (fun q => nomatch q)
theorem key_rl (a : Str) (b : Int) : decide ((Sum.inr a : Key) = Sum.inl b) = false := decide_eq_false (fun q => nomatch q)

def mixKind (prog : Program) (w : World) : PySem.KeyKind prog w Key where
  is := keyIs
  hash := keyH w
  inj := fun v a b ha hb => by
    rcases keyIs_shape ha with ⟨i, t, rfl, rfl⟩ | ⟨x, t, rfl, rfl⟩
    · rcases keyIs_shape hb with ⟨j, u, rfl, e⟩ | ⟨y, u, rfl, e⟩
      · injection e with e1 _; rw [e1]
      · exact nomatch e
    · rcases keyIs_shape hb with ⟨j, u, rfl, e⟩ | ⟨y, u, rfl, e⟩
      · exact nomatch e
      · injection e with e1 _; rw [e1]
  byValue := fun k v h => by
    rcases keyIs_shape h with ⟨i, t, rfl, rfl⟩ | ⟨x, t, rfl, rfl⟩ <;> rfl
  pyHash := fun hv h => by
    rcases keyIs_shape hv with ⟨i, t, rfl, rfl⟩ | ⟨x, t, rfl, rfl⟩
    · exact wpAny_pyHash_int h
    · exact wpAny_pyHash_str h
  eqBool := fun hu hv h => by
    rcases keyIs_shape hu with ⟨i, t, rfl, rfl⟩ | ⟨x, t, rfl, rfl⟩
    · rcases keyIs_shape hv with ⟨j, u, rfl, rfl⟩ | ⟨y, u, rfl, rfl⟩
      · rw [key_ll] at h; exact wpAny_eqBool_int h
      · rw [key_lr] at h; exact SeqAt.EqAt.int_str i t y u _ _ _ _ h
    · rcases keyIs_shape hv with ⟨j, u, rfl, rfl⟩ | ⟨y, u, rfl, rfl⟩
      · rw [key_rl] at h; exact SeqAt.EqAt.str_int x t j u _ _ _ _ h
      · rw [key_rr] at h; exact wpAny_eqBool_str h
  «strs» := fun k x t v h => by
    rcases keyIs_shape h with ⟨i, u, rfl, e⟩ | ⟨y, u, rfl, e⟩
    · exact nomatch e
    · injection e with e1 _
      subst e1
      cases v <;> rfl

theorem mixKind_is (prog : Program) (w : World) (k : Key) (v : Value) : (mixKind prog w).is k v = keyIs k v := rfl
theorem mixKind_int (prog : Program) (w : World) (i : Int) (t : Tok) : (mixKind prog w).is (.inl i) (.int i t) = true := keyIs_int i t
theorem mixKind_str (prog : Program) (w : World) (x : Str) (t : Tok) : (mixKind prog w).is (.inr x) (.str x t) = true := keyIs_str x t
end L2

namespace L2
open PySem PySem.Spec PyProof.Rows

/-- a value, without the heap -/
inductive V where
  | non | bl (b : Bool) | int (i : Int) | str (x : Str) | byt (b : Array UInt8) | flt (b : UInt64) | ref (a : Addr) | ty (n : String)
  deriving DecidableEq

def RelV : V → Value → Prop
  | .non, u => u = Value.none
  | .bl b, u => u = Value.bool b
  | .int i, u => ∃ t, u = Value.int i t
  | .str x, u => ∃ t, u = Value.str x t
  | .byt b, u => ∃ t, u = Value.bytes b t
  | .flt b, u => ∃ t, u = Value.float b t
  | .ref a, u => u = Value.ref a
  | .ty n, u => u = Value.type n

abbrev Vals : List V → List Value → Prop := Paired RelV
theorem Vals.length {xs : List V} {us : List Value} (r : Vals xs us) : xs.length = us.length := Paired.length r
theorem Vals.get : ∀ {xs : List V} {us : List Value} {i : Nat} {x : V}, Vals xs us → xs[i]? = some x → ∃ u, us[i]? = some u ∧ RelV x u
  | _, _, _, _, .nil, e => by simp at e
  | _, _, 0, _, .cons r _, e => by simp at e; subst e; exact ⟨_, rfl, r⟩
  | _, _, i + 1, x, .cons _ t, e => by
    obtain ⟨u, h1, h2⟩ := Vals.get (i := i) (x := x) t (by simpa using e)
    exact ⟨u, by simpa using h1, h2⟩
theorem Vals.set {x : V} {u : Value} (r : RelV x u) : ∀ {xs : List V} {us : List Value} (i : Nat), Vals xs us → Vals (xs.set i x) (us.set i u)
  | _, _, _, .nil => .nil
  | _, _, 0, .cons _ t => .cons r t
  | _, _, i + 1, .cons q t => .cons q (Vals.set r i t)
theorem Vals.append : ∀ {xs ys : List V} {us ws : List Value}, Vals xs us → Vals ys ws → Vals (xs ++ ys) (us ++ ws)
  | _, _, _, _, .nil, s => s
  | _, _, _, _, .cons r t, s => .cons r (Vals.append t s)
theorem Vals.take : ∀ {xs : List V} {us : List Value} (n : Nat), Vals xs us → Vals (xs.take n) (us.take n)
  | _, _, 0, _ => .nil
  | _, _, _ + 1, .nil => .nil
  | _, _, n + 1, .cons r t => .cons r (Vals.take n t)
theorem Vals.drop : ∀ {xs : List V} {us : List Value} (n : Nat), Vals xs us → Vals (xs.drop n) (us.drop n)
  | _, _, 0, r => r
  | _, _, _ + 1, .nil => .nil
  | _, _, n + 1, .cons _ t => Vals.drop n t
theorem Vals.none_of : ∀ {xs : List V} {us : List Value} {i : Nat}, Vals xs us → xs[i]? = none → us[i]? = none := fun {xs us i} r e => by
  have h1 := r.length
  have h2 : xs.length ≤ i := List.getElem?_eq_none_iff.mp e
  exact List.getElem?_eq_none_iff.mpr (by omega)

def RelO : Option V → Option Value → Prop
  | some v, some u => RelV v u
  | none, none => True
  | _, _ => False
def KV {κ : Type} : List (κ × V) → List (κ × Value) → Prop := Paired fun (p : κ × V) (q : κ × Value) => p.1 = q.1 ∧ RelV p.2 q.2

/-- a key of a dict (00_mix): an int or a text -/
def kV : Key → V
  | .inl i => .int i
  | .inr x => .str x

/-- what stands at a tracked address -/
inductive HO where
  /-- a list -/
  | lst (xs : List V)
  /-- a tuple (never changes) -/
  | tup (xs : List V)
  /-- a dict whose keys are ints and texts; one whose keys are tuples of ints and texts (the empty one is both) -/
  | dK (kvs : List (Key × V)) | dT (kvs : List (List Key × V))
  /-- a set of ints: its members, its size -/
  | set (S : Int → Bool) (n : Nat)
  /-- an instance of the class at C, its dict at dx, its attributes -/
  | ins (C dx : Addr) (fs : List (Str × V))
  /-- the dict of the instance at x -/
  | own (x : Addr)
  /-- the dict of an exception -/
  | xd (fs : List (Str × V))
  /-- a bound method, f of x -/
  | met (f x : Addr)
  /-- a range object lo, lo + 1, .. below hi -/
  | rng (lo hi : Int)
  /-- a thing that is known to the object (the script; a dict while a loop walks it): read, never written while it is so -/
  | frz (o : Obj) (u : HO)
  /-- a code object's table -/
  | tbl (ps : Array Value)
  /-- any other thing, by what is true of its one object (a def of one's own: SetO a S n := HO.ext fun h => ..) -/
  | ext (φ : Heap → Prop)

abbrev Hp := Addr → Option HO
def upd (H : Hp) (a : Addr) (o : HO) : Hp := fun b => if b = a then some o else H b
theorem upd_same {H : Hp} {a : Addr} {o : HO} : upd H a o a = some o := by unfold upd; rw [if_pos rfl]
theorem upd_ne {H : Hp} {a b : Addr} {o : HO} (h : b ≠ a) : upd H a o b = H b := by unfold upd; rw [if_neg h]
theorem upd_upd {H : Hp} {a : Addr} {o u : HO} : upd (upd H a o) a u = upd H a u := by
  funext b; unfold upd; split <;> rfl
/-- two objects of different content stand apart -/
theorem ne_of {H : Hp} {a b : Addr} {o u : HO} (h : H a = some o) (h' : H b = some u) (d : o ≠ u) : a ≠ b := by
  intro e; subst e; rw [h] at h'; exact d (Option.some.inj h')
theorem ne_of_none {H : Hp} {a b : Addr} {o : HO} (h : H a = some o) (h' : H b = none) : a ≠ b := by
  intro e; subst e; rw [h] at h'; cases h'

section
variable (P : Program) (w : World)
def ObjOk (H : Hp) (h : Heap) (a : Addr) : HO → Prop
  | .lst xs => xs.length ≤ sizeLine ∧ ∃ (its : List Value) (n : Nat), Vals xs its ∧ h.get? a = some { cls := .type "list", data := .seq its.toArray n }
  | .tup xs => xs.length ≤ sizeLine ∧ ∃ its : List Value, Vals xs its ∧ IsTup h a its.toArray
  | .dK kvs => kvs.length ≤ sizeLine ∧ (a == sysModules) = false ∧ ∃ vs, KV kvs vs ∧ h.DictOf (mixKind P w) a vs
  | .dT kvs => kvs.length ≤ sizeLine ∧ (a == sysModules) = false ∧ ∃ xs : List (List Key × Addr × Value),
      Paired (fun (p : List Key × V) (q : List Key × Addr × Value) => p.1 = q.1 ∧ H q.2.1 = some (.tup (p.1.map kV)) ∧ RelV p.2 q.2.2) kvs xs ∧
      ∃ o es ep, h.get? a = some o ∧ o.ExactDict ∧ o.data = .dict es ep ∧ es.toList = xs.map (entryOfKey (tupleKind (mixKind P w))) ∧ (xs.map (·.1)).Nodup
  | .set S n => h.SetOf (intKind P w) a S n
  | .ins C dx fs => H dx = some (.own a) ∧ fs.length ≤ 1000 ∧ dx ≠ a ∧ h.get? a = some (PySem.W.instObj C dx) ∧
      ∃ mA, h.Ns1 dx mA ∧ (∀ f, RelO (fs.lookup f) (mA f)) ∧ PySem.Within mA (fs.map (·.1))
  | .own _ => ∃ o, h.get? a = some o
  | .xd fs => ∃ mA, h.Ns1 a mA ∧ ∀ f, RelO (fs.lookup f) (mA f)
  | .rng lo hi => ∃ t u v, h.get? a = some { cls := .type "range", data := .fields #[.int lo t, .int hi u, .int 1 v] }
  | .frz o u => h.get? a = some o ∧ ObjOk H h a u
  | .tbl ps => h.get? a = some { cls := .none, data := .fields ps }
  | .met f x => h.get? a = some (PySem.W.methodObj (.ref f) (.ref x))
  | .ext φ => φ h ∧ (∃ o, h.get? a = some o) ∧ ∀ h1 h2 : Heap, φ h1 → (∀ o, h1.get? a = some o → h2.get? a = some o) → φ h2
/-- the abstract heap is held -/
def HOk (H : Hp) (h : Heap) : Prop := ∀ a o, H a = some o → ObjOk P w H h a o
end

section
variable {P : Program} {w : World} {H H' : Hp} {h h' : Heap} {a : Addr} {o : HO}
theorem ObjOk.lt (x : ObjOk P w H h a o) : a < h.objs.size := by
  cases o with
  | lst xs => obtain ⟨_, _, _, _, e⟩ := x; exact Heap.lt_size e
  | tup xs => obtain ⟨_, _, _, p⟩ := x; exact p.lt
  | dK kvs => obtain ⟨_, _, _, _, o, _, _, e, _⟩ := x; exact Heap.lt_size e
  | dT kvs => obtain ⟨_, _, _, _, o, _, _, e, _⟩ := x; exact Heap.lt_size e
  | set S n => obtain ⟨o, _, _, _, e, _⟩ := x; exact Heap.lt_size e
  | ins C dx fs => obtain ⟨_, _, _, e, _⟩ := x; exact Heap.lt_size e
  | own y => obtain ⟨_, e⟩ := x; exact Heap.lt_size e
  | xd fs => obtain ⟨_, ⟨_, _, _, e, _⟩, _⟩ := x; exact Heap.lt_size e
  | rng lo hi => obtain ⟨_, _, _, e⟩ := x; exact Heap.lt_size e
  | frz ob u => obtain ⟨e, _⟩ := x; exact Heap.lt_size e
  | tbl ps => exact Heap.lt_size (show h.get? a = some _ from x)
  | met f y => exact Heap.lt_size (show h.get? a = some _ from x)
  | ext φ => obtain ⟨_, ⟨_, e⟩, _⟩ := x; exact Heap.lt_size e
theorem Paired.mapP {α β : Type} {F G : α → β → Prop} : ∀ {l₁ : List α} {l₂ : List β}, Paired F l₁ l₂ → (∀ a b, F a b → G a b) → Paired G l₁ l₂
  | _, _, .nil, _ => .nil
  | _, _, .cons r t, f => .cons (f _ _ r) (Paired.mapP t f)
theorem Paired.imp' {α β : Type} {F G : α → β → Prop} (f : ∀ a b, F a b → G a b) {l₁ : List α} {l₂ : List β} (r : Paired F l₁ l₂) : Paired G l₁ l₂ := Paired.mapP r f
/-- what an object's description leans on: its own object, its own dict, the tuples -/
theorem ObjOk.stay (x : ObjOk P w H h a o) (k : ∀ b u, (b = a ∨ H b = some (.own a)) → h.get? b = some u → h'.get? b = some u)
    (ho : ∀ b, H b = some (.own a) → H' b = some (.own a)) (ht : ∀ b xs, H b = some (.tup xs) → H' b = some (.tup xs)) : ObjOk P w H' h' a o := by
  induction o with
  | lst xs => obtain ⟨z, its, n, r, e⟩ := x; exact ⟨z, its, n, r, k _ _ (.inl rfl) e⟩
  | tup xs => obtain ⟨z, its, r, ob, e, c⟩ := x; exact ⟨z, its, r, ob, k _ _ (.inl rfl) e, c⟩
  | dK kvs => obtain ⟨z, y, vs, r, ob, es, ep, e, c⟩ := x; exact ⟨z, y, vs, r, ob, es, ep, k _ _ (.inl rfl) e, c⟩
  | dT kvs =>
    obtain ⟨z, y, xs, r, ob, es, ep, e, c⟩ := x
    exact ⟨z, y, xs, Paired.mapP r fun p q z => ⟨z.1, ht _ _ z.2.1, z.2.2⟩, ob, es, ep, k _ _ (.inl rfl) e, c⟩
  | set S n => obtain ⟨ob, es, ep, t, e, c⟩ := x; exact ⟨ob, es, ep, t, k _ _ (.inl rfl) e, c⟩
  | ins C dx fs =>
    obtain ⟨d, z, ne, e, mA, ⟨od, es, ep, e2, c⟩, r⟩ := x
    exact ⟨ho _ d, z, ne, k _ _ (.inl rfl) e, mA, ⟨od, es, ep, k _ _ (.inr d) e2, c⟩, r⟩
  | own y => obtain ⟨ob, e⟩ := x; exact ⟨ob, k _ _ (.inl rfl) e⟩
  | xd fs => obtain ⟨mA, ⟨od, es, ep, e, c⟩, r⟩ := x; exact ⟨mA, ⟨od, es, ep, k _ _ (.inl rfl) e, c⟩, r⟩
  | rng lo hi => obtain ⟨t, u, v, e⟩ := x; exact ⟨t, u, v, k _ _ (.inl rfl) e⟩
  | frz ob u ih => obtain ⟨e, q⟩ := x; exact ⟨k _ _ (.inl rfl) e, ih q⟩
  | tbl ps =>
    have e : h.get? a = some { cls := .none, data := .fields ps } := x
    show h'.get? a = some { cls := .none, data := .fields ps }
    exact k a _ (.inl rfl) e
  | met f y =>
    have e : h.get? a = some (PySem.W.methodObj (.ref f) (.ref y)) := x
    show h'.get? a = some (PySem.W.methodObj (.ref f) (.ref y))
    exact k a _ (.inl rfl) e
  | ext φ => obtain ⟨p, ⟨o, e⟩, st⟩ := x; exact ⟨st _ _ p fun o q => k _ _ (.inl rfl) q, ⟨o, k _ _ (.inl rfl) e⟩, st⟩
theorem HOk.lt (x : HOk P w H h) (e : H a = some o) : a < h.objs.size := (x a o e).lt
theorem HOk.fresh (x : HOk P w H h) (e : h.objs.size ≤ a) : H a = none := by
  cases q : H a with
  | none => rfl
  | some u => exact absurd (Nat.lt_of_lt_of_le (x.lt q) e) (Nat.lt_irrefl _)
/-- every object of the heap is kept -/
theorem HOk.kept (x : HOk P w H h) (k : ∀ b u, h.get? b = some u → h'.get? b = some u) : HOk P w H h' := fun a o e =>
  (x a o e).stay (fun b u _ q => k b u q) (fun _ q => q) fun _ _ q => q
/-- a new object is laid and tracked -/
theorem HOk.laid (x : HOk P w H h) (k : ∀ b u, h.get? b = some u → h'.get? b = some u) (hp : h.objs.size ≤ a) (new : ObjOk P w (upd H a o) h' a o) : HOk P w (upd H a o) h' := fun b u e => by
  have hn := x.fresh hp
  by_cases hb : b = a
  · subst hb; rw [upd_same] at e; cases e; exact new
  · rw [upd_ne hb] at e
    exact (x b u e).stay (fun c v _ q => k c v q) (fun c q => by rw [upd_ne (ne_of_none q hn)]; exact q) fun c xs q => by rw [upd_ne (ne_of_none q hn)]; exact q
end

/-- what may be read as u: it is u, or a known u -/
def Rd (H : Hp) (a : Addr) (u : HO) : Prop := H a = some u ∨ ∃ o, H a = some (.frz o u)
theorem Rd.of {H : Hp} {a : Addr} {u : HO} (h : H a = some u) : Rd H a u := .inl h
theorem Rd.ok {P : Program} {w : World} {H : Hp} {h : Heap} {a : Addr} {u : HO} (r : Rd H a u) (x : HOk P w H h) : ObjOk P w H h a u := by
  rcases r with r | ⟨o, r⟩
  · exact x a u r
  · obtain ⟨_, q⟩ := x a _ r
    exact q
/-- what may be written -/
def Mut : Option HO → Prop
  | some (.lst _) => True
  | some (.dK _) => True
  | some (.dT _) => True
  | some (.set _ _) => True
  | some (.ins _ _ _) => True
  | some (.ext _) => True
  | _ => False
section
variable {P : Program} {w : World} {H : Hp} {h h' : Heap} {x e : Addr} {o' : HO}
/-- the object at e is changed: x itself, or the dict of the instance x -/
theorem HOk.write (ok : HOk P w H h) (mu : Mut (H x)) (he : e = x ∨ H e = some (.own x)) (k : ∀ b u, b ≠ e → h.get? b = some u → h'.get? b = some u) (heo : ∃ u, h'.get? e = some u)
    (new : ObjOk P w (upd H x o') h' x o') : HOk P w (upd H x o') h' := fun b u q => by
  have nown : ∀ c y, H c = some (.own y) → c ≠ x := fun c y r z => by subst z; rw [r] at mu; exact mu
  have ntup : ∀ c xs, H c = some (.tup xs) → c ≠ x := fun c xs r z => by subst z; rw [r] at mu; exact mu
  by_cases hb : b = x
  · subst hb; rw [upd_same] at q; cases q; exact new
  · rw [upd_ne hb] at q
    by_cases hbe : b = e
    · have q' : H b = some (.own x) := by
        rcases he with z | z
        · exact absurd (hbe.trans z) hb
        · rw [hbe]; exact z
      rw [q] at q'; cases q'
      obtain ⟨v, hv⟩ := heo
      exact ⟨v, by rw [hbe]; exact hv⟩
    · refine (ok b u q).stay (fun c v hc r => k c v ?_ r) (fun c r => by rw [upd_ne (nown c b r)]; exact r) fun c xs r => by rw [upd_ne (ntup c xs r)]; exact r
      rcases hc with rfl | hc
      · exact hbe
      · rintro rfl
        rcases he with z | z
        · exact nown c b hc z
        · rw [hc] at z; cases z; exact hb rfl
end

/-! ### kept unless tracked; of the frames at fs (the callers') the slots may change (an exception that passes writes there); of the records at ex (iterators) nothing is said -/
structure Un (fs ex : List Addr) (H H' : Hp) (h h' : Heap) : Prop where
  keep : ∀ b o, h.get? b = some o → H b = none → b ∉ fs → b ∉ ex → h'.get? b = some o
  slot : ∀ b o, h.get? b = some o → H b = none → b ∈ fs → b ∉ ex → ∃ sl, h'.get? b = some { o with slots := sl }
  free : ∀ b o, h.get? b = some o → H b = none → b ∉ ex → H' b = none
  there : ∀ b o, h.get? b = some o → b ∉ ex → ∃ o', h'.get? b = some o'
  tups : ∀ b xs, H b = some (.tup xs) → H' b = some (.tup xs)
  frzs : ∀ b o u, H b = some (.frz o u) → H' b = some (.frz o u)
  tbls : ∀ b ps, H b = some (.tbl ps) → ∃ more, H' b = some (.tbl (ps ++ more))
section
variable {fs fs' ex ex' : List Addr} {H H1 H2 : Hp} {h h1 h2 h' : Heap} {a x e : Addr} {o : HO}
theorem Un.any (u : Un fs ex H H1 h h1) {b : Addr} {ob : Obj} (q : h.get? b = some ob) (n : H b = none) (hx : b ∉ ex) : ∃ sl, h1.get? b = some { ob with slots := sl } := by
  by_cases hb : b ∈ fs
  · exact u.slot b ob q n hb hx
  · exact ⟨ob.slots, u.keep b ob q n hb hx⟩
theorem Un.trans (a : Un fs ex H H1 h h1) (b : Un fs ex H1 H2 h1 h2) : Un fs ex H H2 h h2 where
  keep := fun c ob q n hc hx => b.keep c ob (a.keep c ob q n hc hx) (a.free c ob q n hx) hc hx
  slot := fun c ob q n hc hx => by
    obtain ⟨sl, e1⟩ := a.slot c ob q n hc hx
    obtain ⟨sl', e2⟩ := b.slot c _ e1 (a.free c ob q n hx) hc hx
    exact ⟨sl', e2⟩
  free := fun c ob q n hx => by
    obtain ⟨o', e1⟩ := a.there c ob q hx
    exact b.free c o' e1 (a.free c ob q n hx) hx
  there := fun c ob q hx => by
    obtain ⟨o', e1⟩ := a.there c ob q hx
    exact b.there c o' e1 hx
  tups := fun c xs q => b.tups c xs (a.tups c xs q)
  frzs := fun c ob xs q => b.frzs c ob xs (a.frzs c ob xs q)
  tbls := fun c ps q => by
    obtain ⟨m1, e1⟩ := a.tbls c ps q
    obtain ⟨m2, e2⟩ := b.tbls c _ e1
    exact ⟨m1 ++ m2, by rw [e2, Array.append_assoc]⟩
theorem Un.kept (k : ∀ b u, h.get? b = some u → h'.get? b = some u) : Un fs ex H H h h' :=
  ⟨fun b ob q _ _ _ => k b ob q, fun b ob q _ _ _ => ⟨ob.slots, k b ob q⟩, fun _ _ _ n _ => n, fun b ob q _ => ⟨ob, k b ob q⟩, fun _ _ q => q, fun _ _ _ q => q, fun _ ps q => ⟨#[], by rw [q]; simp⟩⟩
theorem Un.refl : Un fs ex H H h h := Un.kept fun _ _ q => q
theorem Un.laid (k : ∀ b u, h.get? b = some u → h'.get? b = some u) (hp : h.objs.size ≤ a) (hn : H a = none) : Un fs ex H (upd H a o) h h' where
  keep := fun b u q _ _ _ => k b u q
  slot := fun b u q _ _ _ => ⟨u.slots, k b u q⟩
  free := fun b u q n _ => by rw [upd_ne (Nat.ne_of_lt (Nat.lt_of_lt_of_le (Heap.lt_size q) hp))]; exact n
  there := fun b u q _ => ⟨u, k b u q⟩
  tups := fun b xs q => by rw [upd_ne (ne_of_none q hn)]; exact q
  frzs := fun b u xs q => by rw [upd_ne (ne_of_none q hn)]; exact q
  tbls := fun b ps q => ⟨#[], by rw [upd_ne (ne_of_none q hn), q]; simp⟩
theorem Un.write (mu : Mut (H x)) (he : e = x ∨ H e = some (.own x)) (k : ∀ b u, b ≠ e → h.get? b = some u → h'.get? b = some u) (heo : ∃ u, h'.get? e = some u) : Un fs ex H (upd H x o) h h' := by
  have hx : ∀ b, H b = none → b ≠ x := fun b n z => by subst z; rw [n] at mu; exact mu
  have hb : ∀ b, H b = none → b ≠ e := fun b n z => by
    subst z
    rcases he with r | r
    · exact hx b n r
    · rw [n] at r; cases r
  have hm : ∀ b u, H b = some u → ¬ Mut (some u) → b ≠ x := fun b u q nm z => by subst z; rw [q] at mu; exact nm mu
  refine ⟨fun b u q n _ _ => k b u (hb b n) q, fun b u q n _ _ => ⟨u.slots, k b u (hb b n) q⟩, fun b u q n _ => by rw [upd_ne (hx b n)]; exact n, fun b u q _ => ?_,
    fun b xs q => by rw [upd_ne (hm b _ q fun z => z)]; exact q, fun b u xs q => by rw [upd_ne (hm b _ q fun z => z)]; exact q, fun b ps q => ⟨#[], by rw [upd_ne (hm b _ q fun z => z), q]; simp⟩⟩
  by_cases hbe : b = e
  · subst hbe; exact heo
  · exact ⟨u, k b u hbe q⟩
theorem Un.mono (u : Un fs ex H H1 h h1) (hs : ∀ b ∈ fs, b ∈ fs') (hx : ∀ b ∈ ex, b ∈ ex') : Un fs' ex' H H1 h h1 :=
  ⟨fun b ob q n hb he => u.keep b ob q n (fun z => hb (hs b z)) fun z => he (hx b z), fun _ _ q n _ he => u.any q n fun z => he (hx _ z), fun b ob q n he => u.free b ob q n fun z => he (hx b z), fun b ob q he => u.there b ob q fun z => he (hx b z), u.tups, u.frzs, u.tbls⟩
end

/-! ### the heap without what is tracked -/
def trk (h : Heap) (H : Hp) : List Addr := (List.range h.objs.size).filter fun a => (H a).isSome
def hidT (h : Heap) (H : Hp) : Heap := PySem.W.hideAll h (trk h H)
theorem hidT_size (h : Heap) (H : Hp) : (hidT h H).objs.size = h.objs.size := PySem.W.hideAll_size _ _
theorem hidT_get {h : Heap} {H : Hp} {b : Addr} {o : Obj} (e : h.get? b = some o) (n : H b = none) : (hidT h H).get? b = some o :=
  PySem.W.hideAll_get _ e fun hm => by
    have q : (H b).isSome = true := (List.mem_filter.mp hm).2
    rw [n] at q; simp at q
theorem of_hidT {h : Heap} {H : Hp} {b : Addr} {o : Obj} (e : (hidT h H).get? b = some o) : h.get? b = some o ∧ H b = none := by
  have e' : h.get? b = some o := PySem.W.of_hideAll (trk h H) e
  refine ⟨e', ?_⟩
  cases q : H b with
  | none => rfl
  | some x =>
    have hm : b ∈ trk h H := List.mem_filter.mpr ⟨List.mem_range.mpr (Heap.lt_size e'), by simp [q]⟩
    have z : (hidT h H).get? b = none := PySem.W.hideAll_none (trk h H) hm
    rw [z] at e; cases e

/-! ### OpenK's ledger, filled with every new object but one -/
def allNews (g h : Heap) (L : Addr) : List (Addr × Obj) := (List.range h.objs.size).filterMap fun a => if a = L ∨ (g.get? a).isSome = true then none else (h.get? a).map fun o => (a, o)
theorem mem_allNews {g h : Heap} {L a : Addr} {o : Obj} (h1 : a ≠ L) (h2 : g.get? a = none) (h3 : h.get? a = some o) : (a, o) ∈ allNews g h L :=
  List.mem_filterMap.mpr ⟨a, List.mem_range.mpr (Heap.lt_size h3), by simp [h1, h2, h3]⟩
theorem of_mem_allNews {g h : Heap} {L : Addr} {p : Addr × Obj} (hp : p ∈ allNews g h L) : p.1 ≠ L ∧ g.get? p.1 = none ∧ h.get? p.1 = some p.2 := by
  obtain ⟨b, _, e⟩ := List.mem_filterMap.mp hp
  split at e
  · cases e
  · rename_i hn
    cases q : h.get? b with
    | none => rw [q] at e; simp at e
    | some u =>
      rw [q] at e
      simp only [Option.map_some, Option.some.injEq] at e
      subst e
      refine ⟨fun z => hn (.inl z), ?_, q⟩
      show g.get? b = none
      cases r : g.get? b with
      | none => rfl
      | some v => exact (hn (.inr (by simp [r]))).elim
def rest (g h : Heap) (L d : Addr) : List (Addr × Obj) := (allNews g h L).filter fun p => decide (p.1 ≠ d)
theorem rest_ne {g h : Heap} {L d : Addr} : ∀ p ∈ rest g h L d, p.1 ≠ d := fun p hp => of_decide_eq_true (List.mem_filter.mp hp).2
theorem mem_rest {g h : Heap} {L d a : Addr} {o : Obj} (h1 : a ≠ L) (h2 : g.get? a = none) (h3 : h.get? a = some o) (h4 : a ≠ d) : (a, o) ∈ rest g h L d :=
  List.mem_filter.mpr ⟨mem_allNews h1 h2 h3, decide_eq_true h4⟩
theorem news_all {g h : Heap} {L : Addr} : News g L h (allNews g h L) := fun p hp => let ⟨a, b, c⟩ := of_mem_allNews hp; ⟨c, a, b⟩
theorem news_at {g h : Heap} {L d : Addr} {o : Obj} (h1 : d ≠ L) (h2 : g.get? d = none) (h3 : h.get? d = some o) : News g L h ((d, o) :: rest g h L d) := fun p hp => by
  rcases List.mem_cons.mp hp with rfl | hp
  · exact ⟨h3, h1, h2⟩
  · exact news_all p (List.mem_filter.mp hp).1
/-- behind a rule that changed d alone: all else but the frame is kept -/
theorem kept_of_news {g h h' : Heap} {L d : Addr} {m : Str → Option Value} (k : ∀ b o, g.get? b = some o → h.get? b = some o) (F : Fr g L h' m) (N : News g L h' (rest g h L d)) :
    ∀ b o, b ≠ L → b ≠ d → h.get? b = some o → h'.get? b = some o := fun b o h1 h2 e => by
  cases q : g.get? b with
  | some u =>
    have := k b u q
    rw [e] at this; cases this
    exact F.keep b _ q
  | none => exact (N (b, o) (mem_rest h1 q e h2)).1
end L2

namespace L2
open PySem PySem.Spec PyProof.Rows

/-- the module's facts, over the base: the heap at the law's entry without what is tracked there -/
structure Mod (K : PySem.W.Frag) (mg : Str → Option Value) (base : Heap) : Prop where
  kin : K.In base
  glob : base.Ns mainGlobals mg
  blt : ∃ mb, base.Ns builtinsNs mb ∧ ∀ x : Str, x ≠ "__name__" → mb x = bootBuiltins x
  nolimit : base.NoLimit

/-- the context: a def's body (or a comprehension's block) running. base: fixed through the whole law; s₀, H₀: the entry; outer: the frames whose slots others may change (a def's callers); stack: all frames that run;
   ex: iterators that were made ahead of the entry and are walked here (a comprehension's); fn: the names whose cells were made at the entry (a def: all; a comprehension's block: its own); calm: not within an except suite; pn: pins that every state bears; xe: what is wanted of an exception that leaves the code -/
structure Cx where
  prog : Program
  w : World
  K : PySem.W.Frag
  mg : Str → Option Value
  base : Heap
  A : Around
  N : List Str
  s₀ : Shared
  H₀ : Hp
  env : Env
  outer : List Env
  stack : List Env
  ex : List Addr
  fn : Str → Bool
  calm : Bool
  pn : List (Addr × Obj)
  xe : Value → Shared → Prop
/-- the callers' frames -/
def frs (l : List Env) : List Addr := l.filterMap (·.frame)
abbrev Cx.fs (X : Cx) : List Addr := frs X.outer

def Vis (sc : Scope) (x : Str) : Prop := sc.names.lookup x = some .local ∨ sc.names.lookup x = some .cell ∨ sc.names.lookup x = some .free
def Loc (sc : Scope) (x : Str) : Prop := sc.names.lookup x = some .local ∨ sc.names.lookup x = some .cell
def Look (env : Env) (h : Heap) (m : Str → Option Value) (x : Str) (u : Value) : Prop :=
  (env.kindOf x = some .local ∧ m x = some u) ∨ ((env.kindOf x = some .cell ∨ env.kindOf x = some .free) ∧ ∃ c, env.cells.lookup x = some c ∧ h.IsCell c (some u))

structure Cx.Ok (X : Cx) : Prop where
  mod : Mod X.K X.mg X.base
  kind : X.env.scope.kind = .function
  glob : X.env.globals = mainGlobals
  blt : X.env.builtins = builtinsNs
  above : X.s₀.heap.objs.size ≤ X.env.locals
  inj : ∀ x y c, X.env.cells.lookup x = some c → X.env.cells.lookup y = some c → x = y
  has : ∀ x, (X.env.kindOf x = some .cell ∨ X.env.kindOf x = some .free) → ∃ c, X.env.cells.lookup x = some c
  cab : ∀ x c, X.fn x = true → X.env.cells.lookup x = some c → X.s₀.heap.objs.size ≤ c
  hd : X.calm = true → X.A.handled = none
  frames : X.A.frames = some X.stack
  stk : X.stack = X.outer ∨ (X.stack = X.env :: X.outer ∧ X.env.frame = some X.env.locals)
  exf : ∀ b ∈ X.ex, b ≠ X.env.locals ∧ ∀ x c, X.env.cells.lookup x = some c → c ≠ b
  bs : ∀ b o, X.base.get? b = some o → X.s₀.heap.get? b = some o ∧ X.H₀ b = none
  bsz : X.base.objs.size ≤ X.s₀.heap.objs.size
  noex : ∀ b o, X.base.get? b = some o → b ∉ X.ex
  exfs : ∀ b ∈ X.ex, b ∉ X.fs
  funs : X.s₀.heap.FunFrames X.base X.outer
  frf : ∀ b ∈ X.fs, X.H₀ b = none

structure Inv (X : Cx) (pins : List (Addr × Obj)) (σ : List (Option V)) (H : Hp) (s : Shared) : Prop where
  ok : X.Ok
  os : s.os = X.s₀.os
  bare : AllBare s.gens
  base : Un X.fs X.ex X.H₀ H X.s₀.heap s.heap
  loc : ∃ m, s.heap.Ns X.env.locals m ∧ ∀ (i : Nat) (x : Str) (v : V), X.N[i]? = some x → σ[i]? = some (some v) → Vis X.env.scope x → ∃ u, RelV v u ∧ Look X.env s.heap m x u
  cell : ∀ x c, X.env.cells.lookup x = some c → ∃ v, s.heap.IsCell c v
  free : H X.env.locals = none
  freeC : ∀ x c, X.env.cells.lookup x = some c → H c = none
  pin : ∀ p ∈ X.pn ++ pins, s.heap.get? p.1 = some p.2 ∧ H p.1 = none ∧ p.1 ≠ X.env.locals ∧ p.1 ∉ X.fs ∧ ∀ v, p.2.data ≠ .cell v
  hok : HOk X.prog X.w H s.heap
  len : σ.length = X.N.length

section
variable {X : Cx} {pins : List (Addr × Obj)} {σ : List (Option V)} {H H' : Hp} {s : Shared} {h' : Heap}

theorem Cx.Ok.nofr (ok : X.Ok) {b : Addr} {o : Obj} (e : X.base.get? b = some o) : b ∉ X.fs := fun hb => by
  have := (ok.funs.mem hb).1
  rw [e] at this; cases this
theorem Inv.bs (I : Inv X pins σ H s) : ∀ b o, X.base.get? b = some o → s.heap.get? b = some o ∧ H b = none := fun b o e =>
  ⟨I.base.keep b o (I.ok.bs b o e).1 (I.ok.bs b o e).2 (I.ok.nofr e) (I.ok.noex b o e), I.base.free b o (I.ok.bs b o e).1 (I.ok.bs b o e).2 (I.ok.noex b o e)⟩
theorem Inv.bk (I : Inv X pins σ H s) : ∀ b o, X.base.get? b = some o → s.heap.get? b = some o := fun b o e => (I.bs b o e).1
theorem Inv.mod (I : Inv X pins σ H s) : Mod X.K X.mg X.base := I.ok.mod
theorem Inv.kIn (I : Inv X pins σ H s) : X.K.In s.heap := I.ok.mod.kin.keeps I.bk
theorem Inv.nolimit (I : Inv X pins σ H s) : s.heap.NoLimit := I.ok.mod.nolimit.keeps I.bk
/-- the frame over the base: for OpenK's rules (K.In X.base is I.mod.kin) -/
theorem Inv.fr (I : Inv X pins σ H s) : ∃ m, Fr X.base X.env.locals s.heap m :=
  let ⟨m, hn, _⟩ := I.loc
  ⟨m, hn, I.bk, Nat.le_trans I.ok.bsz I.ok.above⟩
theorem Inv.lt (I : Inv X pins σ H s) : X.env.locals < s.heap.objs.size := let ⟨_, hn, _⟩ := I.loc; hn.lt
theorem Inv.sz (I : Inv X pins σ H s) : X.s₀.heap.objs.size ≤ s.heap.objs.size := Nat.le_trans I.ok.above (Nat.le_of_lt I.lt)
theorem Inv.nofs (I : Inv X pins σ H s) {a : Addr} (h : s.heap.objs.size ≤ a) : a ∉ X.fs := fun hb => by
  obtain ⟨_, o, ho, _⟩ := I.ok.funs.mem hb
  exact absurd (Nat.lt_of_lt_of_le (Heap.lt_size ho) (Nat.le_trans I.sz h)) (Nat.lt_irrefl _)
theorem Inv.cne (I : Inv X pins σ H s) : ∀ x c, X.env.cells.lookup x = some c → c ≠ X.env.locals := fun x c e z => by
  obtain ⟨v, o, ho, hd⟩ := I.cell x c e
  obtain ⟨m, ⟨o', es, ep, ho', hd', _⟩, _⟩ := I.loc
  rw [z, ho'] at ho; cases ho; rw [hd'] at hd; cases hd
theorem Inv.funs (I : Inv X pins σ H s) : s.heap.FunFrames X.base X.outer := by
  have all : ∀ (l : List Env), (∀ b ∈ frs l, b ∈ X.fs) → X.s₀.heap.FunFrames X.base l → s.heap.FunFrames X.base l := by
    intro l
    induction l with
    | nil => intro _ _; trivial
    | cons env r ih =>
      intro hs hl
      obtain ⟨hk, ⟨L, o, hf, hn, ho, hd⟩, hr⟩ := hl
      have hL : L ∈ X.fs := hs L (by unfold frs; rw [List.filterMap_cons, hf]; exact List.mem_cons_self)
      obtain ⟨sl, e⟩ := I.base.slot L o ho (I.ok.frf L hL) hL fun z => I.ok.exfs L z hL
      exact ⟨hk, ⟨L, _, hf, hn, e, hd⟩, ih (fun b hb => hs b (by unfold frs; rw [List.filterMap_cons, hf]; exact List.mem_cons_of_mem _ hb)) hr⟩
  exact all X.outer (fun _ hb => hb) I.ok.funs

/-- the frames that run, for a call -/
theorem Inv.stack (I : Inv X pins σ H s) : s.heap.FunFrames X.base X.stack := by
  rcases I.ok.stk with e | ⟨e, hf⟩
  · rw [e]; exact I.funs
  · rw [e]
    obtain ⟨m, hn, _⟩ := I.loc
    refine .cons (by rw [I.ok.kind]; decide) hf hn ?_ I.funs
    exact Heap.get?_none_of_le (Nat.le_trans I.ok.bsz I.ok.above)
theorem Inv.stkSub (I : Inv X pins σ H s) : ∀ b ∈ frs X.stack, b ∈ X.env.locals :: X.fs := fun b hb => by
  rcases I.ok.stk with e | ⟨e, hf⟩
  · rw [e] at hb; exact List.mem_cons_of_mem _ hb
  · rw [e] at hb
    unfold frs at hb
    rw [List.filterMap_cons, hf] at hb
    exact hb
theorem Inv.stkFree (I : Inv X pins σ H s) : ∀ b ∈ frs X.stack, H b = none := fun b hb => by
  rcases List.mem_cons.mp (I.stkSub b hb) with e | hb
  · rw [e]; exact I.free
  · obtain ⟨_, o, ho, _⟩ := I.ok.funs.mem hb
    exact I.base.free b o ho (I.ok.frf b hb) fun z => I.ok.exfs b z hb

/-- THE STEP: the untracked objects but the frame and the records at ch are kept (the callers' frames up to slots), the frame's map is kept, the new abstract heap is held -/
theorem Inv.step {g' : Array GenState} {t' : Nat} {d' : Drawn} {ch : List Addr} (I : Inv X pins σ H s)
    (hch : ∀ b ∈ ch, (b ∈ X.ex ∨ X.s₀.heap.objs.size ≤ b) ∧ b ≠ X.env.locals ∧ (∀ x c, X.env.cells.lookup x = some c → c ≠ b) ∧ ∀ p ∈ X.pn ++ pins, p.1 ≠ b)
    (keep : ∀ b o, b ≠ X.env.locals → b ∉ X.fs → b ∉ ch → s.heap.get? b = some o → H b = none → h'.get? b = some o)
    (slot : ∀ b o, b ≠ X.env.locals → b ∈ X.fs → b ∉ ch → s.heap.get? b = some o → H b = none → ∃ sl, h'.get? b = some { o with slots := sl }) (free : ∀ b o, b ∉ ch → s.heap.get? b = some o → H b = none → H' b = none)
    (there : ∀ b o, b ∉ ch → s.heap.get? b = some o → ∃ o', h'.get? b = some o')
    (tups : ∀ b xs, H b = some (.tup xs) → H' b = some (.tup xs)) (frzs : ∀ b o u, H b = some (.frz o u) → H' b = some (.frz o u)) (tbls : ∀ b ps, H b = some (.tbl ps) → ∃ more, H' b = some (.tbl (ps ++ more)))
    (ns : ∀ m, s.heap.Ns X.env.locals m → h'.Ns X.env.locals m) (hok : HOk X.prog X.w H' h') (hg : AllBare g') :
    Inv X pins σ H' { s with heap := h', gens := g', drawn := d', toks := t' } := by
  have neL : ∀ b o, X.s₀.heap.get? b = some o → b ≠ X.env.locals := fun b o e => Nat.ne_of_lt (Nat.lt_of_lt_of_le (Heap.lt_size e) I.ok.above)
  have neC : ∀ b o, X.s₀.heap.get? b = some o → b ∉ X.ex → b ∉ ch := fun b o e hx hb => by
    rcases (hch b hb).1 with z | z
    · exact hx z
    · exact absurd (Nat.lt_of_lt_of_le (Heap.lt_size e) z) (Nat.lt_irrefl _)
  have cellK : ∀ x c, X.env.cells.lookup x = some c → ∀ v, s.heap.IsCell c v → h'.IsCell c v := fun x c e v ⟨o, ho, hd⟩ => by
    have nch : c ∉ ch := fun z => (hch c z).2.2.1 x c e rfl
    by_cases hc : c ∈ X.fs
    · obtain ⟨sl, q⟩ := slot c o (I.cne x c e) hc nch ho (I.freeC x c e)
      exact ⟨_, q, hd⟩
    · exact ⟨o, keep c o (I.cne x c e) hc nch ho (I.freeC x c e), hd⟩
  refine ⟨I.ok, I.os, hg, ⟨fun b o e n hb hx => ?_, fun b o e n hb hx => ?_, fun b o e n hx => ?_, fun b o e hx => ?_, fun b xs e => tups b xs (I.base.tups b xs e), fun b o xs e => frzs b o xs (I.base.frzs b o xs e), fun b ps e => ?_⟩, ?_, fun x c e => ?_, ?_, fun x c e => ?_, fun p hp => ?_, hok, I.len⟩
  · exact keep b o (neL b o e) hb (neC b o e hx) (I.base.keep b o e n hb hx) (I.base.free b o e n hx)
  · obtain ⟨sl, e1⟩ := I.base.slot b o e n hb hx
    obtain ⟨sl', e2⟩ := slot b _ (neL b o e) hb (neC b o e hx) e1 (I.base.free b o e n hx)
    exact ⟨sl', e2⟩
  · obtain ⟨o', e1⟩ := I.base.there b o e hx
    exact free b o' (neC b o e hx) e1 (I.base.free b o e n hx)
  · obtain ⟨o', e1⟩ := I.base.there b o e hx
    exact there b o' (neC b o e hx) e1
  · obtain ⟨m1, e1⟩ := I.base.tbls b ps e
    obtain ⟨m2, e2⟩ := tbls b _ e1
    exact ⟨m1 ++ m2, by rw [e2, Array.append_assoc]⟩
  · obtain ⟨m, hn, hl⟩ := I.loc
    refine ⟨m, ns m hn, fun i x v e1 e2 e3 => ?_⟩
    obtain ⟨u, r, l⟩ := hl i x v e1 e2 e3
    refine ⟨u, r, ?_⟩
    rcases l with l | ⟨k, c, e, z⟩
    · exact .inl l
    · exact .inr ⟨k, c, e, cellK x c e _ z⟩
  · obtain ⟨v, z⟩ := I.cell x c e
    exact ⟨v, cellK x c e v z⟩
  · obtain ⟨m, ⟨o, _, _, ho, _⟩, _⟩ := I.loc
    exact free _ o (fun z => (hch _ z).2.1 rfl) ho I.free
  · obtain ⟨v, o, ho, hd⟩ := I.cell x c e
    exact free c o (fun z => (hch c z).2.2.1 x c e rfl) ho (I.freeC x c e)
  · obtain ⟨e, n, ne, nf, d⟩ := I.pin p hp
    have nch : p.1 ∉ ch := fun z => (hch p.1 z).2.2.2 p hp rfl
    exact ⟨keep p.1 p.2 ne nf nch e n, free p.1 p.2 nch e n, ne, nf, d⟩
/-- .. where the frame's own object is kept too -/
theorem Inv.un {t' : Nat} (I : Inv X pins σ H s) (u : Un X.fs [] H H' s.heap h') (hok : HOk X.prog X.w H' h') : Inv X pins σ H' { s with heap := h', toks := t' } := by
  obtain ⟨m, ⟨o, es, ep, ho, r⟩, _⟩ := id I.loc
  obtain ⟨sl, hL⟩ := u.any ho I.free (by simp)
  exact I.step (g' := s.gens) (d' := s.drawn) (ch := []) (fun _ z => nomatch z) (fun b o _ hb _ e n => u.keep b o e n hb (by simp)) (fun b o _ hb _ e n => u.slot b o e n hb (by simp)) (fun b o _ e n => u.free b o e n (by simp)) (fun b o _ e => u.there b o e (by simp)) u.tups u.frzs u.tbls (fun m' hm => by
    obtain ⟨o', es', ep', ho', r'⟩ := hm
    rw [ho] at ho'; cases ho'
    exact ⟨_, es', ep', hL, r'⟩) hok I.bare
/-- behind a call (or a comprehension's block): the slots of this frame may have changed too, the records at ch may have turned -/
theorem Inv.call {g' : Array GenState} {t' : Nat} {d' : Drawn} {ch : List Addr} (I : Inv X pins σ H s) (u : Un (frs X.stack) ch H H' s.heap h') (hok : HOk X.prog X.w H' h') (hg : AllBare g')
    (hch : ∀ b ∈ ch, (b ∈ X.ex ∨ X.s₀.heap.objs.size ≤ b) ∧ b ≠ X.env.locals ∧ (∀ x c, X.env.cells.lookup x = some c → c ≠ b) ∧ ∀ p ∈ X.pn ++ pins, p.1 ≠ b) :
    Inv X pins σ H' { s with heap := h', gens := g', drawn := d', toks := t' } := by
  obtain ⟨m, ⟨o, es, ep, ho, r⟩, _⟩ := id I.loc
  obtain ⟨sl, hL⟩ := u.any ho I.free fun z => (hch _ z).2.1 rfl
  exact I.step (ch := ch) hch (fun b o hL hb hc e n => u.keep b o e n (fun z => (List.mem_cons.mp (I.stkSub b z)).elim hL hb) hc) (fun b o _ _ hc e n => u.any e n hc) (fun b o hc e n => u.free b o e n hc) (fun b o hc e => u.there b o e hc) u.tups u.frzs u.tbls (fun m' hm => by
    obtain ⟨o', es', ep', ho', r'⟩ := hm
    rw [ho] at ho'; cases ho'
    exact ⟨_, es', ep', hL, r'⟩) hok hg
/-- an untracked record of ours (an iterator) has turned -/
theorem Inv.turned {t' : Nat} {it : Addr} (I : Inv X pins σ H s) (k : ∀ b o, b ≠ it → s.heap.get? b = some o → h'.get? b = some o) (hn : H it = none) (hL : it ≠ X.env.locals)
    (h1 : it ∈ X.ex ∨ X.s₀.heap.objs.size ≤ it) (h2 : ∀ x c, X.env.cells.lookup x = some c → c ≠ it) (h3 : ∀ p ∈ X.pn ++ pins, p.1 ≠ it) : Inv X pins σ H { s with heap := h', toks := t' } := by
  have nit : ∀ b u, H b = some u → b ≠ it := fun b u e z => by rw [z, hn] at e; cases e
  refine I.step (g' := s.gens) (d' := s.drawn) (ch := [it]) (fun b hb => ?_) (fun b o _ _ hc e _ => k b o (fun z => hc (by simp [z])) e) (fun b o _ _ hc e _ => ⟨o.slots, k b o (fun z => hc (by simp [z])) e⟩) (fun _ _ _ _ n => n)
    (fun b o hc e => ⟨o, k b o (fun z => hc (by simp [z])) e⟩) (fun _ _ e => e) (fun _ _ _ e => e) (fun b ps e => ⟨#[], by rw [e]; simp⟩) (fun m hm => ?_) (fun b u e => ?_) I.bare
  · have e : b = it := by simpa using hb
    subst e
    exact ⟨h1, hL, h2, h3⟩
  · obtain ⟨o, es, ep, ho, r⟩ := hm
    exact ⟨o, es, ep, k _ o (Ne.symm hL) ho, r⟩
  · refine (I.hok b u e).stay (fun c v hc q => k c v ?_ q) (fun _ q => q) fun _ _ q => q
    rcases hc with z | z
    · rw [z]; exact nit b u e
    · exact nit c _ z
theorem Inv.tok (I : Inv X pins σ H s) (t : Nat) : Inv X pins σ H { s with toks := t } := I.un (h' := s.heap) (t' := t) Un.refl I.hok
/-- all objects kept -/
theorem Inv.kept {t' : Nat} (I : Inv X pins σ H s) (k : ∀ b u, s.heap.get? b = some u → h'.get? b = some u) : Inv X pins σ H { s with heap := h', toks := t' } := I.un (Un.kept k) (I.hok.kept k)
/-- a new object laid and tracked -/
theorem Inv.laid {a : Addr} {o : HO} {t' : Nat} (I : Inv X pins σ H s) (k : ∀ b u, s.heap.get? b = some u → h'.get? b = some u) (hp : s.heap.objs.size ≤ a) (new : ObjOk X.prog X.w (upd H a o) h' a o) :
    Inv X pins σ (upd H a o) { s with heap := h', toks := t' } := I.un (Un.laid k hp (I.hok.fresh hp)) (I.hok.laid k hp new)
/-- an object written -/
theorem Inv.write {x e : Addr} {o : HO} {t' : Nat} (I : Inv X pins σ H s) (mu : Mut (H x)) (he : e = x ∨ H e = some (.own x)) (k : ∀ b u, b ≠ e → s.heap.get? b = some u → h'.get? b = some u) (heo : ∃ u, h'.get? e = some u)
    (new : ObjOk X.prog X.w (upd H x o) h' x o) : Inv X pins σ (upd H x o) { s with heap := h', toks := t' } := I.un (Un.write mu he k heo) (I.hok.write mu he k heo new)
/-- forgetting slots, pins -/
theorem Inv.weak {σ' : List (Option V)} (I : Inv X pins σ H s) (hl : σ'.length = σ.length) (w : ∀ (i : Nat) v, σ'[i]? = some (some v) → σ[i]? = some (some v)) : Inv X pins σ' H s :=
  ⟨I.ok, I.os, I.bare, I.base, let ⟨m, hn, hl'⟩ := I.loc; ⟨m, hn, fun i x v e1 e2 e3 => hl' i x v e1 (w i v e2) e3⟩, I.cell, I.free, I.freeC, I.pin, I.hok, hl.trans I.len⟩
theorem Inv.pins_of {pins' : List (Addr × Obj)} (I : Inv X pins σ H s) (h : ∀ p ∈ pins', s.heap.get? p.1 = some p.2 ∧ H p.1 = none ∧ p.1 ≠ X.env.locals ∧ p.1 ∉ X.fs ∧ ∀ v, p.2.data ≠ .cell v) : Inv X pins' σ H s :=
  ⟨I.ok, I.os, I.bare, I.base, I.loc, I.cell, I.free, I.freeC, fun p hp => (List.mem_append.mp hp).elim (fun z => I.pin p (List.mem_append_left _ z)) (h p), I.hok, I.len⟩

theorem nodup_ix {N : List Str} (hN : N.Nodup) {i j : Nat} {x : Str} (a : N[i]? = some x) (b : N[j]? = some x) : i = j := by
  obtain ⟨h1, e1⟩ := List.getElem?_eq_some_iff.mp a
  obtain ⟨h2, e2⟩ := List.getElem?_eq_some_iff.mp b
  exact (List.getElem_inj hN).mp (e1.trans e2.symm)

/-- a name is stored; what changed -/
theorem store_ok2 {M : Model} {A : Around} {E : Value → Shared → Prop} {i : Nat} {x : Str} {v : V} {u : Value} {Q : Unit → Shared → Prop} (I : Inv X pins σ H s) (hN : X.N.Nodup) (hi : X.N[i]? = some x) (hx : Loc X.env.scope x) (r : RelV v u)
    (h : ∀ s', Inv X pins (σ.set i (some v)) H s' → (∃ a, Heap.SameBut a s.heap s'.heap ∧ (a = X.env.locals ∨ X.env.cells.lookup x = some a)) → Q () s') (hf : X.fn x = true ∨ X.env.scope.names.lookup x = some .local := by first | exact .inl rfl | exact .inr rfl | assumption) : wpAny M A (storeName X.env x u) Q E s := by
  obtain ⟨m, hn, hl⟩ := id I.loc
  have hcls : (X.env.scope.kind == .class || (X.env.scope.kind == .module && X.env.locals != X.env.globals)) = false := by rw [I.ok.kind]; rfl
  have hiσ : i < σ.length := by rw [I.len]; exact (List.getElem?_eq_some_iff.mp hi).1
  have cne := I.cne
  have tracked : ∀ {a : Addr} {h' : Heap}, (∃ o, s.heap.get? a = some o ∧ H a = none) → Heap.SameBut a s.heap h' → HOk X.prog X.w H h' := fun {a h'} ha hs b ob e => by
    obtain ⟨_, _, hfree⟩ := ha
    refine (I.hok b ob e).stay (fun c w' hc q => (hs.2 c ?_).trans q) (fun _ q => q) fun _ _ q => q
    rintro rfl
    rcases hc with rfl | hc
    · rw [hfree] at e; cases e
    · rw [hfree] at hc; cases hc
  rcases hx with hk | hk
  · refine wpAny_storeName_local hk hn (fun h' hn' hs => ?_) hcls
    obtain ⟨oL, _, _, hoL, _⟩ := id hn
    refine h _ ⟨I.ok, I.os, I.bare, ⟨fun b o e n hb hx => ?_, fun b o e n hb hx => ?_, I.base.free, fun b o e hx => ?_, I.base.tups, I.base.frzs, I.base.tbls⟩, ⟨_, hn', fun j y v' e1 e2 e3 => ?_⟩, fun y c e => ?_, I.free, I.freeC, fun p hp => ?_, tracked ⟨oL, hoL, I.free⟩ hs, by simpa using I.len⟩ ⟨_, hs, .inl rfl⟩
    · exact (hs.2 b (Nat.ne_of_lt (Nat.lt_of_lt_of_le (Heap.lt_size e) I.ok.above))).trans (I.base.keep b o e n hb hx)
    · obtain ⟨sl, e1⟩ := I.base.slot b o e n hb hx
      exact ⟨sl, (hs.2 b (Nat.ne_of_lt (Nat.lt_of_lt_of_le (Heap.lt_size e) I.ok.above))).trans e1⟩
    · obtain ⟨o', e1⟩ := I.base.there b o e hx
      exact ⟨o', (hs.2 b (Nat.ne_of_lt (Nat.lt_of_lt_of_le (Heap.lt_size e) I.ok.above))).trans e1⟩
    · by_cases hj : j = i
      · subst hj
        rw [hi] at e1; cases e1
        rw [List.getElem?_set_self hiσ] at e2
        cases e2
        exact ⟨u, r, .inl ⟨hk, by simp⟩⟩
      · rw [List.getElem?_set_ne (Ne.symm hj)] at e2
        obtain ⟨u', r', q⟩ := hl j y v' e1 e2 e3
        refine ⟨u', r', ?_⟩
        rcases q with ⟨k, e⟩ | ⟨k, c, e, z⟩
        · refine .inl ⟨k, ?_⟩
          have : y ≠ x := fun e => hj (nodup_ix hN e1 (e ▸ hi))
          simp [this, e]
        · exact .inr ⟨k, c, e, z.sameBut hs (cne y c e)⟩
    · obtain ⟨w', z⟩ := I.cell y c e
      exact ⟨w', z.sameBut hs (cne y c e)⟩
    · obtain ⟨e, n, ne, nf, d⟩ := I.pin p hp
      exact ⟨(hs.2 p.1 ne).trans e, n, ne, nf, d⟩
  · have hfn : X.fn x = true := by
      rcases hf with z | z
      · exact z
      · rw [z] at hk; cases hk
    obtain ⟨c, hc⟩ := I.ok.has x (.inl hk)
    obtain ⟨w', z⟩ := I.cell x c hc
    refine wpAny_storeName_cell I.ok.kind hk hc z (fun h' hc' hs => ?_)
    obtain ⟨oc, hoc, hocd⟩ := id z
    refine h { s with heap := h' } ⟨I.ok, I.os, I.bare, ⟨fun b o e n hb hx => ?_, fun b o e n hb hx => ?_, I.base.free, fun b o e hx => ?_, I.base.tups, I.base.frzs, I.base.tbls⟩, ⟨m, hn.sameBut hs (Ne.symm (cne x c hc)), fun j y v' e1 e2 e3 => ?_⟩, fun y c' e => ?_, I.free, I.freeC, fun p hp => ?_, tracked ⟨oc, hoc, I.freeC x c hc⟩ hs, by simpa using I.len⟩ ⟨c, hs, .inr hc⟩
    · exact (hs.2 b (Nat.ne_of_lt (Nat.lt_of_lt_of_le (Heap.lt_size e) (I.ok.cab x c hfn hc)))).trans (I.base.keep b o e n hb hx)
    · obtain ⟨sl, e1⟩ := I.base.slot b o e n hb hx
      exact ⟨sl, (hs.2 b (Nat.ne_of_lt (Nat.lt_of_lt_of_le (Heap.lt_size e) (I.ok.cab x c hfn hc)))).trans e1⟩
    · obtain ⟨o', e1⟩ := I.base.there b o e hx
      exact ⟨o', (hs.2 b (Nat.ne_of_lt (Nat.lt_of_lt_of_le (Heap.lt_size e) (I.ok.cab x c hfn hc)))).trans e1⟩
    · by_cases hj : j = i
      · subst hj
        rw [hi] at e1; cases e1
        rw [List.getElem?_set_self hiσ] at e2
        cases e2
        exact ⟨u, r, .inr ⟨.inl hk, c, hc, hc'⟩⟩
      · rw [List.getElem?_set_ne (Ne.symm hj)] at e2
        obtain ⟨u', r', q⟩ := hl j y v' e1 e2 e3
        refine ⟨u', r', ?_⟩
        rcases q with q | ⟨k, c', e, z'⟩
        · exact .inl q
        · refine .inr ⟨k, c', e, z'.sameBut hs ?_⟩
          rintro rfl
          exact hj (nodup_ix hN e1 (I.ok.inj _ _ _ e hc ▸ hi))
    · by_cases hcc : c' = c
      · subst hcc; exact ⟨_, hc'⟩
      · obtain ⟨w2, z2⟩ := I.cell y c' e
        exact ⟨w2, z2.sameBut hs hcc⟩
    · obtain ⟨e, n, ne, nf, d⟩ := I.pin p hp
      refine ⟨(hs.2 p.1 ?_).trans e, n, ne, nf, d⟩
      intro q
      rw [q, hoc] at e
      have q' : oc = p.2 := Option.some.inj e
      exact d w' (by rw [← q']; exact hocd)
theorem store_ok {M : Model} {A : Around} {E : Value → Shared → Prop} {i : Nat} {x : Str} {v : V} {u : Value} {Q : Unit → Shared → Prop} (I : Inv X pins σ H s) (hN : X.N.Nodup) (hi : X.N[i]? = some x) (hx : Loc X.env.scope x) (r : RelV v u)
    (h : ∀ s', Inv X pins (σ.set i (some v)) H s' → Q () s') (hf : X.fn x = true ∨ X.env.scope.names.lookup x = some .local := by first | exact .inl rfl | exact .inr rfl | assumption) : wpAny M A (storeName X.env x u) Q E s :=
  store_ok2 I hN hi hx r (fun s' I' _ => h s' I') hf
/-- behind a call or a block, the state as it is -/
theorem Inv.call' {s' : Shared} {ch : List Addr} (I : Inv X pins σ H s) (ho : s'.os = s.os) (u : Un (frs X.stack) ch H H' s.heap s'.heap) (hok : HOk X.prog X.w H' s'.heap) (hg : AllBare s'.gens)
    (hch : ∀ b ∈ ch, (b ∈ X.ex ∨ X.s₀.heap.objs.size ≤ b) ∧ b ≠ X.env.locals ∧ (∀ x c, X.env.cells.lookup x = some c → c ≠ b) ∧ ∀ p ∈ X.pn ++ pins, p.1 ≠ b) : Inv X pins σ H' s' := by
  obtain ⟨h', g', d', t', o'⟩ := s'
  have e : o' = s.os := ho
  subst e
  exact I.call (g' := g') (t' := t') (d' := d') u hok hg hch
end

/-! ### the judgements -/
/-- an exception: its class, its own dict's address (where it has one), the abstract heap behind it -/
abbrev XK := Value → Option Addr → Hp → Prop
abbrev St := List (Option V)
abbrev VK := V → Hp → Prop
/-- an expression's reading; a test's; an argument list's -/
abbrev TE := St → Hp → VK → Prop
abbrev TT := St → Hp → (Bool → Hp → Prop) → Prop
abbrev TA := St → Hp → (List V → Hp → Prop) → Prop
/-- what is wanted behind a statement -/
structure Ends where
  nx : St → Hp → Prop
  rt : VK
  bk : St → Hp → Prop := fun _ _ => False
  ct : St → Hp → Prop := fun _ _ => False
abbrev TS := Ends → St → Hp → Prop

def EP (X : Cx) (pins : List (Addr × Obj)) (σ : St) (Q : VK) (u : Value) (s' : Shared) : Prop := ∃ v H', Inv X pins σ H' s' ∧ RelV v u ∧ Q v H'
def TP (X : Cx) (pins : List (Addr × Obj)) (σ : St) (Q : Bool → Hp → Prop) (b : Bool) (s' : Shared) : Prop := ∃ H', Inv X pins σ H' s' ∧ Q b H'
def AP (X : Cx) (pins : List (Addr × Obj)) (σ : St) (Q : List V → Hp → Prop) (us : List Value) (s' : Shared) : Prop := ∃ vs H', Inv X pins σ H' s' ∧ Vals vs us ∧ Q vs H'
def SP (X : Cx) (pins : List (Addr × Obj)) (D : Ends) (f : Flow) (s' : Shared) : Prop :=
  match f with
  | .next => ∃ σ' H', Inv X pins σ' H' s' ∧ D.nx σ' H'
  | .brk => ∃ σ' H', Inv X pins σ' H' s' ∧ D.bk σ' H'
  | .cont => ∃ σ' H', Inv X pins σ' H' s' ∧ D.ct σ' H'
  | .ret u => ∃ v σ' H', Inv X pins σ' H' s' ∧ RelV v u ∧ D.rt v H'

def PE (X : Cx) (e : Expr) (t : TE) : Prop :=
  ∀ (pins : List (Addr × Obj)) (s : Shared) (σ : St) (H : Hp) (Q : VK), Inv X pins σ H s → t σ H Q → wpAny (model X.prog X.w) X.A (eval e X.env) (EP X pins σ Q) X.xe s
def PT (X : Cx) (e : Expr) (t : TT) : Prop :=
  ∀ (pins : List (Addr × Obj)) (s : Shared) (σ : St) (H : Hp) (Q : Bool → Hp → Prop), Inv X pins σ H s → t σ H Q → wpAny (model X.prog X.w) X.A (isTrue e X.env (eval e X.env)) (TP X pins σ Q) X.xe s
/-- a test whatever its 'whole' is (and, or) -/
def PW (X : Cx) (e : Expr) (t : TT) : Prop :=
  ∀ (whole : Sem Value) (pins : List (Addr × Obj)) (s : Shared) (σ : St) (H : Hp) (Q : Bool → Hp → Prop), Inv X pins σ H s → t σ H Q → wpAny (model X.prog X.w) X.A (isTrue e X.env whole) (TP X pins σ Q) X.xe s
theorem PW.pt {X : Cx} {e : Expr} {t : TT} (h : PW X e t) : PT X e t := h _
/-- an argument list (no star), from the left -/
def PA (X : Cx) (es : List Expr) (t : TA) : Prop :=
  ∀ (pos : Pos) (pins : List (Addr × Obj)) (s : Shared) (σ : St) (H : Hp) (Q : List V → Hp → Prop), Inv X pins σ H s → t σ H Q → wpAny (model X.prog X.w) X.A (spliced (backTo pos (starEach es X.env))) (AP X pins σ Q) X.xe s
def PS (X : Cx) (st : Stmt) (t : TS) : Prop :=
  ∀ (pins : List (Addr × Obj)) (s : Shared) (σ : St) (H : Hp) (D : Ends), Inv X pins σ H s → t D σ H → wpAny (model X.prog X.w) X.A (exec st X.env) (SP X pins D) X.xe s
def PSs (X : Cx) (st : List Stmt) (t : TS) : Prop :=
  ∀ (pins : List (Addr × Obj)) (s : Shared) (σ : St) (H : Hp) (D : Ends), Inv X pins σ H s → t D σ H → wpAny (model X.prog X.w) X.A (execs st X.env) (SP X pins D) X.xe s
/-- weaken the end -/
theorem thn {α : Type} {t : Sem α} {Q Q' : α → Shared → Prop} {M : Model} {A : Around} {E : Value → Shared → Prop} {s : Shared} (h : wpAny M A t Q E s) (hQ : ∀ a s, Q a s → Q' a s) : wpAny M A t Q' E s := wpAny_mono h hQ fun _ _ x => x
end L2

namespace L2
open PySem PySem.Spec PyProof.Rows
section
variable {X : Cx}

/-- two expressions in a row -/
theorem bin {a b : Expr} {ta tb : TE} (ha : PE X a ta) (hb : PE X b tb) {pins : List (Addr × Obj)} {s : Shared} {σ : St} {H : Hp} {R : V → V → Hp → Prop} (I : Inv X pins σ H s) (h : ta σ H fun x H1 => tb σ H1 fun y H2 => R x y H2)
    {α : Type} {Q : α → Shared → Prop} {f : Value → Value → Sem α}
    (hf : ∀ v u s2 x y H2, Inv X pins σ H2 s2 → RelV x v → RelV y u → R x y H2 → wpAny (model X.prog X.w) X.A (f v u) Q X.xe s2) :
    wpAny (model X.prog X.w) X.A (eval a X.env) (fun v s₁ => wpAny (model X.prog X.w) X.A (eval b X.env) (fun u s₂ => wpAny (model X.prog X.w) X.A (f v u) Q X.xe s₂) X.xe s₁) X.xe s := by
  refine thn (ha pins s σ H _ I h) fun v s1 ⟨x, H1, I1, r1, q1⟩ => ?_
  refine thn (hb pins s1 σ H1 _ I1 q1) fun u s2 ⟨y, H2, I2, r2, q2⟩ => ?_
  exact hf v u s2 x y H2 I2 r1 r2 q2

/-! ### names and constants -/
def tVar (i : Nat) : TE := fun σ H Q => ∃ v, σ[i]? = some (some v) ∧ Q v H
def tC (v : V) : TE := fun _ H Q => Q v H
theorem pe_var {i : Nat} {x : Str} {pos : Pos} (hN : X.N[i]? = some x) (hv : Vis X.env.scope x) (hd : (x == ("__debug__" : Str)) = false := by decide) (hcd : (x == ("__classdict__" : Str)) = false := by decide) : PE X (.Name x pos) (tVar i) := by
  intro pins s σ H Q I h
  obtain ⟨v, e, h⟩ := h
  obtain ⟨m, hn, hl⟩ := I.loc
  obtain ⟨u, r, l⟩ := hl i x v hN e hv
  have fin : EP X pins σ Q u s := ⟨v, H, I, r, h⟩
  rcases l with ⟨hk, hm⟩ | ⟨hk, c, hc, hcell⟩
  · exact wpAny_Name (wpAny_loadName_local I.ok.kind hk hn hm fin) hd
  · rcases hk with hk | hk
    · exact wpAny_Name (wpAny_loadName_cell I.ok.kind hk hc hcell fin) hd
    · exact wpAny_Name (wpAny_loadName_free I.ok.kind hk hc hcell fin hcd) hd
theorem pe_int {i j pos} : PE X (.Constant (.int i) j pos) (tC (.int i)) := fun _ _ _ H _ I h => wpAny_Constant_int ⟨.int i, H, I.tok _, ⟨_, rfl⟩, h⟩
theorem pe_bl {b j pos} : PE X (.Constant (.bool b) j pos) (tC (.bl b)) := fun _ _ _ H _ I h => Constant_bool ⟨.bl b, H, I, rfl, h⟩
theorem pe_non {j pos} : PE X (.Constant .none j pos) (tC .non) := fun _ _ _ H _ I h => Constant_none ⟨.non, H, I, rfl, h⟩
theorem pe_str {x j pos} : PE X (.Constant (.str x) j pos) (tC (.str x)) := fun _ _ _ H _ I h => Calls.Constant_str ⟨.str x, H, I.tok _, ⟨_, rfl⟩, h⟩

/-- a global name of the def -/
def Gl (X : Cx) (x : Str) : Prop := X.env.kindOf x = some .globalImplicit
theorem ld_glob {E : Value → Shared → Prop} {pins : List (Addr × Obj)} {s : Shared} {σ : St} {H : Hp} {x : Str} {u : Value} {pos : Pos} {Q : Value → Shared → Prop} (I : Inv X pins σ H s) (hg : Gl X x) (hm : X.mg x = some u) (h : Q u s)
    (hd : (x == ("__debug__" : Str)) = false := by decide) : wpAny (model X.prog X.w) X.A (eval (.Name x pos) X.env) Q E s :=
  Calls.Name_function_global I.ok.kind hg (Calls.loadGlobal_global (by rw [I.ok.glob]; exact I.mod.glob.keeps I.bk) hm h) hd
theorem ld_blt {E : Value → Shared → Prop} {pins : List (Addr × Obj)} {s : Shared} {σ : St} {H : Hp} {x : Str} {u : Value} {pos : Pos} {Q : Value → Shared → Prop} (I : Inv X pins σ H s) (hg : Gl X x) (hm : X.mg x = none) (hv : bootBuiltins x = some u) (h : Q u s)
    (hn : x ≠ "__name__" := by decide) (hd : (x == ("__debug__" : Str)) = false := by decide) : wpAny (model X.prog X.w) X.A (eval (.Name x pos) X.env) Q E s := by
  obtain ⟨mb, h1, h2⟩ := I.mod.blt
  exact Calls.Name_function_global I.ok.kind hg (Calls.loadGlobal_builtin (by rw [I.ok.glob]; exact I.mod.glob.keeps I.bk) hm (by rw [I.ok.blt]; exact h1.keeps I.bk) ((h2 x hn).trans hv) h) hd
/-- a module's constant, a class, a function, as a value -/
theorem pe_glob {x : Str} {v : V} {u : Value} {pos : Pos} (hg : Gl X x) (hm : X.mg x = some u) (r : RelV v u) (hd : (x == ("__debug__" : Str)) = false := by decide) : PE X (.Name x pos) (tC v) :=
  fun _ _ _ H _ I h => ld_glob I hg hm ⟨v, H, I, r, h⟩ hd
theorem pe_bltn {x : Str} {v : V} {u : Value} {pos : Pos} (hg : Gl X x) (hm : X.mg x = none) (hv : bootBuiltins x = some u) (r : RelV v u) (hn : x ≠ "__name__" := by decide) (hd : (x == ("__debug__" : Str)) = false := by decide) : PE X (.Name x pos) (tC v) :=
  fun _ _ _ H _ I h => ld_blt I hg hm hv ⟨v, H, I, r, h⟩ hn hd

/-! ### arithmetic -/
/-- two ints -/
def t2I (ta tb : TE) (k : Int → Int → Hp → Prop) : St → Hp → Prop := fun σ H => ta σ H fun x H1 => tb σ H1 fun y H2 => ∃ i j, x = .int i ∧ y = .int j ∧ k i j H2
def tAdd (ta tb : TE) : TE := fun σ H Q => t2I ta tb (fun i j H2 => Q (.int (i + j)) H2) σ H
def tSub (ta tb : TE) : TE := fun σ H Q => t2I ta tb (fun i j H2 => Q (.int (i - j)) H2) σ H
/-- the left factor below 2^64 -/
def tMul (ta tb : TE) : TE := fun σ H Q => t2I ta tb (fun i j H2 => (-(2 ^ 64) < i ∧ i < 2 ^ 64) ∧ Q (.int (i * j)) H2) σ H
variable {a b : Expr} {ta tb : TE} {pos : Pos}
theorem pe_add (ha : PE X a ta) (hb : PE X b tb) : PE X (.BinOp a .Add b pos) (tAdd ta tb) := by
  intro pins s σ H Q I h
  refine wpAny_BinOp (bin ha hb I h fun v u s2 x y H2 I2 rx ry q => ?_)
  obtain ⟨i, j, rfl, rfl, q⟩ := q
  obtain ⟨t, rfl⟩ := rx
  obtain ⟨t', rfl⟩ := ry
  exact add_int ⟨.int _, H2, I2.tok _, ⟨_, rfl⟩, q⟩
theorem pe_sub (ha : PE X a ta) (hb : PE X b tb) : PE X (.BinOp a .Sub b pos) (tSub ta tb) := by
  intro pins s σ H Q I h
  refine wpAny_BinOp (bin ha hb I h fun v u s2 x y H2 I2 rx ry q => ?_)
  obtain ⟨i, j, rfl, rfl, q⟩ := q
  obtain ⟨t, rfl⟩ := rx
  obtain ⟨t', rfl⟩ := ry
  exact sub_int ⟨.int _, H2, I2.tok _, ⟨_, rfl⟩, q⟩
theorem pe_mul (ha : PE X a ta) (hb : PE X b tb) : PE X (.BinOp a .Mult b pos) (tMul ta tb) := by
  intro pins s σ H Q I h
  refine wpAny_BinOp (bin ha hb I h fun v u s2 x y H2 I2 rx ry q => ?_)
  obtain ⟨i, j, rfl, rfl, ⟨q1, q2⟩, q⟩ := q
  obtain ⟨t, rfl⟩ := rx
  obtain ⟨t', rfl⟩ := ry
  exact mul_int ⟨.int _, H2, I2.tok _, ⟨_, rfl⟩, q⟩ (.of_left (intBits_le_64 q1 q2))

/-! ### comparisons -/
def PC (X : Cx) (op : CmpOp) (a b : Expr) (t : TE) : Prop :=
  ∀ (pins : List (Addr × Obj)) (s : Shared) (σ : St) (H : Hp) (Q : VK), Inv X pins σ H s → t σ H Q →
    wpAny (model X.prog X.w) X.A (eval a X.env) (fun v s₁ => wpAny (model X.prog X.w) X.A (eval b X.env) (fun u s₂ => wpAny (model X.prog X.w) X.A (compareOp op v u) (EP X pins σ Q) X.xe s₂) X.xe s₁) X.xe s
theorem nobehind (b : Expr) {op : CmpOp} (h : op ≠ .In) (h2 : op ≠ .NotIn) : behindInMarks op b = false := by
  have e1 : (op == CmpOp.In) = false := by cases op <;> first | rfl | exact absurd rfl h
  have e2 : (op == CmpOp.NotIn) = false := by cases op <;> first | rfl | exact absurd rfl h2
  cases b <;> simp [behindInMarks, e1, e2]
def tCmp (p : Int → Int → Bool) (ta tb : TE) : TE := fun σ H Q => t2I ta tb (fun i j H2 => Q (.bl (p i j)) H2) σ H
abbrev tLt : TE → TE → TE := tCmp fun i j => decide (i < j)
abbrev tLe : TE → TE → TE := tCmp fun i j => decide (i ≤ j)
abbrev tGt : TE → TE → TE := tCmp fun i j => decide (j < i)
abbrev tGe : TE → TE → TE := tCmp fun i j => decide (j ≤ i)
abbrev tEqI : TE → TE → TE := tCmp fun i j => decide (i = j)
abbrev tNeI : TE → TE → TE := tCmp fun i j => !decide (i = j)
/-- a comparison of two ints, by its rule -/
theorem pc_int {op : CmpOp} {p : Int → Int → Bool} (ha : PE X a ta) (hb : PE X b tb)
    (rule : ∀ (i j : Int) (t u : Tok) (Q : Value → Shared → Prop) (s : Shared), Q (.bool (p i j)) s → wpAny (model X.prog X.w) X.A (compareOp op (.int i t) (.int j u)) Q X.xe s) : PC X op a b (tCmp p ta tb) := by
  intro pins s σ H Q I h
  refine bin ha hb I h fun v u s2 x y H2 I2 rx ry q => ?_
  obtain ⟨i, j, rfl, rfl, q⟩ := q
  obtain ⟨t, rfl⟩ := rx
  obtain ⟨t', rfl⟩ := ry
  exact rule i j t t' _ s2 ⟨.bl _, H2, I2, rfl, q⟩
theorem pc_lt (ha : PE X a ta) (hb : PE X b tb) : PC X .Lt a b (tLt ta tb) := pc_int ha hb fun _ _ _ _ _ _ h => lt_int h
theorem pc_le (ha : PE X a ta) (hb : PE X b tb) : PC X .LtE a b (tLe ta tb) := pc_int ha hb fun _ _ _ _ _ _ h => le_int h
theorem pc_gt (ha : PE X a ta) (hb : PE X b tb) : PC X .Gt a b (tGt ta tb) := pc_int ha hb fun _ _ _ _ _ _ h => gt_int h
theorem pc_ge (ha : PE X a ta) (hb : PE X b tb) : PC X .GtE a b (tGe ta tb) := pc_int ha hb fun _ _ _ _ _ _ h => ge_int h
theorem pc_eqI (ha : PE X a ta) (hb : PE X b tb) : PC X .Eq a b (tEqI ta tb) := pc_int ha hb fun _ _ _ _ _ _ h => eq_int (by rw [Bool.beq_eq_decide_eq]; exact h)
theorem pc_neI (ha : PE X a ta) (hb : PE X b tb) : PC X .NotEq a b (tNeI ta tb) := pc_int ha hb fun _ _ _ _ _ _ h => ne_int (by rw [bne, Bool.beq_eq_decide_eq]; exact h)
/-- is None -/
def tIsN (ta : TE) : TE := fun σ H Q => ta σ H fun x H1 => Q (.bl (decide (x = .non))) H1
def tNotN (ta : TE) : TE := fun σ H Q => ta σ H fun x H1 => Q (.bl (!decide (x = .non))) H1
theorem RelV.none_iff {x : V} {v : Value} (r : RelV x v) : (v == Value.none) = decide (x = .non) := by
  cases x with
  | non => cases r; rfl
  | bl _ => cases r; rfl
  | int _ => obtain ⟨t, rfl⟩ := r; rfl
  | str _ => obtain ⟨t, rfl⟩ := r; rfl
  | byt _ => obtain ⟨t, rfl⟩ := r; rfl
  | flt _ => obtain ⟨t, rfl⟩ := r; rfl
  | ref _ => cases r; rfl
  | ty _ => cases r; rfl
theorem pc_isN {j pos'} (ha : PE X a ta) : PC X .Is a (.Constant .none j pos') (tIsN ta) := by
  intro pins s σ H Q I h
  refine thn (ha pins s σ H _ I h) fun v s1 ⟨x, H1, I1, r1, q1⟩ => ?_
  exact Constant_none (is_none_gen ⟨.bl _, H1, I1, by rw [r1.none_iff]; rfl, q1⟩)
theorem pc_notN {j pos'} (ha : PE X a ta) : PC X .IsNot a (.Constant .none j pos') (tNotN ta) := by
  intro pins s σ H Q I h
  refine thn (ha pins s σ H _ I h) fun v s1 ⟨x, H1, I1, r1, q1⟩ => ?_
  exact Constant_none (isnot_none_gen ⟨.bl _, H1, I1, by rw [r1.none_iff]; rfl, q1⟩)
/-- a comparison as a value, as a test -/
def tB (t : TE) : TT := fun σ H Q => t σ H fun x H1 => ∃ c, x = .bl c ∧ Q c H1
theorem pe_cmp {op : CmpOp} {t : TE} (h : PC X op a b t) (h1 : behindInMarks op b = false := by first | exact nobehind _ (by decide) (by decide) | rfl) : PE X (.Compare a [op] [b] pos) t := fun pins s σ H Q I hw => wpAny_Compare1 (h pins s σ H Q I hw) h1
theorem pt_cmp {op : CmpOp} {t : TE} (h : PC X op a b t) (h1 : behindInMarks op b = false := by first | exact nobehind _ (by decide) (by decide) | rfl) : PT X (.Compare a [op] [b] pos) (tB t) := by
  intro pins s σ H Q I hw
  refine wpAny_isTrue_Compare1 (thn (h pins s σ H _ I hw) fun v s1 h1 => thn h1 fun u s2 h2 => thn h2 fun c s3 ⟨x, H1, I1, r1, q1⟩ => ?_) h1
  obtain ⟨d, rfl, q⟩ := q1
  cases r1
  exact wpAny_truthy_bool ⟨H1, I1, q⟩
/-- an expression whose value is a bool, as a test -/
theorem pt_val {e : Expr} {t : TE} (h : PE X e t) (he : ∀ whole, isTrue e X.env whole = (do let v ← whole; standAt e.pos; holding [v] (truthy v)) := by intro _; rfl) : PT X e (tB t) := by
  intro pins s σ H Q I hw
  refine isTrue_plain (thn (h pins s σ H _ I hw) fun v s1 ⟨x, H1, I1, r1, q1⟩ => ?_) (he _)
  obtain ⟨d, rfl, q⟩ := q1
  cases r1
  exact wpAny_truthy_bool ⟨H1, I1, q⟩

/-! ### and, or, not -/
variable {tA tB' : TT} {rest : List Expr}
def tAnd (t u : TT) : TT := fun σ H Q => t σ H fun c H1 => if c = true then u σ H1 Q else Q false H1
def tOr (t u : TT) : TT := fun σ H Q => t σ H fun c H1 => if c = true then Q true H1 else u σ H1 Q
def tNot (t : TT) : TT := fun σ H Q => t σ H fun c H1 => Q (!c) H1
theorem pw_and1 (ha : PT X a tA) : PW X (.BoolOp .And [a] pos) tA := by
  intro wh pins s σ H Q I h
  refine isTrue_and (thn (ha pins s σ H Q I h) fun c s1 e => ?_)
  cases c with
  | true => exact isTrue_and_nil e
  | false => exact e
theorem pw_or1 (ha : PT X a tA) : PW X (.BoolOp .Or [a] pos) tA := by
  intro wh pins s σ H Q I h
  refine isTrue_or (thn (ha pins s σ H Q I h) fun c s1 e => ?_)
  cases c with
  | false => exact isTrue_or_nil e
  | true => exact e
theorem pw_and (ha : PT X a tA) (hb : PW X (.BoolOp .And (b :: rest) pos) tB') : PW X (.BoolOp .And (a :: b :: rest) pos) (tAnd tA tB') := by
  intro wh pins s σ H Q I h
  refine isTrue_and (thn (ha pins s σ H _ I h) fun c s1 ⟨H1, I1, q1⟩ => ?_)
  cases c with
  | true => exact hb wh pins s1 σ H1 Q I1 q1
  | false => exact ⟨H1, I1, q1⟩
theorem pw_or (ha : PT X a tA) (hb : PW X (.BoolOp .Or (b :: rest) pos) tB') : PW X (.BoolOp .Or (a :: b :: rest) pos) (tOr tA tB') := by
  intro wh pins s σ H Q I h
  refine isTrue_or (thn (ha pins s σ H _ I h) fun c s1 ⟨H1, I1, q1⟩ => ?_)
  cases c with
  | true => exact ⟨H1, I1, q1⟩
  | false => exact hb wh pins s1 σ H1 Q I1 q1
theorem pt_not (ha : PT X a tA) : PT X (.UnaryOp .Not a pos) (tNot tA) := by
  intro pins s σ H Q I h
  exact isTrue_not (ha pins s σ H (fun c H1 => Q (!c) H1) I h)
/-- .. as values (bools) -/
def tAndV (ta tb : TE) : TE := fun σ H Q => ta σ H fun x H1 => ∃ c, x = .bl c ∧ if c = true then tb σ H1 Q else Q (.bl false) H1
def tOrV (ta tb : TE) : TE := fun σ H Q => ta σ H fun x H1 => ∃ c, x = .bl c ∧ if c = true then Q (.bl true) H1 else tb σ H1 Q
def tNotV (ta : TE) : TE := fun σ H Q => ta σ H fun x H1 => ∃ c, x = .bl c ∧ Q (.bl (!c)) H1
theorem pe_one {op} {t : TE} (h : PE X a t) : PE X (.BoolOp op [a] pos) t := fun pins s σ H Q I hw => BoolOp_one (h pins s σ H Q I hw)
theorem pe_and (ha : PE X a ta) (hb : PE X (.BoolOp .And (b :: rest) pos) tb) : PE X (.BoolOp .And (a :: b :: rest) pos) (tAndV ta tb) := by
  intro pins s σ H Q I h
  refine BoolOp_and (thn (ha pins s σ H _ I h) fun v s1 ⟨x, H1, I1, r1, q1⟩ => ?_)
  obtain ⟨c, rfl, q1⟩ := q1
  cases r1
  refine wpAny_truthy_bool ?_
  cases c with
  | true => exact hb pins s1 σ H1 Q I1 q1
  | false => exact ⟨.bl false, H1, I1, rfl, q1⟩
theorem pe_or (ha : PE X a ta) (hb : PE X (.BoolOp .Or (b :: rest) pos) tb) : PE X (.BoolOp .Or (a :: b :: rest) pos) (tOrV ta tb) := by
  intro pins s σ H Q I h
  refine BoolOp_or (thn (ha pins s σ H _ I h) fun v s1 ⟨x, H1, I1, r1, q1⟩ => ?_)
  obtain ⟨c, rfl, q1⟩ := q1
  cases r1
  refine wpAny_truthy_bool ?_
  cases c with
  | false => exact hb pins s1 σ H1 Q I1 q1
  | true => exact ⟨.bl true, H1, I1, rfl, q1⟩
theorem pe_not (ha : PE X a ta) : PE X (.UnaryOp .Not a pos) (tNotV ta) := by
  intro pins s σ H Q I h
  refine UnaryOp_ (thn (ha pins s σ H _ I h) fun v s1 ⟨x, H1, I1, r1, q1⟩ => ?_)
  obtain ⟨c, rfl, q1⟩ := q1
  cases r1
  exact not_of (wpAny_truthy_bool ⟨.bl (!c), H1, I1, rfl, q1⟩)
/-- a if t else b -/
def tIf (t : TT) (ta tb : TE) : TE := fun σ H Q => t σ H fun c H1 => if c = true then ta σ H1 Q else tb σ H1 Q
theorem pe_ifExp {c : Expr} (hc : PT X c tA) (ha : PE X a ta) (hb : PE X b tb) : PE X (.IfExp c a b pos) (tIf tA ta tb) := by
  intro pins s σ H Q I h
  refine wpAny_IfExp (thn (hc pins s σ H _ I h) fun d s1 ⟨H1, I1, q1⟩ => ?_)
  cases d with
  | true => exact ha pins s1 σ H1 Q I1 q1
  | false => exact hb pins s1 σ H1 Q I1 q1
end
end L2

namespace L2
open PySem PySem.Spec PyProof.Rows

/-! ### a list, a tuple that is read: tracked, frozen, or an object of the module -/
def SqL (K : PySem.W.Frag) (H : Hp) (a : Addr) (xs : List V) : Prop :=
  Rd H a (.lst xs) ∨
    ∃ (o : Obj) (its : Array Value) (n : Nat), K.lookup a = some o ∧ o.cls = .type "list" ∧ o.dict = none ∧ o.data = .seq its n ∧ its.size ≤ sizeLine ∧ Vals xs its.toList
def SqT (K : PySem.W.Frag) (H : Hp) (a : Addr) (xs : List V) : Prop :=
  Rd H a (.tup xs) ∨
    ∃ (o : Obj) (its : Array Value) (n : Nat), K.lookup a = some o ∧ o.cls = .type "tuple" ∧ o.data = .seq its n ∧ its.size ≤ sizeLine ∧ Vals xs its.toList
def absV : Value → Option V
  | .none => some .non
  | .bool b => some (.bl b)
  | .int i _ => some (.int i)
  | .str x _ => some (.str x)
  | .bytes b _ => some (.byt b)
  | .float b _ => some (.flt b)
  | .ref a => some (.ref a)
  | .type n => some (.ty n)
  | _ => none
theorem RelV.abs {x : V} {u : Value} (r : RelV x u) : absV u = some x := by
  cases x with
  | non => cases r; rfl
  | bl _ => cases r; rfl
  | int _ => obtain ⟨t, rfl⟩ := r; rfl
  | str _ => obtain ⟨t, rfl⟩ := r; rfl
  | byt _ => obtain ⟨t, rfl⟩ := r; rfl
  | flt _ => obtain ⟨t, rfl⟩ := r; rfl
  | ref _ => cases r; rfl
  | ty _ => cases r; rfl
theorem RelV.inj {x y : V} {u : Value} (r : RelV x u) (q : RelV y u) : x = y := Option.some.inj (r.abs.symm.trans q.abs)
theorem Vals.inj : ∀ {xs ys : List V} {us : List Value}, Vals xs us → Vals ys us → xs = ys
  | _, _, _, .nil, .nil => rfl
  | _, _, _, .cons r t, .cons r' t' => by rw [r.inj r', Vals.inj t t']
section
variable {X : Cx} {pins : List (Addr × Obj)} {σ : St} {H : Hp} {s : Shared} {a : Addr} {xs ys : List V}
theorem SqL.of {K : PySem.W.Frag} (h : H a = some (.lst xs)) : SqL K H a xs := .inl (.inl h)
theorem SqT.of {K : PySem.W.Frag} (h : H a = some (.tup xs)) : SqT K H a xs := .inl (.inl h)
theorem Inv.list (I : Inv X pins σ H s) (h : SqL X.K H a xs) : ∃ its : List Value, Vals xs its ∧ PlainL s.heap a its.toArray ∧ xs.length ≤ sizeLine := by
  rcases h with h | ⟨o, its, n, hk, hc, hd, hs, hz, r⟩
  · obtain ⟨z, its, n, r, e⟩ := h.ok I.hok
    exact ⟨its, r, ⟨_, n, e, rfl, rfl, rfl⟩, z⟩
  · refine ⟨its.toList, r, ⟨o, n, I.kIn a o hk, hc, hd, by simpa using hs⟩, ?_⟩
    have e := r.length
    simp only [Array.length_toList] at e
    omega
theorem Inv.tuple (I : Inv X pins σ H s) (h : SqT X.K H a xs) : ∃ its : List Value, Vals xs its ∧ IsTup s.heap a its.toArray ∧ xs.length ≤ sizeLine := by
  rcases h with h | ⟨o, its, n, hk, hc, hs, hz, r⟩
  · obtain ⟨z, its, r, p⟩ := h.ok I.hok
    exact ⟨its, r, p, z⟩
  · refine ⟨its.toList, r, ⟨o, I.kIn a o hk, hc, n, by simpa using hs⟩, ?_⟩
    have e := r.length
    simp only [Array.length_toList] at e
    omega
theorem Inv.list_inj (I : Inv X pins σ H s) (h : SqL X.K H a xs) (h' : SqL X.K H a ys) : xs = ys := by
  obtain ⟨its, r, ⟨o, n, e, _, _, d⟩, _⟩ := I.list h
  obtain ⟨its', r', ⟨o', n', e', _, _, d'⟩, _⟩ := I.list h'
  rw [e] at e'; cases e'
  rw [d] at d'
  injection d' with d1 _
  have : its = its' := by simpa using congrArg Array.toList d1
  subst this
  exact r.inj r'
theorem Inv.tuple_inj (I : Inv X pins σ H s) (h : SqT X.K H a xs) (h' : SqT X.K H a ys) : xs = ys := by
  obtain ⟨its, r, ⟨o, e, _, n, d⟩, _⟩ := I.tuple h
  obtain ⟨its', r', ⟨o', e', _, n', d'⟩, _⟩ := I.tuple h'
  rw [e] at e'; cases e'
  rw [d] at d'
  injection d' with d1 _
  have : its = its' := by simpa using congrArg Array.toList d1
  subst this
  exact r.inj r'
end

/-! ### another wish about exceptions -/
abbrev Cx.wish (X : Cx) (E : Value → Shared → Prop) : Cx := { X with xe := E }
/-- no exception leaves -/
abbrev Cx.nox (X : Cx) : Cx := X.wish fun _ _ => False
theorem Cx.Ok.wish {X : Cx} (ok : X.Ok) (E : Value → Shared → Prop) : (X.wish E).Ok :=
  ⟨ok.mod, ok.kind, ok.glob, ok.blt, ok.above, ok.inj, ok.has, ok.cab, ok.hd, ok.frames, ok.stk, ok.exf, ok.bs, ok.bsz, ok.noex, ok.exfs, ok.funs, ok.frf⟩
theorem Cx.Ok.unwish {X : Cx} {E : Value → Shared → Prop} (ok : (X.wish E).Ok) : X.Ok :=
  ⟨ok.mod, ok.kind, ok.glob, ok.blt, ok.above, ok.inj, ok.has, ok.cab, ok.hd, ok.frames, ok.stk, ok.exf, ok.bs, ok.bsz, ok.noex, ok.exfs, ok.funs, ok.frf⟩
section
variable {X : Cx} {pins : List (Addr × Obj)} {σ : St} {H : Hp} {s : Shared} {E : Value → Shared → Prop}
theorem Inv.wish (I : Inv X pins σ H s) (E : Value → Shared → Prop) : Inv (X.wish E) pins σ H s := ⟨I.ok.wish E, I.os, I.bare, I.base, I.loc, I.cell, I.free, I.freeC, I.pin, I.hok, I.len⟩
theorem Inv.unwish (I : Inv (X.wish E) pins σ H s) : Inv X pins σ H s := ⟨I.ok.unwish, I.os, I.bare, I.base, I.loc, I.cell, I.free, I.freeC, I.pin, I.hok, I.len⟩
theorem SP.unwish {D : Ends} {f : Flow} {s' : Shared} (h : SP (X.wish E) pins D f s') : SP X pins D f s' := by
  cases f with
  | next => obtain ⟨σ', H', I, q⟩ := h; exact ⟨σ', H', I.unwish, q⟩
  | brk => obtain ⟨σ', H', I, q⟩ := h; exact ⟨σ', H', I.unwish, q⟩
  | cont => obtain ⟨σ', H', I, q⟩ := h; exact ⟨σ', H', I.unwish, q⟩
  | ret u => obtain ⟨v, σ', H', I, r, q⟩ := h; exact ⟨v, σ', H', I.unwish, r, q⟩
theorem PE.nox {e : Expr} {t : TE} (h : PE X.nox e t) : PE X e t := fun pins s σ H Q I hw =>
  wpAny_mono (h pins s σ H Q (I.wish _) hw) (fun _ _ ⟨v, H', I', r, q⟩ => ⟨v, H', I'.unwish, r, q⟩) fun _ _ z => False.elim z
theorem PT.nox {e : Expr} {t : TT} (h : PT X.nox e t) : PT X e t := fun pins s σ H Q I hw =>
  wpAny_mono (h pins s σ H Q (I.wish _) hw) (fun _ _ ⟨H', I', q⟩ => ⟨H', I'.unwish, q⟩) fun _ _ z => False.elim z
theorem PSs.nox {st : List Stmt} {t : TS} (h : PSs X.nox st t) : PSs X st t := fun pins s σ H D I hw =>
  wpAny_mono (h pins s σ H D (I.wish _) hw) (fun _ _ q => q.unwish) fun _ _ z => False.elim z
end

/-! ### blocks and small statements -/
section
variable {X : Cx} {st : Stmt} {rest : List Stmt} {t u : TS} {e : Expr} {te : TE} {pos : Pos}
def tNext : TS := fun D σ H => D.nx σ H
def tSeq (t u : TS) : TS := fun D σ H => t { D with nx := u D } σ H
theorem pss_nil : PSs X [] tNext := fun _ _ σ H _ I h => wpAny_execs_nil ⟨σ, H, I, h⟩
theorem pss_cons (h1 : PS X st t) (h2 : PSs X rest u) : PSs X (st :: rest) (tSeq t u) := by
  intro pins s σ H D I h
  refine wpAny_execs_cons (thn (h1 pins s σ H { D with nx := u D } I h) fun f s1 q => ?_)
  cases f with
  | next =>
    obtain ⟨σ', H', I', q⟩ := q
    exact h2 pins s1 σ' H' D I' q
  | ret v => exact q
  | brk => exact q
  | cont => exact q
theorem pss_one (h1 : PS X st t) : PSs X [st] t := by
  intro pins s σ H D I h
  refine wpAny_execs_cons (thn (h1 pins s σ H D I h) fun f s1 q => ?_)
  cases f with
  | next => exact wpAny_execs_nil q
  | ret v => exact q
  | brk => exact q
  | cont => exact q
def tBreak : TS := fun D σ H => D.bk σ H
def tCont : TS := fun D σ H => D.ct σ H
theorem ps_pass : PS X (.Pass pos) tNext := fun _ _ σ H _ I h => wpAny_Pass ⟨σ, H, I, h⟩
theorem ps_break : PS X (.Break pos) tBreak := fun _ _ σ H _ I h => wpAny_Break ⟨σ, H, I, h⟩
theorem ps_continue : PS X (.Continue pos) tCont := fun _ _ σ H _ I h => wpAny_Continue ⟨σ, H, I, h⟩
/-- in a def's body nothing is shown -/
theorem Inv.quiet {pins : List (Addr × Obj)} {σ : St} {H : Hp} {s : Shared} (I : Inv X pins σ H s) : interactive X.env = false := by simp [interactive, I.ok.kind]
/-- a docstring -/
theorem ps_doc {x j pos pos'} : PS X (.Expr (.Constant (.str x) j pos) pos') tNext := fun _ s σ H _ I h => wpAny_Expr (Calls.Constant_str (show SP X _ _ .next { s with toks := s.toks + 1 } from ⟨σ, H, I.tok _, h⟩)) I.quiet
/-- an expression whose value is dropped -/
def tDrop (te : TE) : TS := fun D σ H => te σ H fun _ H1 => D.nx σ H1
theorem ps_expr (he : PE X e te) (hs : swapsWith e none pos.line X.env = pure false := by rfl) : PS X (.Expr e pos) (tDrop te) := by
  intro pins s σ H D I h
  exact wpAny_Expr_any (thn (he pins s σ H _ I h) fun v s1 ⟨x, H1, I1, r1, q1⟩ => ⟨σ, H1, I1, q1⟩) I.quiet hs
def tRet (te : TE) : TS := fun D σ H => te σ H D.rt
theorem ps_ret (he : PE X e te) : PS X (.Return (some e) pos) (tRet te) := by
  intro pins s σ H D I h
  exact wpAny_Return_some (thn (he pins s σ H _ I h) fun v s1 ⟨x, H1, I1, r1, q1⟩ => ⟨x, σ, H1, I1, r1, q1⟩)
def tRetN : TS := fun D _ H => D.rt .non H
theorem ps_retN : PS X (.Return none pos) tRetN := fun _ _ σ H _ I h => wpAny_Return_none ⟨.non, σ, H, I, rfl, h⟩
def tIfS (c : TT) (t u : TS) : TS := fun D σ H => c σ H fun b H1 => if b = true then t D σ H1 else u D σ H1
theorem ps_if {c : Expr} {a b : List Stmt} {tc : TT} (hc : PT X c tc) (ha : PSs X a t) (hb : PSs X b u) : PS X (.If c a b pos) (tIfS tc t u) := by
  intro pins s σ H D I h
  refine wpAny_If (thn (hc pins s σ H _ I h) fun d s1 ⟨H1, I1, q1⟩ => ?_)
  cases d with
  | true => exact ha pins s1 σ H1 D I1 q1
  | false => exact hb pins s1 σ H1 D I1 q1
/-- code that the proof never comes to -/
def tNever : TS := fun _ _ _ => False
theorem ps_never : PS X st tNever := fun _ _ _ _ _ _ h => h.elim
theorem pss_never {sts : List Stmt} : PSs X sts tNever := fun _ _ _ _ _ _ h => h.elim
end

/-! ### targets -/
abbrev TG := V → St → Hp → (St → Hp → Prop) → Prop
abbrev TGs := List V → St → Hp → (St → Hp → Prop) → Prop
def PG (X : Cx) (target : Expr) (t : TG) : Prop :=
  ∀ (pins : List (Addr × Obj)) (s : Shared) (σ : St) (H : Hp) (v : V) (u : Value) (Q : St → Hp → Prop), Inv X pins σ H s → RelV v u → t v σ H Q →
    wpAny (model X.prog X.w) X.A (assign target X.env u) (fun _ s' => ∃ σ' H', Inv X pins σ' H' s' ∧ Q σ' H') X.xe s
/-- several targets, one after another -/
def PGs (X : Cx) (ts : List Expr) (t : TGs) : Prop :=
  ∀ (pins : List (Addr × Obj)) (s : Shared) (σ : St) (H : Hp) (vs : List V) (us : List Value) (Q : St → Hp → Prop), Inv X pins σ H s → Vals vs us → t vs σ H Q →
    wpAny (model X.prog X.w) X.A (assignInOrder ((assignEach ts X.env).map (·.2)) us) (fun _ s' => ∃ σ' H', Inv X pins σ' H' s' ∧ Q σ' H') X.xe s
/-- o[i] = v, by values -/
abbrev TSet := V → V → V → Hp → (Hp → Prop) → Prop
def PSet (X : Cx) (t : TSet) : Prop :=
  ∀ (pins : List (Addr × Obj)) (s : Shared) (σ : St) (H : Hp) (o i v : V) (ov iv u : Value) (Q : Hp → Prop), Inv X pins σ H s → RelV o ov → RelV i iv → RelV v u → t o i v H Q →
    wpAny (model X.prog X.w) X.A (setItem ov iv u) (fun _ s' => ∃ H', Inv X pins σ H' s' ∧ Q H') X.xe s
/-- a op= b, by values -/
abbrev TIp := V → V → Hp → VK → Prop
def PIp (X : Cx) (op : Operator) (t : TIp) : Prop :=
  ∀ (pins : List (Addr × Obj)) (s : Shared) (σ : St) (H : Hp) (x y : V) (v u : Value) (Q : VK), Inv X pins σ H s → RelV x v → RelV y u → t x y H Q →
    wpAny (model X.prog X.w) X.A (inplaceOp op v u) (EP X pins σ Q) X.xe s
section
variable {X : Cx} {pos : Pos}
def gName (i : Nat) : TG := fun v σ H Q => Q (σ.set i (some v)) H
theorem pg_name {i : Nat} {x : Str} (hN : X.N.Nodup) (hi : X.N[i]? = some x) (hx : Loc X.env.scope x) (hf : X.fn x = true ∨ X.env.scope.names.lookup x = some .local := by first | exact .inl rfl | exact .inr rfl | assumption) : PG X (.Name x pos) (gName i) := by
  intro pins s σ H v u Q I r h
  exact wpAny_assign_Name (store_ok I hN hi hx r (fun s' I' => ⟨_, H, I', h⟩) hf)
def gNil : TGs := fun vs σ H Q => vs = [] ∧ Q σ H
def gCons (t : TG) (u : TGs) : TGs := fun vs σ H Q => ∃ v r, vs = v :: r ∧ t v σ H fun σ' H' => u r σ' H' Q
theorem pgs_nil : PGs X [] gNil := by
  intro pins s σ H vs us Q I r h
  obtain ⟨e, h⟩ := h
  subst e
  cases r
  exact assignInOrder_nil ⟨σ, H, I, h⟩
theorem pgs_cons {e : Expr} {es : List Expr} {t : TG} {u : TGs} (h1 : PG X e t) (h2 : PGs X es u)
    (hs : (assignEach (e :: es) X.env).map (·.2) = assign e X.env :: (assignEach es X.env).map (·.2) := by rfl) : PGs X (e :: es) (gCons t u) := by
  intro pins s σ H vs us Q I r h
  obtain ⟨v, vr, e1, h⟩ := h
  subst e1
  cases r with
  | cons r rr =>
    rw [hs]
    refine assignInOrder_cons (thn (h1 pins s σ H _ _ _ I r h) fun _ s1 ⟨σ1, H1, I1, q1⟩ => ?_)
    exact h2 pins s1 σ1 H1 _ _ Q I1 rr q1
/-- (a, b, ..) = a tuple of that length -/
def gTup (K : PySem.W.Frag) (n : Nat) (t : TGs) : TG := fun v σ H Q => ∃ a xs, v = .ref a ∧ SqT K H a xs ∧ xs.length = n ∧ t xs σ H Q
theorem pg_tup {es : List Expr} {k : Nat} {t : TGs} {n : Nat} (hc : X.calm = true) (h : PGs X es t)
    (hn : (assignEach es X.env).length = n := by rfl) (hst : (assignEach es X.env).findIdx? (·.1) = none := by rfl) : PG X (.Tuple es k pos) (gTup X.K n t) := by
  intro pins s σ H v u Q I r hw
  obtain ⟨a, xs, e1, hq, hl, hw⟩ := hw
  subst e1
  cases r
  obtain ⟨its, rv, ht, hz⟩ := I.tuple hq
  refine assign_Tuple_tuple (I.ok.hd hc) ht (by simp [hn, ← hl, rv.length]) hst fun h' hx => ?_
  have I1 : Inv X pins σ H { s with heap := h' } := I.kept (t' := s.toks) fun b o e => hx b o (Nat.ne_of_lt (Heap.lt_size e)) e
  exact h pins _ σ H xs _ Q I1 (by simpa using rv) hw
/-- o[i] = .. -/
def gSub (to ti : TE) (t : TSet) : TG := fun v σ H Q => to σ H fun o H1 => ti σ H1 fun i H2 => t o i v H2 fun H3 => Q σ H3
theorem pg_sub {o i : Expr} {to ti : TE} {t : TSet} (ho : PE X o to) (hi : PE X i ti) (hs : PSet X t)
    (ha : ∀ v, assign (.Subscript o i pos) X.env v = (do
      let ov ← holding [v] (eval o X.env)
      let iv ← holding [v, ov] (eval i X.env)
      standAt pos
      holding [v, ov, iv] (setItem ov iv v)
      release [v, ov, iv] []) := by intro _; rfl) : PG X (.Subscript o i pos) (gSub to ti t) := by
  intro pins s σ H v u Q I r h
  rw [ha]
  refine wpAny_bind (wpAny_holding (thn (ho pins s σ H _ I h) fun ov s1 ⟨x, H1, I1, r1, q1⟩ => ?_))
  refine wpAny_bind (wpAny_holding (thn (hi pins s1 σ H1 _ I1 q1) fun iv s2 ⟨y, H2, I2, r2, q2⟩ => ?_))
  refine wpAny_bind (wpAny_standAt (wpAny_bind (wpAny_holding (thn (hs pins s2 σ H2 x y v ov iv u _ I2 r1 r2 r q2) fun _ s3 ⟨H3, I3, q3⟩ => ?_))))
  exact wpAny_release ⟨σ, H3, I3, q3⟩
/-- target = value -/
def tAsg (te : TE) (g : TG) : TS := fun D σ H => te σ H fun x H1 => g x σ H1 D.nx
theorem ps_asg {tg e : Expr} {te : TE} {g : TG} (he : PE X e te) (hg : PG X tg g) (hs : swapsWithSole [tg] e pos.line X.env = pure false := by rfl) (hw : swappedStores [tg] e X.env = pure none := by rfl)
    (h1 : (assignEach [tg] X.env).map (·.2) = [assign tg X.env] := by rfl) : PS X (.Assign [tg] e pos) (tAsg te g) := by
  intro pins s σ H D I h
  refine wpAny_Assign_stores (thn (he pins s σ H _ I h) fun v s1 ⟨x, H1, I1, r1, q1⟩ => ?_) hs hw
  rw [h1]
  exact thn (hg pins s1 σ H1 x v _ I1 r1 q1) fun _ s2 q => q
/-- name = value -/
theorem ps_set {i : Nat} {x : Str} {e : Expr} {te : TE} {pos' : Pos} (hN : X.N.Nodup) (hi : X.N[i]? = some x) (hx : Loc X.env.scope x) (he : PE X e te) (hs : swapsWith e (some (.Name x pos')) pos.line X.env = pure false := by rfl) (hf : X.fn x = true ∨ X.env.scope.names.lookup x = some .local := by first | exact .inl rfl | exact .inr rfl | assumption) :
    PS X (.Assign [.Name x pos'] e pos) (tAsg te (gName i)) := by
  intro pins s σ H D I h
  refine wpAny_Assign_Name (thn (he pins s σ H _ I h) fun v s1 ⟨y, H1, I1, r1, q1⟩ => ?_) hs
  exact store_ok I1 hN hi hx r1 (fun s2 I2 => ⟨_, H1, I2, q1⟩) hf
/-- a, b = x, y with plain local names: stored from the right; the pair itself is not tracked (the opening rows as in PyProof/Rows/TupAssign.lean:23) -/
def tPar (i j : Nat) (ta : TA) : TS := fun D σ H => ta σ H fun vs H1 => ∃ v w, vs = [v, w] ∧ D.nx ((σ.set i (some v)).set j (some w)) H1
theorem ps_par {i j : Nat} {x y : Str} {a b : Expr} {ta : TA} {px py pt : Pos} {kt k2 pt2} (hc : X.calm = true) (hN : X.N.Nodup) (hi : X.N[i]? = some x) (hj : X.N[j]? = some y) (hij : i ≠ j)
    (hx : X.env.scope.names.lookup x = some .local) (hy : X.env.scope.names.lookup y = some .local) (ha : PA X [a, b] ta)
    (hw : swappedStores [.Tuple [.Name x px, .Name y py] kt pt] (.Tuple [a, b] k2 pt2) X.env = pure (some [x, y]))
    (hs : swapsWithSole [.Tuple [.Name x px, .Name y py] kt pt] (.Tuple [a, b] k2 pt2) pos.line X.env = pure false := by rfl) :
    PS X (.Assign [.Tuple [.Name x px, .Name y py] kt pt] (.Tuple [a, b] k2 pt2) pos) (tPar i j ta) := by
  intro pins s σ H D I h
  rw [exec_Assign_arm]
  refine wpAny_bind (wpAny_standAt ?_)
  rw [hs]
  refine wpAny_bind (wpAny_pure ?_)
  rw [if_neg (by decide)]
  refine wpAny_bind (Tuple_ (thn (ha _ pins s σ H _ I h) fun us s1 ⟨vs, H1, I1, r1, q1⟩ => ?_))
  obtain ⟨v, w, e1, q1⟩ := q1
  subst e1
  obtain ⟨u1, u2, rfl, rv, rw'⟩ : ∃ u1 u2, us = [u1, u2] ∧ RelV v u1 ∧ RelV w u2 := by
    cases r1 with
    | cons p q =>
      cases q with
      | cons p' q' =>
        cases q'
        exact ⟨_, _, rfl, p, p'⟩
  refine wpAny_newObj_type ?_ (by show 2 ≤ sizeLine; decide)
  have I2 : Inv X pins σ H1 { s1 with heap := s1.heap.push { cls := .type "tuple", data := .seq [u1, u2].toArray } } := I1.kept (t' := s1.toks) fun b o e => Heap.get?_push_of_some _ e
  rw [hw]
  refine wpAny_bind (wpAny_pure ?_)
  show wpAny (model X.prog X.w) X.A (do rule "assign.swapped-stores"; let items ← unpackItems (.ref s1.heap.objs.size) 2 none; assignInOrder [fun v => bindName X.env y v, fun v => bindName X.env x v] items.reverse; pure Flow.next) _ _ _
  refine wpAny_bind (wpAny_rule (wpAny_bind (unpackItems_tuple (items := #[u1, u2]) (I.ok.hd hc) (IsTup.new s1.heap _) fun h' hx' => ?_)))
  have I3 := I2.kept (h' := h') (t' := s1.toks) fun b o e => hx' b o (Nat.ne_of_lt (Heap.lt_size e)) e
  show wpAny _ _ (assignInOrder [fun v => bindName X.env y v, fun v => bindName X.env x v] [u2, u1] >>= fun _ => pure Flow.next) _ _ _
  refine wpAny_bind (assignInOrder_cons (wpAny_bindName (store_ok I3 hN hj (.inl hy) rw' (fun s2 I4 => ?_) (.inr hy))))
  refine assignInOrder_cons (wpAny_bindName (store_ok I4 hN hi (.inl hx) rv (fun s3 I5 => assignInOrder_nil (wpAny_pure ?_)) (.inr hx)))
  rw [List.set_comm _ _ (Ne.symm hij)] at I5
  exact ⟨_, H1, I5, q1⟩
/-- name op= e -/
def tAug (i : Nat) (te : TE) (ti : TIp) : TS := fun D σ H => ∃ x, σ[i]? = some (some x) ∧ te σ H fun y H1 => ti x y H1 fun z H2 => D.nx (σ.set i (some z)) H2
theorem ps_aug {i : Nat} {x : Str} {e : Expr} {te : TE} {op : Operator} {ti : TIp} {pos' : Pos} (hN : X.N.Nodup) (hi : X.N[i]? = some x) (hx : Loc X.env.scope x) (he : PE X e te) (ho : PIp X op ti) (hf : X.fn x = true ∨ X.env.scope.names.lookup x = some .local := by first | exact .inl rfl | exact .inr rfl | assumption) :
    PS X (.AugAssign (.Name x pos') op e pos) (tAug i te ti) := by
  intro pins s σ H D I h
  obtain ⟨v, e1, h⟩ := h
  obtain ⟨m, hn, hl⟩ := I.loc
  have vis : Vis X.env.scope x := by rcases hx with k | k; exact .inl k; exact .inr (.inl k)
  obtain ⟨u, r, l⟩ := hl i x v hi e1 vis
  refine wpAny_AugAssign_Name ?_
  have go : wpAny (model X.prog X.w) X.A (eval e X.env) (fun w s₂ => wpAny (model X.prog X.w) X.A (inplaceOp op u w) (fun r s₃ => wpAny (model X.prog X.w) X.A (storeName X.env x r) (fun _ => SP X pins D .next) X.xe s₃) X.xe s₂) X.xe s := by
    refine thn (he pins s σ H _ I h) fun w s1 ⟨y, H1, I1, r1, q1⟩ => ?_
    refine thn (ho pins s1 σ H1 v y u w _ I1 r r1 q1) fun z s2 ⟨zv, H2, I2, r2, q2⟩ => ?_
    exact store_ok I2 hN hi hx r2 (fun s3 I3 => ⟨_, H2, I3, q2⟩) hf
  rcases l with ⟨hk, hm⟩ | ⟨hk, c, hc, hcell⟩
  · exact wpAny_loadName_local I.ok.kind hk hn hm go
  · rcases hk with hk | hk
    · exact wpAny_loadName_cell I.ok.kind hk hc hcell go
    · rcases hx with k | k
      · have : X.env.scope.names.lookup x = some .free := hk
        rw [k] at this; cases this
      · have : X.env.scope.names.lookup x = some .free := hk
        rw [k] at this; cases this
/-- o[i] op= e -/
def tAugS (to ti te : TE) (tget : V → V → Hp → VK → Prop) (tip : TIp) (tset : TSet) : TS := fun D σ H => to σ H fun o H1 => ti σ H1 fun i H2 => tget o i H2 fun x H3 => te σ H3 fun y H4 => tip x y H4 fun z H5 => tset o i z H5 fun H6 => D.nx σ H6
/-- o[i], by values -/
def PGet (X : Cx) (t : V → V → Hp → VK → Prop) : Prop :=
  ∀ (pins : List (Addr × Obj)) (s : Shared) (σ : St) (H : Hp) (o i : V) (ov iv : Value) (Q : VK), Inv X pins σ H s → RelV o ov → RelV i iv → t o i H Q →
    wpAny (model X.prog X.w) X.A (getItem ov iv) (EP X pins σ Q) X.xe s
theorem ps_augS {o i e : Expr} {to ti te : TE} {tget : V → V → Hp → VK → Prop} {tip : TIp} {tset : TSet} {op : Operator} {tpos : Pos} (ho : PE X o to) (hi : PE X i ti) (hg : PGet X tget) (he : PE X e te) (hp : PIp X op tip) (hs : PSet X tset)
    (ha : ∀ ov iv new, augStore i ov iv new = (do holding [new, ov, iv] (setItem ov iv new); release [new, ov, iv] []; pure .next) := by intros; rfl) : PS X (.AugAssign (.Subscript o i tpos) op e pos) (tAugS to ti te tget tip tset) := by
  intro pins s σ H D I h
  refine wpAny_AugAssign_SubscriptAny (thn (ho pins s σ H _ I h) fun ov s1 ⟨x1, H1, I1, r1, q1⟩ => ?_) ha
  refine thn (hi pins s1 σ H1 _ I1 q1) fun iv s2 ⟨x2, H2, I2, r2, q2⟩ => ?_
  refine thn (hg pins s2 σ H2 x1 x2 ov iv _ I2 r1 r2 q2) fun old s3 ⟨x3, H3, I3, r3, q3⟩ => ?_
  refine thn (he pins s3 σ H3 _ I3 q3) fun v s4 ⟨x4, H4, I4, r4, q4⟩ => ?_
  refine thn (hp pins s4 σ H4 x3 x4 old v _ I4 r3 r4 q4) fun new s5 ⟨x5, H5, I5, r5, q5⟩ => ?_
  exact thn (hs pins s5 σ H5 x1 x2 x5 ov iv new _ I5 r1 r2 r5 q5) fun _ s6 ⟨H6, I6, q6⟩ => ⟨σ, H6, I6, q6⟩
/-- ints -/
def ipI (f : Int → Int → Int) : TIp := fun x y H Q => ∃ i j, x = .int i ∧ y = .int j ∧ Q (.int (f i j)) H
theorem ip_add : PIp X .Add (ipI fun i j => i + j) := by
  intro pins s σ H x y v u Q I r1 r2 h
  obtain ⟨i, j, e1, e2, q⟩ := h
  subst e1; subst e2
  obtain ⟨t, rfl⟩ := r1
  obtain ⟨t', rfl⟩ := r2
  exact iadd_int ⟨.int _, H, I.tok _, ⟨_, rfl⟩, q⟩
theorem ip_sub : PIp X .Sub (ipI fun i j => i - j) := by
  intro pins s σ H x y v u Q I r1 r2 h
  obtain ⟨i, j, e1, e2, q⟩ := h
  subst e1; subst e2
  obtain ⟨t, rfl⟩ := r1
  obtain ⟨t', rfl⟩ := r2
  exact isub_int ⟨.int _, H, I.tok _, ⟨_, rfl⟩, q⟩
end

/-! ### while -/
section
variable {X : Cx} {pos : Pos}
/-- the invariant W with its measure -/
def tWhile (c : TT) (tb : TS) : TS := fun D σ H => ∃ W : Nat → St → Hp → Prop, (∃ m, W m σ H) ∧ ∀ m σ H, W m σ H →
  c σ H fun b H1 => if b = true then ∃ N : St → Hp → Prop, (∀ σ' H', N σ' H' → ∃ m', m' < m ∧ W m' σ' H') ∧ tb { D with nx := N, ct := N, bk := D.nx } σ H1 else D.nx σ H1
theorem ps_while {c : Expr} {body : List Stmt} {tc : TT} {tb : TS} (hp : PassesOwn (model X.prog X.w) X.A X.env X.xe) (hc : PT X c tc) (hb : PSs X body tb) : PS X (.While c body [] pos) (tWhile tc tb) := by
  intro pins s σ H D I h
  obtain ⟨W, ⟨m0, w0⟩, turn⟩ := h
  refine wpAny_While (codeAny_whileLoop (fun n s' => ∃ σ' H', Inv X pins σ' H' s' ∧ W n σ' H') ?_ m0 ⟨σ, H, I, w0⟩)
  rintro n s1 ⟨σ1, H1, I1, w1⟩
  refine wpAny_passesOwn hp (thn (hc pins s1 σ1 H1 _ I1 (turn n σ1 H1 w1)) fun b s2 ⟨H2, I2, q2⟩ => ?_)
  cases b with
  | true =>
    obtain ⟨N, hN, q2⟩ := q2
    rw [if_pos rfl]
    refine wpAny_passesOwn hp (thn (hb pins s2 σ1 H2 _ I2 q2) fun f s3 q3 => ?_)
    cases f with
    | next =>
      obtain ⟨σ3, H3, I3, n3⟩ := q3
      obtain ⟨m', hm, w3⟩ := hN σ3 H3 n3
      exact ⟨m', hm, σ3, H3, I3, w3⟩
    | cont =>
      obtain ⟨σ3, H3, I3, n3⟩ := q3
      obtain ⟨m', hm, w3⟩ := hN σ3 H3 n3
      exact ⟨m', hm, σ3, H3, I3, w3⟩
    | brk => exact q3
    | ret v => exact q3
  | false =>
    rw [if_neg Bool.false_ne_true]
    exact wpAny_execs_nil ⟨σ1, H2, I2, q2⟩
end

/-! ### what a loop or a comprehension walks -/
/-- at turn i: it yields x (the heap may grow), or it stops -/
structure It where
  go : Nat → Hp → Prop
  yld : Nat → Hp → V → Hp → Prop
  stop : Nat → Hp → Prop
/-- the iterator's own objects may turn: they are not the frame's, not pinned, younger than the entry (or a comprehension's own) -/
def FpOk (X : Cx) (pins : List (Addr × Obj)) (H : Hp) (b : Addr) : Prop :=
  H b = none ∧ b ≠ X.env.locals ∧ b ∉ X.fs ∧ (b ∈ X.ex ∨ X.s₀.heap.objs.size ≤ b) ∧ (∀ x c, X.env.cells.lookup x = some c → c ≠ b) ∧ ∀ p ∈ X.pn ++ pins, p.1 ≠ b
theorem Inv.fpOk {X : Cx} {pins : List (Addr × Obj)} {σ : St} {H H' : Hp} {s : Shared} {b : Addr} (I : Inv X pins σ H s) (hb : s.heap.objs.size ≤ b) (hn : H' b = none) : FpOk X pins H' b := by
  refine ⟨hn, Nat.ne_of_gt (Nat.lt_of_lt_of_le I.lt hb), I.nofs hb, .inr (Nat.le_trans I.sz hb), fun x c e z => ?_, fun p hp z => ?_⟩
  · obtain ⟨v, q⟩ := I.cell x c e
    exact absurd (Nat.lt_of_lt_of_le q.lt (by rw [z]; exact hb)) (Nat.lt_irrefl _)
  · exact absurd (Nat.lt_of_lt_of_le (Heap.lt_size (I.pin p hp).1) (by rw [z]; exact hb)) (Nat.lt_irrefl _)
structure Turn (P : Program) (w : World) (K : PySem.W.Frag) (tg : Expr) (J : It) (fp : List Addr) (it : Addr) (tn : Nat → Heap → Prop) : Prop where
  mem : it ∈ fp
  obj : ∀ i h, tn i h → ∀ b ∈ fp, ∃ o, h.get? b = some o ∧ ∀ v, o.data ≠ .cell v
  keep : ∀ i h h', tn i h → (∀ b ∈ fp, ∀ o, h.get? b = some o → h'.get? b = some o) → tn i h'
  item : ∀ (X : Cx), X.prog = P → X.w = w → X.K = K → X.calm = true → ∀ (i : Nat) (pins : List (Addr × Obj)) (s : Shared) (σ : St) (H : Hp) (E : Value → Shared → Prop), Inv X pins σ H s → (∀ b ∈ fp, FpOk X pins H b) → tn i s.heap → J.go i H →
    wpAny (model P w) X.A (pyNext (.ref it)) (fun r s1 => ∃ u, r = some u ∧
      wpAny (model P w) X.A (letOwnedTupleGo tg (.ref it) u) (fun _ s2 => ∃ x H', Inv X pins σ H' s2 ∧ RelV x u ∧ J.yld i H x H' ∧ tn (i + 1) s2.heap ∧ ∀ b ∈ fp, H' b = none) E s1) E s
  done : ∀ (X : Cx), X.prog = P → X.w = w → X.K = K → X.calm = true → ∀ (i : Nat) (pins : List (Addr × Obj)) (s : Shared) (σ : St) (H : Hp) (E : Value → Shared → Prop), Inv X pins σ H s → (∀ b ∈ fp, FpOk X pins H b) → tn i s.heap → J.stop i H →
    wpAny (model P w) X.A (pyNext (.ref it)) (fun r s1 => r = none ∧ Inv X pins σ H s1) E s
  self : ∀ (A : Around) (i : Nat) (s : Shared) (Q : Value → Shared → Prop) (E : Value → Shared → Prop), tn i s.heap → Q (.ref it) s → wpAny (model P w) A (pyIter (.ref it)) Q E s
abbrev TI := St → Hp → (It → Hp → Prop) → Prop
/-- an iterator has come -/
def PIE (X : Cx) (pins : List (Addr × Obj)) (σ : St) (tg : Expr) (R : It → Hp → Prop) (itv : Value) (s2 : Shared) : Prop :=
  ∃ (it : Addr) (fp : List Addr) (tn : Nat → Heap → Prop) (J : It) (H' : Hp), itv = .ref it ∧ Inv X pins σ H' s2 ∧ Turn X.prog X.w X.K tg J fp it tn ∧ tn 0 s2.heap ∧ (∀ b ∈ fp, FpOk X pins H' b) ∧ R J H'
def PI (X : Cx) (tg iter : Expr) (wi : TI) : Prop :=
  ∀ (pins : List (Addr × Obj)) (s : Shared) (σ : St) (H : Hp) (R : It → Hp → Prop), Inv X pins σ H s → wi σ H R →
    wpAny (model X.prog X.w) X.A (eval iter X.env) (fun v s1 => wpAny (model X.prog X.w) X.A (pyIter v) (PIE X pins σ tg R) X.xe s1) X.xe s

/-- the step ahead of the store is nothing for an iterator that keeps no tuple -/
theorem go_of {M : Model} {A : Around} {E : Value → Shared → Prop} {s : Shared} {tg : Expr} {it : Addr} {u : Value} {o : Obj} {n : String} {vs : Array Value} {Q : Unit → Shared → Prop} (ho : s.heap.get? it = some o) (hc : o.cls = .type n) (hd : o.data = .fields vs)
    (hn : ["enumerate", "zip", "dict_itemiterator", "dict_reverseitemiterator", "odict_iterator", "itertools.zip_longest", "itertools.pairwise"].contains n = false) (hQ : Q () s) : wpAny M A (letOwnedTupleGo tg (.ref it) u) Q E s := by
  unfold letOwnedTupleGo
  cases tg <;> first
    | exact wpAny_pure hQ
    | (cases u <;> first
        | exact wpAny_pure hQ
        | (refine wpAny_bind (wpAny_load ho ?_)
           rw [hc, hd]
           show wpAny M A (if (["enumerate", "zip", "dict_itemiterator", "dict_reverseitemiterator", "odict_iterator", "itertools.zip_longest", "itertools.pairwise"].contains n && vs[0]? == some (rawInt _)) = true then _ else _) Q E s
           rw [if_neg (by intro h; rw [hn, Bool.false_and] at h; cases h)]
           exact wpAny_pure hQ))

/-- the list at a, as it stands at each turn (a loop may append to it) -/
def Itl (K : PySem.W.Frag) (a : Addr) : It :=
  ⟨fun i H => ∃ xs x, SqL K H a xs ∧ xs[i]? = some x, fun i H x H' => H' = H ∧ ∀ xs, SqL K H a xs → xs[i]? = some x, fun i H => ∃ xs, SqL K H a xs ∧ xs.length ≤ i⟩
def Itt (K : PySem.W.Frag) (a : Addr) : It :=
  ⟨fun i H => ∃ xs x, SqT K H a xs ∧ xs[i]? = some x, fun i H x H' => H' = H ∧ ∀ xs, SqT K H a xs → xs[i]? = some x, fun i H => ∃ xs, SqT K H a xs ∧ xs.length ≤ i⟩
/-- lo, lo + 1, .. (n of them) -/
def Itr (lo : Int) (n : Nat) : It := ⟨fun i _ => i < n, fun i H x H' => H' = H ∧ x = .int (lo + i), fun i _ => n ≤ i⟩
theorem turn_list {P : Program} {w : World} {K : PySem.W.Frag} {tg : Expr} (a it : Addr) : Turn P w K tg (Itl K a) [it] it (fun i h => h.IsListIter it a i) where
  mem := by simp
  obj := fun i h st b hb => by
    have e : b = it := by simpa using hb
    subst e
    obtain ⟨o, e, c, d⟩ := st
    exact ⟨o, e, fun v z => by rw [d] at z; cases z⟩
  keep := fun i h h' st k => st.at fun o e => k it (by simp) o e
  item := by
    intro X hP hw hK hc i pins s σ H E I hf st hg
    subst hP hw hK
    obtain ⟨xs, x, hq, hx⟩ := hg
    obtain ⟨its, rv, p, hz⟩ := I.list hq
    obtain ⟨u, hu, ru⟩ := rv.get hx
    obtain ⟨f0, f1, f2, f3, f4, f5⟩ := hf it (by simp)
    refine wpAny_pyNext_list_item st p.isList (x := u) (by simpa using hu) fun h' st' sb => ?_
    have I1 : Inv X pins σ H { s with heap := h' } := I.turned (t' := s.toks) (fun b o hb e => (sb.2 b hb).trans e) f0 f1 f3 f4 f5
    obtain ⟨o, e, c, d⟩ := id st'
    exact ⟨u, rfl, go_of (s := { s with heap := h' }) e c d (by decide) ⟨x, H, I1, ru, ⟨rfl, fun ys hy => by rw [I.list_inj hy hq]; exact hx⟩, st', fun b hb => (hf b hb).1⟩⟩
  done := by
    intro X hP hw hK hc i pins s σ H E I hf st hg
    subst hP hw hK
    obtain ⟨xs, hq, hx⟩ := hg
    obtain ⟨its, rv, p, hz⟩ := I.list hq
    obtain ⟨f0, f1, f2, f3, f4, f5⟩ := hf it (by simp)
    have hl := rv.length
    exact wpAny_pyNext_list_end (I.ok.hd hc) st p.isList (by simp; omega) fun h' eb => ⟨rfl, I.turned (t' := s.toks) (fun b o hb e => eb b o hb e) f0 f1 f3 f4 f5⟩
  self := fun _ _ _ _ _ st h => wpAny_pyIter_listiter st h
theorem turn_tuple {P : Program} {w : World} {K : PySem.W.Frag} {tg : Expr} (a it : Addr) : Turn P w K tg (Itt K a) [it] it (fun i h => h.IsTupleIter it a i) where
  mem := by simp
  obj := fun i h st b hb => by
    have e : b = it := by simpa using hb
    subst e
    obtain ⟨o, e, c, d⟩ := st
    exact ⟨o, e, fun v z => by rw [d] at z; cases z⟩
  keep := fun i h h' st k => st.at fun o e => k it (by simp) o e
  item := by
    intro X hP hw hK hc i pins s σ H E I hf st hg
    subst hP hw hK
    obtain ⟨xs, x, hq, hx⟩ := hg
    obtain ⟨its, rv, p, hz⟩ := I.tuple hq
    obtain ⟨u, hu, ru⟩ := rv.get hx
    obtain ⟨f0, f1, f2, f3, f4, f5⟩ := hf it (by simp)
    refine wpAny_pyNext_tuple_item st (show s.heap.IsTuple a its.toArray from p) (x := u) (by simpa using hu) fun h' st' sb => ?_
    have I1 : Inv X pins σ H { s with heap := h' } := I.turned (t' := s.toks) (fun b o hb e => (sb.2 b hb).trans e) f0 f1 f3 f4 f5
    obtain ⟨o, e, c, d⟩ := id st'
    exact ⟨u, rfl, go_of (s := { s with heap := h' }) e c d (by decide) ⟨x, H, I1, ru, ⟨rfl, fun ys hy => by rw [I.tuple_inj hy hq]; exact hx⟩, st', fun b hb => (hf b hb).1⟩⟩
  done := by
    intro X hP hw hK hc i pins s σ H E I hf st hg
    subst hP hw hK
    obtain ⟨xs, hq, hx⟩ := hg
    obtain ⟨its, rv, p, hz⟩ := I.tuple hq
    obtain ⟨f0, f1, f2, f3, f4, f5⟩ := hf it (by simp)
    have hl := rv.length
    exact wpAny_pyNext_tuple_end (I.ok.hd hc) st (show s.heap.IsTuple a its.toArray from p) (by simp; omega) fun h' eb => ⟨rfl, I.turned (t' := s.toks) (fun b o hb e => eb b o hb e) f0 f1 f3 f4 f5⟩
  self := fun _ _ _ _ _ st h => wpAny_pyIter_tupleiter st h
theorem turn_range {P : Program} {w : World} {K : PySem.W.Frag} {tg : Expr} (it : Addr) (lo : Int) (n : Nat) : Turn P w K tg (Itr lo n) [it] it (fun i h => IsRangeIter h it (lo + (i : Nat) * 1) ((n : Int) - (i : Nat)) 1) where
  mem := by simp
  obj := fun i h st b hb => by
    have e : b = it := by simpa using hb
    subst e
    exact ⟨_, st, fun v z => by
      have z' : Data.fields _ = Data.cell v := z
      cases z'⟩
  keep := fun i h h' st k => k it (by simp) _ st
  item := by
    intro X hP hw hK hc i pins s σ H E I hf st hg
    subst hP hw hK
    obtain ⟨f0, f1, f2, f3, f4, f5⟩ := hf it (by simp)
    have W := Walks.range (prog := X.prog) (w := X.w) (I.ok.hd hc) it lo 1 n
    refine W.item i s _ _ hg st fun v h' tk hv st' kk => ?_
    obtain ⟨t, rfl⟩ := hv
    have I1 : Inv X pins σ H { s with heap := h', toks := tk } := I.turned (fun b o hb e => kk b o (by simpa using hb) e) f0 f1 f3 f4 f5
    refine ⟨_, rfl, go_of (s := { s with heap := h', toks := tk }) (n := "range_iterator") st' rfl rfl (by decide) ⟨.int (lo + i), H, I1, ⟨t, ?_⟩, ⟨rfl, rfl⟩, st', fun b hb => (hf b hb).1⟩⟩
    rw [Int.mul_one]
  done := by
    intro X hP hw hK hc i pins s σ H E I hf st hg
    subst hP hw hK
    obtain ⟨f0, f1, f2, f3, f4, f5⟩ := hf it (by simp)
    exact wpAny_pyNext_range_end (I.ok.hd hc) st (by have : n ≤ i := hg; omega) fun h' eb => ⟨rfl, I.turned (t' := s.toks) (fun b o hb e => eb b o hb e) f0 f1 f3 f4 f5⟩
  self := fun _ _ _ _ _ st h => wpAny_pyIter_rangeiter st h
end L2

namespace L2
open PySem PySem.Spec PyProof.Rows
section
variable {X : Cx} {tg : Expr}
def iList (K : PySem.W.Frag) (tl : TE) : TI := fun σ H R => tl σ H fun x H1 => ∃ a, x = .ref a ∧ (∃ xs, SqL K H1 a xs) ∧ R (Itl K a) H1
def iTup (K : PySem.W.Frag) (tl : TE) : TI := fun σ H R => tl σ H fun x H1 => ∃ a, x = .ref a ∧ (∃ xs, SqT K H1 a xs) ∧ R (Itt K a) H1
theorem pi_list {l : Expr} {tl : TE} (hl : PE X l tl) : PI X tg l (iList X.K tl) := by
  intro pins s σ H R I h
  refine thn (hl pins s σ H _ I h) fun v s1 ⟨x, H1, I1, r1, q1⟩ => ?_
  obtain ⟨a, e, ⟨xs, hq⟩, q⟩ := q1
  subst e
  cases r1
  obtain ⟨its, rv, p, hz⟩ := I1.list hq
  refine wpAny_pyIter_list p.isList ?_
  refine ⟨s1.heap.objs.size, [s1.heap.objs.size], _, _, H1, rfl, I1.kept (t' := s1.toks) fun b o e => Heap.get?_push_of_some _ e, turn_list a _, ⟨_, Heap.get?_push_size _ rfl, rfl, rfl⟩, fun b hb => ?_, q⟩
  have e : b = s1.heap.objs.size := by simpa using hb
  subst e
  exact I1.fpOk (Nat.le_refl _) (I1.hok.fresh (Nat.le_refl _))
theorem pi_tup {l : Expr} {tl : TE} (hl : PE X l tl) : PI X tg l (iTup X.K tl) := by
  intro pins s σ H R I h
  refine thn (hl pins s σ H _ I h) fun v s1 ⟨x, H1, I1, r1, q1⟩ => ?_
  obtain ⟨a, e, ⟨xs, hq⟩, q⟩ := q1
  subst e
  cases r1
  obtain ⟨its, rv, p, hz⟩ := I1.tuple hq
  refine wpAny_pyIter_tuple (show s1.heap.IsTuple a its.toArray from p) ?_
  refine ⟨s1.heap.objs.size, [s1.heap.objs.size], _, _, H1, rfl, I1.kept (t' := s1.toks) fun b o e => Heap.get?_push_of_some _ e, turn_tuple a _, ⟨_, Heap.get?_push_size _ rfl, rfl, rfl⟩, fun b hb => ?_, q⟩
  have e : b = s1.heap.objs.size := by simpa using hb
  subst e
  exact I1.fpOk (Nat.le_refl _) (I1.hok.fresh (Nat.le_refl _))
/-- a range object just made, walked -/
theorem range_it {pins : List (Addr × Obj)} {σ : St} {H : Hp} {s : Shared} {R : It → Hp → Prop} {E : Value → Shared → Prop} {lo hi : Int} {t u v : Tok} {tk : Nat} (I : Inv X pins σ H s) (h1 : -(2 ^ 62) ≤ lo) (h2 : lo < 2 ^ 62) (h3 : -(2 ^ 62) ≤ hi) (h4 : hi < 2 ^ 62)
    (q : R (Itr lo (hi - lo).toNat) H) : wpAny (model X.prog X.w) X.A (pyIter (.ref s.heap.objs.size)) (PIE X pins σ tg R) E { s with heap := s.heap.push { cls := .type "range", data := .fields #[.int lo t, .int hi u, .int 1 v] }, toks := tk } := by
  refine wpAny_pyIter_range (IsRange.new ..) (small_one h1 h2 h3 h4) ?_
  have I1 : Inv X pins σ H { s with heap := s.heap.push { cls := .type "range", data := .fields #[.int lo t, .int hi u, .int 1 v] }, toks := tk } := I.kept fun b o e => Heap.get?_push_of_some _ e
  refine ⟨(s.heap.push { cls := .type "range", data := .fields #[.int lo t, .int hi u, .int 1 v] }).objs.size, [(s.heap.push { cls := .type "range", data := .fields #[.int lo t, .int hi u, .int 1 v] }).objs.size], _, _, H, rfl,
    I1.kept (t' := tk) fun b o e => Heap.get?_push_of_some _ e, turn_range _ lo (hi - lo).toNat, ?_, fun b hb => ?_, q⟩
  · have e1 : lo + ((0 : Nat) : Int) * 1 = lo := by simp
    have e2 : (((hi - lo).toNat : Nat) : Int) - ((0 : Nat) : Int) = Builtin.Range.rangeSize lo hi 1 := by rw [rangeSize_one]; split <;> omega
    show IsRangeIter _ _ (lo + ((0 : Nat) : Int) * 1) ((((hi - lo).toNat : Nat) : Int) - ((0 : Nat) : Int)) 1
    rw [e1, e2]
    exact Heap.get?_push_size _ rfl
  · have e : b = (s.heap.push { cls := .type "range", data := .fields #[.int lo t, .int hi u, .int 1 v] }).objs.size := by simpa using hb
    subst e
    exact I1.fpOk (Nat.le_refl _) (I1.hok.fresh (Nat.le_refl _))
def iRng1 (ta : TA) : TI := fun σ H R => ta σ H fun vs H1 => ∃ j : Int, vs = [.int j] ∧ -(2 ^ 62) ≤ j ∧ j < 2 ^ 62 ∧ R (Itr 0 j.toNat) H1
def iRng2 (ta : TA) : TI := fun σ H R => ta σ H fun vs H1 => ∃ i j : Int, vs = [.int i, .int j] ∧ (-(2 ^ 62) ≤ i ∧ i < 2 ^ 62 ∧ -(2 ^ 62) ≤ j ∧ j < 2 ^ 62) ∧ R (Itr i (j - i).toNat) H1
theorem pi_range1 {a : Expr} {ta : TA} {p pos : Pos} (hg : Gl X "range") (hm : X.mg "range" = none) (ha : PA X [a] ta) (hs : starEach [a] X.env = [(false, eval a X.env)] := by rfl) : PI X tg (.Call (.Name "range" p) [a] [] pos) (iRng1 ta) := by
  intro pins s σ H R I h
  refine Call_ (ld_blt I hg hm boot_range (PyProof.Rows.callWith_type1 (thn (ha pos pins s σ H _ I h) fun us s1 ⟨vs, H1, I1, r1, q1⟩ => ?_) hs rfl))
  obtain ⟨j, e, q1, q2, q⟩ := q1
  subst e
  cases r1 with
  | cons r rr =>
    cases rr
    obtain ⟨t, rfl⟩ := r
    exact call_range_1 (range_it I1 (by omega) (by omega) q1 q2 (by simpa using q))
theorem pi_range2 {a b : Expr} {ta : TA} {p pos : Pos} (hg : Gl X "range") (hm : X.mg "range" = none) (ha : PA X [a, b] ta) (hs : starEach [a, b] X.env = [(false, eval a X.env), (false, eval b X.env)] := by rfl) (hs2 : starEach [b] X.env = [(false, eval b X.env)] := by rfl) :
    PI X tg (.Call (.Name "range" p) [a, b] [] pos) (iRng2 ta) := by
  intro pins s σ H R I h
  refine Call_ (ld_blt I hg hm boot_range (PyProof.Rows.callWith_type1 (thn (ha pos pins s σ H _ I h) fun us s1 ⟨vs, H1, I1, r1, q1⟩ => ?_) (by rw [hs, hs2]) (by rw [hs2]; rfl)))
  obtain ⟨i, j, e, ⟨q1, q2, q3, q4⟩, q⟩ := q1
  subst e
  cases r1 with
  | cons r rr =>
    cases rr with
    | cons r' rr =>
      cases rr
      obtain ⟨t, rfl⟩ := r
      obtain ⟨t', rfl⟩ := r'
      exact call_range_2 (range_it I1 q1 q2 q3 q4 q)

/-! ### for -/
/-- W: the invariant by the turn and a measure; N: what the body is to reach -/
def tFor (wi : TI) (g : TG) (tb : TS) : TS := fun D σ H => wi σ H fun J H1 => ∃ W : Nat → Nat → St → Hp → Prop, (∃ m, W 0 m σ H1) ∧ ∀ i m σ H, W i m σ H →
  (J.stop i H ∧ D.nx σ H) ∨ (J.go i H ∧ ∃ N : St → Hp → Prop, (∀ σ' H', N σ' H' → ∃ m', m' < m ∧ W (i + 1) m' σ' H') ∧ ∀ x H', J.yld i H x H' → g x σ H' fun σ2 H2 => tb { D with nx := N, ct := N, bk := D.nx } σ2 H2)
/-- the records at fp as they stand -/
def pinsAt (fp : List Addr) (h : Heap) : List (Addr × Obj) := fp.filterMap fun b => (h.get? b).map fun o => (b, o)
theorem mem_pinsAt {fp : List Addr} {h : Heap} {b : Addr} {o : Obj} (hb : b ∈ fp) (e : h.get? b = some o) : (b, o) ∈ pinsAt fp h := List.mem_filterMap.mpr ⟨b, hb, by rw [e]; rfl⟩
theorem of_pinsAt {fp : List Addr} {h : Heap} {p : Addr × Obj} (hp : p ∈ pinsAt fp h) : p.1 ∈ fp ∧ h.get? p.1 = some p.2 := by
  obtain ⟨b, hb, e⟩ := List.mem_filterMap.mp hp
  cases q : h.get? b with
  | none => rw [q] at e; cases e
  | some o =>
    rw [q] at e
    have e' : (b, o) = p := Option.some.inj e
    subst e'
    exact ⟨hb, q⟩
theorem Inv.pinned {pins : List (Addr × Obj)} {σ : St} {H : Hp} {s : Shared} {fp : List Addr} (I : Inv X pins σ H s) (hf : ∀ b ∈ fp, FpOk X pins H b) (ho : ∀ b ∈ fp, ∃ o, s.heap.get? b = some o ∧ ∀ v, o.data ≠ .cell v) : Inv X (pins ++ pinsAt fp s.heap) σ H s :=
  I.pins_of fun p hp => (List.mem_append.mp hp).elim (fun z => I.pin p (List.mem_append_right _ z)) fun z => by
    obtain ⟨hb, e⟩ := of_pinsAt z
    obtain ⟨f0, f1, f2, _⟩ := hf p.1 hb
    obtain ⟨o, e', d⟩ := ho p.1 hb
    rw [e] at e'; cases e'
    exact ⟨e, f0, f1, f2, d⟩
theorem Inv.unpinned {pins pl : List (Addr × Obj)} {σ : St} {H : Hp} {s : Shared} (I : Inv X (pins ++ pl) σ H s) : Inv X pins σ H s := I.pins_of fun p hp => I.pin p (List.mem_append_right _ (List.mem_append_left _ hp))
theorem ps_for {iter : Expr} {body : List Stmt} {wi : TI} {g : TG} {tb : TS} {pos : Pos} (hp : PassesOwn (model X.prog X.w) X.A X.env X.xe) (hc : X.calm = true) (hi : PI X tg iter wi) (hg : PG X tg g) (hb : PSs X body tb)
    (hs : ∀ x, foldedSetIterable iter X.env x = pure x := by intro _; rfl) : PS X (.For tg iter body [] pos) (tFor wi g tb) := by
  intro pins s σ H D I h
  refine wpAny_For (thn (hi pins s σ H _ I h) fun v s1 h1 => thn h1 fun itv s2 h2 => ?_) hs
  obtain ⟨it, fp, tn, J, H2, e, I2, T, st2, f2, W, ⟨m0, w0⟩, turn⟩ := h2
  subst e
  -- what stays true of the iterator's objects through the loop
  have stat : ∀ {H' : Hp}, (∀ b ∈ fp, H' b = none) → ∀ b ∈ fp, FpOk X pins H' b := fun hn b hb => ⟨hn b hb, (f2 b hb).2⟩
  refine codeAny_forLoop_any (fun n s' => ∃ i σ' H', Inv X pins σ' H' s' ∧ tn i s'.heap ∧ (∀ b ∈ fp, H' b = none) ∧ W i n σ' H') ?_ m0 ⟨0, σ, H2, I2, st2, fun b hb => (f2 b hb).1, w0⟩
  rintro n s3 ⟨i, σ3, H3, I3, st3, fr3, w3⟩
  rcases turn i n σ3 H3 w3 with ⟨stop, qn⟩ | ⟨go, N, hN, step⟩
  · refine wpAny_passesOwn hp (thn (T.done X rfl rfl rfl hc i pins s3 σ3 H3 X.xe I3 (stat fr3) st3 stop) fun r s4 ⟨hr, I4⟩ => ?_)
    subst hr
    exact wpAny_execs_nil ⟨σ3, H3, I4, qn⟩
  · refine wpAny_passesOwn hp (thn (T.item X rfl rfl rfl hc i pins s3 σ3 H3 X.xe I3 (stat fr3) st3 go) fun r s4 ⟨u, hr, h4⟩ => ?_)
    subst hr
    refine wpAny_passesOwn hp (thn h4 fun _ s5 ⟨x, H5, I5, r5, y5, st5, fr5⟩ => ?_)
    have I5' := I5.pinned (stat fr5) (T.obj _ _ st5)
    refine wpAny_passesOwn hp (thn (hg _ s5 σ3 H5 x u _ I5' r5 (step x H5 y5)) fun _ s6 ⟨σ6, H6, I6, q6⟩ => ?_)
    refine wpAny_passesOwn hp (thn (hb _ s6 σ6 H6 _ I6 q6) fun f s7 q7 => ?_)
    have again : ∀ {σ7 : St} {H7 : Hp}, Inv X (pins ++ pinsAt fp s5.heap) σ7 H7 s7 → N σ7 H7 → ∃ m, m < n ∧ ∃ i σ' H', Inv X pins σ' H' s7 ∧ tn i s7.heap ∧ (∀ b ∈ fp, H' b = none) ∧ W i m σ' H' := fun {σ7 H7} I7 n7 => by
      obtain ⟨m', hm, w7⟩ := hN σ7 H7 n7
      refine ⟨m', hm, i + 1, σ7, H7, I7.unpinned, T.keep _ _ _ st5 fun b hb o e => (I7.pin (b, o) (List.mem_append_right _ (List.mem_append_right _ (mem_pinsAt hb e)))).1, fun b hb => ?_, w7⟩
      obtain ⟨o, e, d⟩ := T.obj _ _ st5 b hb
      exact (I7.pin (b, o) (List.mem_append_right _ (List.mem_append_right _ (mem_pinsAt hb e)))).2.1
    cases f with
    | next => obtain ⟨σ7, H7, I7, n7⟩ := q7; exact again I7 n7
    | cont => obtain ⟨σ7, H7, I7, n7⟩ := q7; exact again I7 n7
    | brk => obtain ⟨σ7, H7, I7, q7⟩ := q7; exact ⟨σ7, H7, I7.unpinned, q7⟩
    | ret v => obtain ⟨x7, σ7, H7, I7, r7, q7⟩ := q7; exact ⟨x7, σ7, H7, I7.unpinned, r7, q7⟩
end

/-! ### the forms one uses -/
/-- over a list that the body leaves as it is -/
theorem for_list {K : PySem.W.Frag} {a : Addr} {xs : List V} {g : TG} {tb : TS} {D : Ends} {σ : St} {H : Hp} (Pv : Nat → St → Hp → Prop) (h0 : Pv 0 σ H) (hl : ∀ i σ H, i ≤ xs.length → Pv i σ H → SqL K H a xs)
    (hs : ∀ i x σ H, xs[i]? = some x → Pv i σ H → g x σ H fun σ2 H2 => tb { D with nx := Pv (i + 1), ct := Pv (i + 1), bk := D.nx } σ2 H2) (hd : ∀ σ H, Pv xs.length σ H → D.nx σ H) :
    ∃ W : Nat → Nat → St → Hp → Prop, (∃ m, W 0 m σ H) ∧ ∀ i m σ H, W i m σ H →
      ((Itl K a).stop i H ∧ D.nx σ H) ∨ ((Itl K a).go i H ∧ ∃ N : St → Hp → Prop, (∀ σ' H', N σ' H' → ∃ m', m' < m ∧ W (i + 1) m' σ' H') ∧ ∀ x H', (Itl K a).yld i H x H' → g x σ H' fun σ2 H2 => tb { D with nx := N, ct := N, bk := D.nx } σ2 H2) := by
  refine ⟨fun i m σ H => m = xs.length - i ∧ i ≤ xs.length ∧ Pv i σ H, ⟨xs.length, by simp, Nat.zero_le _, h0⟩, ?_⟩
  rintro i m σ H ⟨rfl, hi, p⟩
  have q := hl i σ H hi p
  by_cases hlt : i < xs.length
  · refine .inr ⟨⟨xs, xs[i], q, by simp [hlt]⟩, Pv (i + 1), fun σ' H' p' => ⟨xs.length - (i + 1), by omega, rfl, hlt, p'⟩, fun x H' y => ?_⟩
    obtain ⟨e, y⟩ := y
    subst e
    exact hs i x σ _ (y xs q) p
  · have e : i = xs.length := by omega
    subst e
    exact .inl ⟨⟨xs, q, Nat.le_refl _⟩, hd σ H p⟩
theorem for_tup {K : PySem.W.Frag} {a : Addr} {xs : List V} {g : TG} {tb : TS} {D : Ends} {σ : St} {H : Hp} (Pv : Nat → St → Hp → Prop) (h0 : Pv 0 σ H) (hl : ∀ i σ H, i ≤ xs.length → Pv i σ H → SqT K H a xs)
    (hs : ∀ i x σ H, xs[i]? = some x → Pv i σ H → g x σ H fun σ2 H2 => tb { D with nx := Pv (i + 1), ct := Pv (i + 1), bk := D.nx } σ2 H2) (hd : ∀ σ H, Pv xs.length σ H → D.nx σ H) :
    ∃ W : Nat → Nat → St → Hp → Prop, (∃ m, W 0 m σ H) ∧ ∀ i m σ H, W i m σ H →
      ((Itt K a).stop i H ∧ D.nx σ H) ∨ ((Itt K a).go i H ∧ ∃ N : St → Hp → Prop, (∀ σ' H', N σ' H' → ∃ m', m' < m ∧ W (i + 1) m' σ' H') ∧ ∀ x H', (Itt K a).yld i H x H' → g x σ H' fun σ2 H2 => tb { D with nx := N, ct := N, bk := D.nx } σ2 H2) := by
  refine ⟨fun i m σ H => m = xs.length - i ∧ i ≤ xs.length ∧ Pv i σ H, ⟨xs.length, by simp, Nat.zero_le _, h0⟩, ?_⟩
  rintro i m σ H ⟨rfl, hi, p⟩
  have q := hl i σ H hi p
  by_cases hlt : i < xs.length
  · refine .inr ⟨⟨xs, xs[i], q, by simp [hlt]⟩, Pv (i + 1), fun σ' H' p' => ⟨xs.length - (i + 1), by omega, rfl, hlt, p'⟩, fun x H' y => ?_⟩
    obtain ⟨e, y⟩ := y
    subst e
    exact hs i x σ _ (y xs q) p
  · have e : i = xs.length := by omega
    subst e
    exact .inl ⟨⟨xs, q, Nat.le_refl _⟩, hd σ H p⟩
theorem for_range {lo : Int} {n : Nat} {g : TG} {tb : TS} {D : Ends} {σ : St} {H : Hp} (Pv : Nat → St → Hp → Prop) (h0 : Pv 0 σ H)
    (hs : ∀ i σ H, i < n → Pv i σ H → g (.int (lo + i)) σ H fun σ2 H2 => tb { D with nx := Pv (i + 1), ct := Pv (i + 1), bk := D.nx } σ2 H2) (hd : ∀ σ H, Pv n σ H → D.nx σ H) :
    ∃ W : Nat → Nat → St → Hp → Prop, (∃ m, W 0 m σ H) ∧ ∀ i m σ H, W i m σ H →
      ((Itr lo n).stop i H ∧ D.nx σ H) ∨ ((Itr lo n).go i H ∧ ∃ N : St → Hp → Prop, (∀ σ' H', N σ' H' → ∃ m', m' < m ∧ W (i + 1) m' σ' H') ∧ ∀ x H', (Itr lo n).yld i H x H' → g x σ H' fun σ2 H2 => tb { D with nx := N, ct := N, bk := D.nx } σ2 H2) := by
  refine ⟨fun i m σ H => m = n - i ∧ i ≤ n ∧ Pv i σ H, ⟨n, by simp, Nat.zero_le _, h0⟩, ?_⟩
  rintro i m σ H ⟨rfl, hi, p⟩
  by_cases hlt : i < n
  · refine .inr ⟨hlt, Pv (i + 1), fun σ' H' p' => ⟨n - (i + 1), by omega, rfl, hlt, p'⟩, fun x H' y => ?_⟩
    obtain ⟨e, y⟩ := y
    subst e y
    exact hs i σ _ hlt p
  · have e : i = n := by omega
    subst e
    exact .inl ⟨Nat.le_refl _, hd σ H p⟩
/-- while, by a word and a measure of the state -/
theorem while_by {c : TT} {tb : TS} {D : Ends} {σ : St} {H : Hp} (Pv : St → Hp → Prop) (μ : St → Hp → Nat) (h0 : Pv σ H)
    (hs : ∀ σ H, Pv σ H → c σ H fun b H1 => if b = true then tb { D with nx := fun σ' H' => Pv σ' H' ∧ μ σ' H' < μ σ H, ct := fun σ' H' => Pv σ' H' ∧ μ σ' H' < μ σ H, bk := D.nx } σ H1 else D.nx σ H1)
    (mono : ∀ σ H Q Q', (∀ b H1, Q b H1 → Q' b H1) → c σ H Q → c σ H Q') : tWhile c tb D σ H := by
  refine ⟨fun m σ H => m = μ σ H ∧ Pv σ H, ⟨_, rfl, h0⟩, ?_⟩
  rintro m σ H ⟨rfl, p⟩
  refine mono σ H _ _ (fun b H1 q => ?_) (hs σ H p)
  cases b with
  | true => exact ⟨_, fun σ' H' ⟨p', l⟩ => ⟨_, l, rfl, p'⟩, q⟩
  | false => exact q
end L2

namespace L2
open PySem PySem.Spec PyProof.Rows

abbrev R2 := V → V → Hp → VK → Prop
/-- a two-place operation on values: f is binaryOp op, inplaceOp op or compareOp op -/
def OpR (X : Cx) (f : Value → Value → Sem Value) (r : R2) : Prop :=
  ∀ (pins : List (Addr × Obj)) (s : Shared) (σ : St) (H : Hp) (x y : V) (v u : Value) (Q : VK), Inv X pins σ H s → RelV x v → RelV y u → r x y H Q →
    wpAny (model X.prog X.w) X.A (f v u) (EP X pins σ Q) X.xe s
/-- a one-place operation -/
def UnR (X : Cx) (f : Value → Sem Value) (r : V → Hp → VK → Prop) : Prop :=
  ∀ (pins : List (Addr × Obj)) (s : Shared) (σ : St) (H : Hp) (x : V) (v : Value) (Q : VK), Inv X pins σ H s → RelV x v → r x H Q →
    wpAny (model X.prog X.w) X.A (f v) (EP X pins σ Q) X.xe s
/-- a call of a value that is known (a builtin, a type) with values -/
def CallR (X : Cx) (f : Value) (r : List V → Hp → VK → Prop) : Prop :=
  ∀ (pins : List (Addr × Obj)) (s : Shared) (σ : St) (H : Hp) (xs : List V) (us : List Value) (Q : VK), Inv X pins σ H s → Vals xs us → r xs H Q →
    wpAny (model X.prog X.w) X.A (call f us) (EP X pins σ Q) X.xe s
/-- a value's truth -/
def TruR (X : Cx) (r : V → Hp → (Bool → Hp → Prop) → Prop) : Prop :=
  ∀ (pins : List (Addr × Obj)) (s : Shared) (σ : St) (H : Hp) (x : V) (v : Value) (Q : Bool → Hp → Prop), Inv X pins σ H s → RelV x v → r x H Q →
    wpAny (model X.prog X.w) X.A (truthy v) (TP X pins σ Q) X.xe s

def tOp (r : R2) (ta tb : TE) : TE := fun σ H Q => ta σ H fun x H1 => tb σ H1 fun y H2 => r x y H2 Q
def tUn (r : V → Hp → VK → Prop) (ta : TE) : TE := fun σ H Q => ta σ H fun x H1 => r x H1 Q
/-- ints in, under C, and a value out -/
def rI (C : Int → Int → Prop) (g : Int → Int → V) : R2 := fun x y H Q => ∃ i j, x = .int i ∧ y = .int j ∧ C i j ∧ Q (g i j) H
def rI0 (g : Int → Int → V) : R2 := fun x y H Q => ∃ i j, x = .int i ∧ y = .int j ∧ Q (g i j) H
def rU (g : Int → V) : V → Hp → VK → Prop := fun x H Q => ∃ i, x = .int i ∧ Q (g i) H

section
variable {X : Cx} {a b c : Expr} {ta tb tc : TE} {pos : Pos}

theorem binT (ha : PE X a ta) (hb : PE X b tb) {pins : List (Addr × Obj)} {s : Shared} {σ : St} {H : Hp} {R : V → V → Hp → Prop} (I : Inv X pins σ H s)
    (h : ta σ H fun x H1 => tb σ H1 fun y H2 => R x y H2) {Q : Value → Shared → Prop} {f : Value → Value → Sem Value}
    (hf : ∀ v u s2 x y H2, Inv X pins σ H2 s2 → RelV x v → RelV y u → R x y H2 → wpAny (model X.prog X.w) X.A (f v u) Q X.xe s2) :
    wpAny (model X.prog X.w) X.A (eval a X.env) (fun v s₁ => wpAny (model X.prog X.w) X.A (eval b X.env) (fun u s₂ => wpAny (model X.prog X.w) X.A (f v u) Q X.xe s₂) X.xe s₁) X.xe s := by
  refine thn (ha pins s σ H _ I h) fun v s1 ⟨x, H1, I1, r1, q1⟩ => ?_
  refine thn (hb pins s1 σ H1 _ I1 q1) fun u s2 ⟨y, H2, I2, r2, q2⟩ => ?_
  exact hf v u s2 x y H2 I2 r1 r2 q2

theorem pe_op {op : Operator} {r : R2} (ho : OpR X (binaryOp op) r) (ha : PE X a ta) (hb : PE X b tb) : PE X (.BinOp a op b pos) (tOp r ta tb) := by
  intro pins s σ H Q I h
  exact wpAny_BinOp (binT ha hb I h fun v u s2 x y H2 I2 rx ry q => ho pins s2 σ H2 x y v u Q I2 rx ry q)
theorem pe_un {op : UnaryOp} {r : V → Hp → VK → Prop} (ho : UnR X (unaryOp op) r) (ha : PE X a ta) : PE X (.UnaryOp op a pos) (tUn r ta) := by
  intro pins s σ H Q I h
  exact UnaryOp_ (thn (ha pins s σ H _ I h) fun v s1 ⟨x, H1, I1, r1, q1⟩ => ho pins s1 σ H1 x v Q I1 r1 q1)
/-- a op= e at a name: the name's slot i -/
theorem augR {op : Operator} {r : R2} (ho : OpR X (inplaceOp op) r) {pins : List (Addr × Obj)} {s : Shared} {σ : St} {H : Hp} {x y : V} {v u : Value} {Q : VK} (I : Inv X pins σ H s)
    (rx : RelV x v) (ry : RelV y u) (q : r x y H Q) : wpAny (model X.prog X.w) X.A (inplaceOp op v u) (EP X pins σ Q) X.xe s := ho pins s σ H x y v u Q I rx ry q

/-! ### ints -/
theorem opI {f : Value → Value → Sem Value} {C : Int → Int → Prop} {g : Int → Int → Int}
    (rule : ∀ (i j : Int) (t u : Tok) (s : Shared) (Q : Value → Shared → Prop) (E : Value → Shared → Prop), C i j → Q (.int (g i j) s.toks) { s with toks := s.toks + 1 } → wpAny (model X.prog X.w) X.A (f (.int i t) (.int j u)) Q E s) :
    OpR X f (rI C fun i j => .int (g i j)) := by
  intro pins s σ H x y v u Q I rx ry h
  obtain ⟨i, j, rfl, rfl, hc, q⟩ := h
  obtain ⟨t, rfl⟩ := rx
  obtain ⟨t', rfl⟩ := ry
  exact rule i j t t' s _ _ hc ⟨.int (g i j), H, I.tok _, ⟨_, rfl⟩, q⟩
theorem opI0 {f : Value → Value → Sem Value} {g : Int → Int → Int}
    (rule : ∀ (i j : Int) (t u : Tok) (s : Shared) (Q : Value → Shared → Prop) (E : Value → Shared → Prop), Q (.int (g i j) s.toks) { s with toks := s.toks + 1 } → wpAny (model X.prog X.w) X.A (f (.int i t) (.int j u)) Q E s) :
    OpR X f (rI0 fun i j => .int (g i j)) := by
  intro pins s σ H x y v u Q I rx ry h
  obtain ⟨i, j, rfl, rfl, q⟩ := h
  obtain ⟨t, rfl⟩ := rx
  obtain ⟨t', rfl⟩ := ry
  exact rule i j t t' s _ _ ⟨.int (g i j), H, I.tok _, ⟨_, rfl⟩, q⟩
theorem opB0 {f : Value → Value → Sem Value} {g : Int → Int → Bool}
    (rule : ∀ (i j : Int) (t u : Tok) (s : Shared) (Q : Value → Shared → Prop) (E : Value → Shared → Prop), Q (.bool (g i j)) s → wpAny (model X.prog X.w) X.A (f (.int i t) (.int j u)) Q E s) :
    OpR X f (rI0 fun i j => .bl (g i j)) := by
  intro pins s σ H x y v u Q I rx ry h
  obtain ⟨i, j, rfl, rfl, q⟩ := h
  obtain ⟨t, rfl⟩ := rx
  obtain ⟨t', rfl⟩ := ry
  exact rule i j t t' s _ _ ⟨.bl (g i j), H, I, rfl, q⟩

def CDiv (i j : Int) : Prop := 0 < j ∧ j < 1073741824
def CDivN (i j : Int) : Prop := j ≠ 0 ∧ j.natAbs < 1073741824
def CPow (i j : Int) : Prop := 0 ≤ j ∧ j ≤ 1000000 ∧ i.natAbs < 2 ^ 64
def CMul (i j : Int) : Prop := (-(2 ^ 64) < i ∧ i < 2 ^ 64) ∨ (-(2 ^ 64) < j ∧ j < 2 ^ 64)
theorem CMul.ok {i j : Int} (h : CMul i j) : IntMulOk i j := by
  rcases h with ⟨h1, h2⟩ | ⟨h1, h2⟩
  · exact .of_left (intBits_le_64 h1 h2)
  · exact .of_right (intBits_le_64 h1 h2)
theorem two_pow_nn (k : Nat) : (0 : Int) ≤ 2 ^ k := by
  rw [two_pow_cast]
  exact Int.natCast_nonneg _

theorem op_add : OpR X (binaryOp .Add) (rI0 fun i j => .int (i + j)) := opI0 fun _ _ _ _ _ _ _ q => add_int q
theorem op_sub : OpR X (binaryOp .Sub) (rI0 fun i j => .int (i - j)) := opI0 fun _ _ _ _ _ _ _ q => sub_int q
theorem op_mul : OpR X (binaryOp .Mult) (rI CMul fun i j => .int (i * j)) := opI fun _ _ _ _ _ _ _ hc q => mul_int q hc.ok
/-- // by a positive divisor -/
theorem op_fdiv : OpR X (binaryOp .FloorDiv) (rI CDiv fun i j => .int (i / j)) := opI fun i j _ _ _ _ _ hc q => by
  have h1 : (0 : Int) < j := hc.1
  have h2 : j < 1073741824 := hc.2
  exact floordiv_int (by omega) (by rw [Int.fdiv_eq_ediv_of_nonneg i (by omega)]; exact q) (.inl (PyProof.noPylong_small (by omega)))
theorem op_fdivN : OpR X (binaryOp .FloorDiv) (rI CDivN fun i j => .int (i.fdiv j)) := opI fun _ _ _ _ _ _ _ hc q => floordiv_int hc.1 q (.inl (PyProof.noPylong_small hc.2))
/-- % by a positive divisor of any size -/
theorem op_mod : OpR X (binaryOp .Mod) (rI (fun _ j => 0 < j) fun i j => .int (i % j)) := opI fun i j _ _ _ _ _ hc q => by
  have h1 : (0 : Int) < j := hc
  exact mod_int' (by omega) (by rw [Int.fmod_eq_emod_of_nonneg i (by omega)]; exact q)
theorem op_modN : OpR X (binaryOp .Mod) (rI (fun _ j => j ≠ 0) fun i j => .int (i.fmod j)) := opI fun _ _ _ _ _ _ _ hc q => mod_int' hc q
theorem op_pow : OpR X (binaryOp .Pow) (rI CPow fun i j => .int (i ^ j.toNat)) := opI fun _ _ _ _ _ _ _ hc q => pow_int_small hc.1 hc.2.1 hc.2.2 q
theorem op_shl : OpR X (binaryOp .LShift) (rI CPow fun i j => .int (i * 2 ^ j.toNat)) := opI fun _ _ _ _ _ _ _ hc q => lshift_int_small hc.1 hc.2.1 hc.2.2 q
theorem op_shr : OpR X (binaryOp .RShift) (rI (fun _ j => 0 ≤ j) fun i j => .int (i / 2 ^ j.toNat)) := opI fun i j _ _ _ _ _ hc q =>
  rshift_int hc (by rw [Int.fdiv_eq_ediv_of_nonneg i (two_pow_nn _)]; exact q)
theorem op_and : OpR X (binaryOp .BitAnd) (rI0 fun i j => .int (Builtin.bitAnd i j)) := opI0 fun _ _ _ _ _ _ _ q => and_int q
theorem op_or : OpR X (binaryOp .BitOr) (rI0 fun i j => .int (Builtin.bitOr i j)) := opI0 fun _ _ _ _ _ _ _ q => or_int q
theorem op_xor : OpR X (binaryOp .BitXor) (rI0 fun i j => .int (Builtin.bitXor i j)) := opI0 fun _ _ _ _ _ _ _ q => xor_int q

theorem iop_add : OpR X (inplaceOp .Add) (rI0 fun i j => .int (i + j)) := opI0 fun _ _ _ _ _ _ _ q => iadd_int q
theorem iop_sub : OpR X (inplaceOp .Sub) (rI0 fun i j => .int (i - j)) := opI0 fun _ _ _ _ _ _ _ q => isub_int q
theorem iop_mul : OpR X (inplaceOp .Mult) (rI CMul fun i j => .int (i * j)) := opI fun _ _ _ _ _ _ _ hc q => imul_int q hc.ok
theorem iop_fdiv : OpR X (inplaceOp .FloorDiv) (rI CDiv fun i j => .int (i / j)) := opI fun i j _ _ _ _ _ hc q => by
  have h1 : (0 : Int) < j := hc.1
  have h2 : j < 1073741824 := hc.2
  exact ifloordiv_int (by omega) (by rw [Int.fdiv_eq_ediv_of_nonneg i (by omega)]; exact q) (.inl (PyProof.noPylong_small (by omega)))
theorem iop_mod : OpR X (inplaceOp .Mod) (rI (fun _ j => 0 < j) fun i j => .int (i % j)) := opI fun i j _ _ _ _ _ hc q => by
  have h1 : (0 : Int) < j := hc
  exact imod_int (by omega) (by rw [Int.fmod_eq_emod_of_nonneg i (by omega)]; exact q)
theorem iop_shl : OpR X (inplaceOp .LShift) (rI CPow fun i j => .int (i * 2 ^ j.toNat)) := opI fun _ _ _ _ _ _ _ hc q => ilshift_int_small hc.1 hc.2.1 hc.2.2 q
theorem iop_shr : OpR X (inplaceOp .RShift) (rI (fun _ j => 0 ≤ j) fun i j => .int (i / 2 ^ j.toNat)) := opI fun i j _ _ _ _ _ hc q =>
  irshift_int hc (by rw [Int.fdiv_eq_ediv_of_nonneg i (two_pow_nn _)]; exact q)
theorem iop_and : OpR X (inplaceOp .BitAnd) (rI0 fun i j => .int (Builtin.bitAnd i j)) := opI0 fun _ _ _ _ _ _ _ q => iand_int q
theorem iop_or : OpR X (inplaceOp .BitOr) (rI0 fun i j => .int (Builtin.bitOr i j)) := opI0 fun _ _ _ _ _ _ _ q => ior_int q
theorem iop_xor : OpR X (inplaceOp .BitXor) (rI0 fun i j => .int (Builtin.bitXor i j)) := opI0 fun _ _ _ _ _ _ _ q => ixor_int q

theorem unI {f : Value → Sem Value} {g : Int → Int}
    (rule : ∀ (i : Int) (t : Tok) (s : Shared) (Q : Value → Shared → Prop) (E : Value → Shared → Prop), Q (.int (g i) s.toks) { s with toks := s.toks + 1 } → wpAny (model X.prog X.w) X.A (f (.int i t)) Q E s) :
    UnR X f (rU fun i => .int (g i)) := by
  intro pins s σ H x v Q I rx h
  obtain ⟨i, rfl, q⟩ := h
  obtain ⟨t, rfl⟩ := rx
  exact rule i t s _ _ ⟨.int (g i), H, I.tok _, ⟨_, rfl⟩, q⟩
theorem un_neg : UnR X (unaryOp .USub) (rU fun i => .int (-i)) := unI fun _ _ _ _ _ q => neg_int q
theorem un_inv : UnR X (unaryOp .Invert) (rU fun i => .int (Builtin.bitNot i)) := unI fun _ _ _ _ _ q => invert_int q

/-! ### bools among ints: n += (a < b) -/
theorem op_add_ib : OpR X (binaryOp .Add) (fun x y H Q => ∃ i k, x = .int i ∧ y = .bl k ∧ Q (.int (i + b2i k)) H) := by
  intro pins s σ H x y v u Q I rx ry h
  obtain ⟨i, k, rfl, rfl, q⟩ := h
  obtain ⟨t, rfl⟩ := rx
  cases ry
  exact add_int_bool ⟨.int (i + b2i k), H, I.tok _, ⟨_, rfl⟩, q⟩
end

/-! ### comparisons -/
/-- the scalars that == tells apart as data does -/
def scal : V → V → Bool
  | .non, .non => true | .non, .int _ => true | .int _, .non => true | .non, .bl _ => true | .bl _, .non => true | .non, .str _ => true | .str _, .non => true
  | .int _, .int _ => true | .bl _, .bl _ => true | .str _, .str _ => true | .byt _, .byt _ => true
  | .int _, .str _ => true | .str _, .int _ => true | .bl _, .str _ => true | .str _, .bl _ => true
  | _, _ => false
def rEq : R2 := fun x y H Q => scal x y = true ∧ Q (.bl (decide (x = y))) H
def rNe : R2 := fun x y H Q => scal x y = true ∧ Q (.bl (!decide (x = y))) H

theorem dec_int {i j : Int} : decide (V.int i = V.int j) = (i == j) := by
  rw [Bool.eq_iff_iff]
  simp
theorem dec_bl {i j : Bool} : decide (V.bl i = V.bl j) = (i == j) := by
  rw [Bool.eq_iff_iff]
  simp
theorem dec_str {i j : Str} : decide (V.str i = V.str j) = (i == j) := by
  rw [Bool.eq_iff_iff]
  simp
theorem dec_byt {i j : Array UInt8} : decide (V.byt i = V.byt j) = (i.toList == j.toList) := by
  rw [Bool.eq_iff_iff]
  cases i
  cases j
  simp

section
variable {X : Cx} {a b c : Expr} {ta tb tc : TE} {pos : Pos}
theorem fin_bl {pins : List (Addr × Obj)} {σ : St} {H : Hp} {s : Shared} {Q : VK} {k k' : Bool} (I : Inv X pins σ H s) (q : Q (.bl k) H) (e : k = k') : EP X pins σ Q (.bool k') s := by
  subst e
  exact ⟨.bl k, H, I, rfl, q⟩
theorem op_eq : OpR X (compareOp .Eq) rEq := by
  intro pins s σ H x y v u Q I rx ry h
  obtain ⟨hs, q⟩ := h
  cases x with
  | non =>
    cases rx
    cases y with
    | non => cases ry; exact PySem.EqNone.eq_none_none (fin_bl I q (by simp))
    | bl j => cases ry; exact PySem.EqNone.eq_none_bool (fin_bl I q (by simp))
    | int j => obtain ⟨t', rfl⟩ := ry; exact PySem.EqNone.eq_none_int (fin_bl I q (by simp))
    | str j => obtain ⟨t', rfl⟩ := ry; exact PySem.EqNone.eq_none_str (fin_bl I q (by simp))
    | _ => exact absurd (show false = true from hs) Bool.false_ne_true
  | bl i =>
    cases rx
    cases y with
    | non => cases ry; exact PySem.EqNone.eq_bool_none (fin_bl I q (by simp))
    | bl j => cases ry; exact eq_bool (fin_bl I q dec_bl)
    | str j => obtain ⟨t', rfl⟩ := ry; exact PySem.EqMixed.eq_bool_str (fin_bl I q (by simp))
    | _ => exact absurd (show false = true from hs) Bool.false_ne_true
  | int i =>
    obtain ⟨t, rfl⟩ := rx
    cases y with
    | non => cases ry; exact PySem.EqNone.eq_int_none (fin_bl I q (by simp))
    | int j => obtain ⟨t', rfl⟩ := ry; exact eq_int (fin_bl I q dec_int)
    | str j => obtain ⟨t', rfl⟩ := ry; exact PySem.EqMixed.eq_int_str (fin_bl I q (by simp))
    | _ => exact absurd (show false = true from hs) Bool.false_ne_true
  | str i =>
    obtain ⟨t, rfl⟩ := rx
    cases y with
    | non => cases ry; exact PySem.EqNone.eq_str_none (fin_bl I q (by simp))
    | bl j => cases ry; exact PySem.EqMixed.eq_str_bool (fin_bl I q (by simp))
    | int j => obtain ⟨t', rfl⟩ := ry; exact PySem.EqMixed.eq_str_int (fin_bl I q (by simp))
    | str j => obtain ⟨t', rfl⟩ := ry; exact eq_str (fin_bl I q dec_str)
    | _ => exact absurd (show false = true from hs) Bool.false_ne_true
  | byt i =>
    obtain ⟨t, rfl⟩ := rx
    cases y with
    | byt j => obtain ⟨t', rfl⟩ := ry; exact PySem.W.eq_bytes (fin_bl I q dec_byt)
    | _ => exact absurd (show false = true from hs) Bool.false_ne_true
  | _ => cases y <;> exact absurd (show false = true from hs) Bool.false_ne_true
theorem op_ne : OpR X (compareOp .NotEq) rNe := by
  intro pins s σ H x y v u Q I rx ry h
  obtain ⟨hs, q⟩ := h
  cases x with
  | non =>
    cases rx
    cases y with
    | non => cases ry; exact PySem.EqNone.ne_none_none (fin_bl I q (by simp))
    | bl j => cases ry; exact PySem.EqNone.ne_none_bool (fin_bl I q (by simp))
    | int j => obtain ⟨t', rfl⟩ := ry; exact PySem.EqNone.ne_none_int (fin_bl I q (by simp))
    | str j => obtain ⟨t', rfl⟩ := ry; exact PySem.EqNone.ne_none_str (fin_bl I q (by simp))
    | _ => exact absurd (show false = true from hs) Bool.false_ne_true
  | bl i =>
    cases rx
    cases y with
    | non => cases ry; exact PySem.EqNone.ne_bool_none (fin_bl I q (by simp))
    | bl j => cases ry; exact ne_bool (fin_bl I q (congrArg not dec_bl))
    | str j => obtain ⟨t', rfl⟩ := ry; exact PySem.EqMixed.ne_bool_str (fin_bl I q (by simp))
    | _ => exact absurd (show false = true from hs) Bool.false_ne_true
  | int i =>
    obtain ⟨t, rfl⟩ := rx
    cases y with
    | non => cases ry; exact PySem.EqNone.ne_int_none (fin_bl I q (by simp))
    | int j => obtain ⟨t', rfl⟩ := ry; exact ne_int (fin_bl I q (congrArg not dec_int))
    | str j => obtain ⟨t', rfl⟩ := ry; exact PySem.EqMixed.ne_int_str (fin_bl I q (by simp))
    | _ => exact absurd (show false = true from hs) Bool.false_ne_true
  | str i =>
    obtain ⟨t, rfl⟩ := rx
    cases y with
    | non => cases ry; exact PySem.EqNone.ne_str_none (fin_bl I q (by simp))
    | bl j => cases ry; exact PySem.EqMixed.ne_str_bool (fin_bl I q (by simp))
    | int j => obtain ⟨t', rfl⟩ := ry; exact PySem.EqMixed.ne_str_int (fin_bl I q (by simp))
    | str j => obtain ⟨t', rfl⟩ := ry; exact ne_str (fin_bl I q (congrArg not dec_str))
    | _ => exact absurd (show false = true from hs) Bool.false_ne_true
  | byt i =>
    obtain ⟨t, rfl⟩ := rx
    cases y with
    | byt j => obtain ⟨t', rfl⟩ := ry; exact PySem.W.ne_bytes (fin_bl I q (congrArg not dec_byt))
    | _ => exact absurd (show false = true from hs) Bool.false_ne_true
  | _ => cases y <;> exact absurd (show false = true from hs) Bool.false_ne_true

theorem op_lt : OpR X (compareOp .Lt) (rI0 fun i j => .bl (decide (i < j))) := opB0 fun _ _ _ _ _ _ _ q => lt_int q
theorem op_le : OpR X (compareOp .LtE) (rI0 fun i j => .bl (decide (i ≤ j))) := opB0 fun _ _ _ _ _ _ _ q => le_int q
theorem op_gt : OpR X (compareOp .Gt) (rI0 fun i j => .bl (decide (j < i))) := opB0 fun _ _ _ _ _ _ _ q => gt_int q
theorem op_ge : OpR X (compareOp .GtE) (rI0 fun i j => .bl (decide (j ≤ i))) := opB0 fun _ _ _ _ _ _ _ q => ge_int q
theorem op_lt_str : OpR X (compareOp .Lt) (fun x y H Q => ∃ i j, x = .str i ∧ y = .str j ∧ Q (.bl (decide (i.cps.toList < j.cps.toList))) H) := by
  intro pins s σ H x y v u Q I rx ry h
  obtain ⟨i, j, rfl, rfl, q⟩ := h
  obtain ⟨t, rfl⟩ := rx
  obtain ⟨t', rfl⟩ := ry
  exact lt_str (fin_bl I q rfl)
/-- the one string within the other -/
theorem op_in_str : OpR X (compareOp .In) (fun x y H Q => ∃ i j, x = .str i ∧ y = .str j ∧ Q (.bl (!(Builtin.Str.occurrences j i 0 j.length 1).isEmpty)) H) := by
  intro pins s σ H x y v u Q I rx ry h
  obtain ⟨i, j, rfl, rfl, q⟩ := h
  obtain ⟨t, rfl⟩ := rx
  obtain ⟨t', rfl⟩ := ry
  exact in_str (fin_bl I q rfl)

/-- is None, is not None: the right side a value none -/
theorem op_isN : OpR X (compareOp .Is) (fun x y H Q => y = .non ∧ Q (.bl (decide (x = .non))) H) := by
  intro pins s σ H x y v u Q I rx ry h
  obtain ⟨rfl, q⟩ := h
  cases ry
  refine is_none_gen (fin_bl I q ?_)
  cases x <;> first
    | (cases rx; rfl)
    | (obtain ⟨t, rfl⟩ := rx; rfl)
theorem op_notN : OpR X (compareOp .IsNot) (fun x y H Q => y = .non ∧ Q (.bl (!decide (x = .non))) H) := by
  intro pins s σ H x y v u Q I rx ry h
  obtain ⟨rfl, q⟩ := h
  cases ry
  refine isnot_none_gen (fin_bl I q ?_)
  cases x <;> first
    | (cases rx; rfl)
    | (obtain ⟨t, rfl⟩ := rx; rfl)

theorem op_notin_str : OpR X (compareOp .NotIn) (fun x y H Q => ∃ i j, x = .str i ∧ y = .str j ∧ Q (.bl (!(!(Builtin.Str.occurrences j i 0 j.length 1).isEmpty))) H) := by
  intro pins s σ H x y v u Q I rx ry h
  obtain ⟨i, j, rfl, rfl, q⟩ := h
  obtain ⟨t, rfl⟩ := rx
  obtain ⟨t', rfl⟩ := ry
  exact notIn_str (fin_bl I q rfl)
/-- is, is not of two objects that are tracked lists or instances -/
def isObj : HO → Bool
  | .lst _ => true
  | .ins _ _ _ => true
  | _ => false
theorem obj_there {pins : List (Addr × Obj)} {s : Shared} {σ : St} {H : Hp} {a : Addr} {o : HO} (I : Inv X pins σ H s) (h : H a = some o) (p : isObj o = true) : ∃ ob, s.heap.get? a = some ob ∧ ob.cls ≠ .type "tuple" := by
  cases o with
  | lst xs =>
    obtain ⟨_, its, n, _, e⟩ : xs.length ≤ sizeLine ∧ ∃ (its : List Value) (n : Nat), Vals xs its ∧ s.heap.get? a = some { cls := .type "list", data := .seq its.toArray n } := I.hok a _ h
    exact ⟨_, e, (by show Value.type "list" ≠ .type "tuple"; decide +kernel)⟩
  | ins C dx fs =>
    have x := I.hok a _ h
    obtain ⟨_, _, _, e, _⟩ := x
    exact ⟨_, e, (by show Value.ref C ≠ .type "tuple"; exact fun z => by cases z)⟩
  | _ => exact absurd (show false = true from p) Bool.false_ne_true
theorem op_is_ref : OpR X (compareOp .Is) (fun x y H Q => ∃ a b oa ob, x = .ref a ∧ y = .ref b ∧ H a = some oa ∧ isObj oa = true ∧ H b = some ob ∧ isObj ob = true ∧ Q (.bl (decide (a = b))) H) := by
  intro pins s σ H x y v u Q I rx ry h
  obtain ⟨a, b, oa, ob, rfl, rfl, ha, pa, hb, pb, q⟩ := h
  cases rx
  cases ry
  obtain ⟨o1, e1, n1⟩ := obj_there I ha pa
  obtain ⟨o2, e2, _⟩ := obj_there I hb pb
  by_cases z : a = b
  · subst z
    exact wpAny_is_ref_self (fin_bl I q (by simp))
  · exact wpAny_is_ref_other z e1 e2 n1 (fin_bl I q (by simp [z]))
theorem op_isnot_ref : OpR X (compareOp .IsNot) (fun x y H Q => ∃ a b oa ob, x = .ref a ∧ y = .ref b ∧ H a = some oa ∧ isObj oa = true ∧ H b = some ob ∧ isObj ob = true ∧ Q (.bl (!decide (a = b))) H) := by
  intro pins s σ H x y v u Q I rx ry h
  obtain ⟨a, b, oa, ob, rfl, rfl, ha, pa, hb, pb, q⟩ := h
  cases rx
  cases ry
  obtain ⟨o1, e1, n1⟩ := obj_there I ha pa
  obtain ⟨o2, e2, _⟩ := obj_there I hb pb
  by_cases z : a = b
  · subst z
    exact wpAny_isNot_ref_self (fin_bl I q (by simp))
  · exact wpAny_isNot_ref_other z e1 e2 n1 (fin_bl I q (by simp [z]))

/-- two rules for one operation: by cases -/
theorem OpR.or {f : Value → Value → Sem Value} {r r' : R2} (h : OpR X f r) (h' : OpR X f r') : OpR X f (fun x y H Q => r x y H Q ∨ r' x y H Q) := by
  intro pins s σ H x y v u Q I rx ry q
  rcases q with q | q
  · exact h pins s σ H x y v u Q I rx ry q
  · exact h' pins s σ H x y v u Q I rx ry q

theorem nomark (b : Expr) {op : CmpOp} (h : op ≠ .In := by decide) (h2 : op ≠ .NotIn := by decide) : behindInMarks op b = false := by
  have e1 : (op == CmpOp.In) = false := by cases op <;> first | rfl | exact absurd rfl h
  have e2 : (op == CmpOp.NotIn) = false := by cases op <;> first | rfl | exact absurd rfl h2
  cases b <;> simp [behindInMarks, e1, e2]
/-- a comparison as a value; hm: nomark b, or (for in, not in) by with_unfolding_all rfl -/
theorem pe_cmpR {op : CmpOp} {r : R2} (ho : OpR X (compareOp op) r) (ha : PE X a ta) (hb : PE X b tb) (hm : behindInMarks op b = false) : PE X (.Compare a [op] [b] pos) (tOp r ta tb) := by
  intro pins s σ H Q I h
  exact wpAny_Compare1 (binT ha hb I h fun v u s2 x y H2 I2 rx ry q => ho pins s2 σ H2 x y v u Q I2 rx ry q) hm
/-- a reading of a value as a test -/
def tTest (t : TE) : TT := fun σ H Q => t σ H fun x H' => ∃ k, x = .bl k ∧ Q k H'
theorem pt_cmpR {op : CmpOp} {r : R2} (ho : OpR X (compareOp op) r) (ha : PE X a ta) (hb : PE X b tb) (hm : behindInMarks op b = false) : PT X (.Compare a [op] [b] pos) (tTest (tOp r ta tb)) := by
  intro pins s σ H Q I h
  refine wpAny_isTrue_Compare1 (thn (ha pins s σ H _ I h) fun v s1 ⟨x, H1, I1, r1, q1⟩ => thn (hb pins s1 σ H1 _ I1 q1) fun u s2 ⟨y, H2, I2, r2, q2⟩ =>
    thn (ho pins s2 σ H2 x y v u _ I2 r1 r2 q2) fun c s3 ⟨z, H3, I3, r3, k, e, q3⟩ => ?_) hm
  subst e
  cases r3
  exact wpAny_truthy_bool ⟨H3, I3, q3⟩
/-- a op1 b op2 c -/
def tChain (r r' : R2) (ta tb tc : TE) : TE := fun σ H Q => ta σ H fun x H1 => tb σ H1 fun y H2 => r x y H2 fun z H3 => ∃ k, z = .bl k ∧
  (if k = true then tc σ H3 fun w' H4 => r' y w' H4 Q else Q (.bl false) H3)
theorem pe_chain {op op' : CmpOp} {r r' : R2} (ho : OpR X (compareOp op) r) (ho' : OpR X (compareOp op') r') (ha : PE X a ta) (hb : PE X b tb) (hc : PE X c tc)
    (hm : lastMarks [op, op'] [b, c] = false := by with_unfolding_all rfl) : PE X (.Compare a [op, op'] [b, c] pos) (tChain r r' ta tb tc) := by
  intro pins s σ H Q I h
  refine Compare_chain (thn (ha pins s σ H _ I h) fun v s1 ⟨x, H1, I1, r1, q1⟩ => chain_link (thn (hb pins s1 σ H1 _ I1 q1) fun u s2 ⟨y, H2, I2, r2, q2⟩ =>
    thn (ho pins s2 σ H2 x y v u _ I2 r1 r2 q2) fun d s3 ⟨z, H3, I3, r3, k, e, q3⟩ => ?_)) hm
  subst e
  cases r3
  refine wpAny_truthy_bool ?_
  cases k with
  | false => exact ite_ff ⟨.bl false, H3, I3, rfl, q3⟩
  | true => exact ite_tt (chain_last (thn (hc pins s3 σ H3 _ I3 q3) fun w' s4 ⟨z', H4, I4, r4, q4⟩ => ho' pins s4 σ H4 y z' u w' Q I4 r2 r4 q4))
theorem pt_chain {op op' : CmpOp} {r r' : R2} (ho : OpR X (compareOp op) r) (ho' : OpR X (compareOp op') r') (ha : PE X a ta) (hb : PE X b tb) (hc : PE X c tc)
    (hm : lastMarks [op, op'] [b, c] = false := by with_unfolding_all rfl) : PT X (.Compare a [op, op'] [b, c] pos) (tTest (tChain r r' ta tb tc)) := by
  intro pins s σ H Q I h
  refine isTrue_chain (thn (ha pins s σ H _ I h) fun v s1 ⟨x, H1, I1, r1, q1⟩ => test_link (thn (hb pins s1 σ H1 _ I1 q1) fun u s2 ⟨y, H2, I2, r2, q2⟩ =>
    thn (ho pins s2 σ H2 x y v u _ I2 r1 r2 q2) fun d s3 ⟨z, H3, I3, r3, k, e, q3⟩ => ?_)) hm
  subst e
  cases r3
  refine wpAny_truthy_bool ?_
  cases k with
  | false =>
    obtain ⟨k', e', q'⟩ := q3
    cases e'
    exact ite_ff ⟨H3, I3, q'⟩
  | true =>
    refine ite_tt (test_last (thn (hc pins s3 σ H3 _ I3 q3) fun w' s4 ⟨z', H4, I4, r4, q4⟩ => thn (ho' pins s4 σ H4 y z' u w' _ I4 r2 r4 q4) fun d' s5 ⟨z2, H5, I5, r5, k2, e2, q5⟩ => ?_))
    subst e2
    cases r5
    exact wpAny_truthy_bool ⟨H5, I5, q5⟩

/-! ### truth -/
/-- a value's truth by the abstract heap -/
def TruV (K : PySem.W.Frag) (x : V) (H : Hp) (k : Bool) : Prop :=
  match x with
  | .non => k = false
  | .bl b => k = b
  | .int i => k = (i != 0)
  | .str y => y.length ≤ sizeLine ∧ k = ((y.length : Int) != 0)
  | .byt y => y.size ≤ sizeLine ∧ k = ((y.size : Int) != 0)
  | .ref p => (∃ xs, SqL K H p xs ∧ k = !xs.isEmpty) ∨ (∃ xs, SqT K H p xs ∧ k = !xs.isEmpty) ∨ ∃ kvs, H p = some (.dK kvs) ∧ k = !kvs.isEmpty
  | _ => False
theorem isEmpty_kv {κ : Type} {kvs : List (κ × V)} {vs : List (κ × Value)} (r : KV kvs vs) : (!vs.isEmpty) = !kvs.isEmpty := by
  cases r <;> rfl
theorem isEmpty_of {xs : List V} {its : List Value} (r : Vals xs its) : (!its.toArray.isEmpty) = !xs.isEmpty := by
  cases r <;> simp
theorem line63 : (sizeLine : Nat) < 2 ^ 63 := by rw [sizeLine_eq]; decide
theorem tru_ok : TruR X (fun x H Q => ∃ k, TruV X.K x H k ∧ Q k H) := by
  intro pins s σ H x v Q I rx h
  obtain ⟨k, e, q⟩ := h
  have hl := line63
  have hs : sizeLine = 16777216 := sizeLine_eq
  cases x with
  | non =>
    cases rx
    have e' : k = false := e
    subst e'
    exact truthy_none ⟨H, I, q⟩
  | bl b =>
    cases rx
    have e' : k = b := e
    subst e'
    exact wpAny_truthy_bool ⟨H, I, q⟩
  | int i =>
    obtain ⟨t, rfl⟩ := rx
    have e' : k = (i != 0) := e
    subst e'
    exact PySem.P.truthy_int ⟨H, I, q⟩
  | str y =>
    obtain ⟨t, rfl⟩ := rx
    obtain ⟨hy, e'⟩ : y.length ≤ sizeLine ∧ k = ((y.length : Int) != 0) := e
    subst e'
    exact PySem.P.truthy_str (by omega) ⟨H, I.tok _, q⟩
  | byt y =>
    obtain ⟨t, rfl⟩ := rx
    obtain ⟨hy, e'⟩ : y.size ≤ sizeLine ∧ k = ((y.size : Int) != 0) := e
    subst e'
    exact PySem.W.truthy_bytes (by omega) ⟨H, I.tok _, q⟩
  | ref p =>
    cases rx
    have e' : (∃ xs, SqL X.K H p xs ∧ k = !xs.isEmpty) ∨ (∃ xs, SqT X.K H p xs ∧ k = !xs.isEmpty) ∨ ∃ kvs, H p = some (.dK kvs) ∧ k = !kvs.isEmpty := e
    rcases e' with ⟨xs, hx, e'⟩ | ⟨xs, hx, e'⟩ | ⟨kvs, hx, e'⟩
    · subst e'
      obtain ⟨its, r, pl, hz⟩ := I.list hx
      have hlen := r.length
      exact wpAny_truthy_list pl.isList (by simp only [List.size_toArray]; omega) ⟨H, I.tok _, by rw [isEmpty_of r]; exact q⟩
    · subst e'
      obtain ⟨its, r, pl, hz⟩ := I.tuple hx
      have hlen := r.length
      exact truthy_tuple pl (by simp only [List.size_toArray]; omega) ⟨H, I.tok _, by rw [isEmpty_of r]; exact q⟩
    · subst e'
      obtain ⟨hz, hS, vs, r, m⟩ : kvs.length ≤ sizeLine ∧ (p == sysModules) = false ∧ ∃ vs, KV kvs vs ∧ s.heap.DictOf (mixKind X.prog X.w) p vs := I.hok p _ hx
      have hlen : kvs.length = vs.length := Paired.length r
      exact wpAny_truthy_dict hS m (by omega) ⟨H, I.tok _, by rw [isEmpty_kv r]; exact q⟩
  | _ => exact (show False from e).elim
/-- any expression whose test is its value's truth (a name, a call, a subscript, a field ..: he by fun _ => rfl) -/
theorem pt_truth (ha : PE X a ta) (he : ∀ whole, isTrue a X.env whole = (do let v ← whole; standAt a.pos; holding [v] (truthy v))) :
    PT X a (fun σ H Q => ta σ H fun x H' => ∃ k, TruV X.K x H' k ∧ Q k H') := by
  intro pins s σ H Q I h
  exact isTrue_plain (thn (ha pins s σ H _ I h) fun v s1 ⟨x, H1, I1, r1, q1⟩ => tru_ok pins s1 σ H1 x v Q I1 r1 q1) (he _)

/-! ### strs and bytes -/
theorem pe_byt {x : List UInt8} {k : Nat} : PE X (.Constant (.bytes x) k pos) (fun _ H Q => Q (.byt x.toArray) H) := fun _ _ _ H _ I h => PySem.W.Constant_bytes ⟨.byt x.toArray, H, I.tok _, ⟨_, rfl⟩, h⟩
theorem op_add_str : OpR X (binaryOp .Add) (fun x y H Q => ∃ i j, x = .str i ∧ y = .str j ∧ i.length + j.length ≤ sizeLine ∧ Q (.str (i ++ j)) H) := by
  intro pins s σ H x y v u Q I rx ry h
  obtain ⟨i, j, rfl, rfl, hz, q⟩ := h
  obtain ⟨t, rfl⟩ := rx
  obtain ⟨t', rfl⟩ := ry
  exact add_str (fun t' tk => ⟨.str (i ++ j), H, I.tok _, ⟨_, rfl⟩, q⟩) hz
theorem iop_add_str : OpR X (inplaceOp .Add) (fun x y H Q => ∃ i j, x = .str i ∧ y = .str j ∧ i.length + j.length ≤ sizeLine ∧ Q (.str (i ++ j)) H) := by
  intro pins s σ H x y v u Q I rx ry h
  obtain ⟨i, j, rfl, rfl, hz, q⟩ := h
  obtain ⟨t, rfl⟩ := rx
  obtain ⟨t', rfl⟩ := ry
  exact iadd_str (fun t' tk => ⟨.str (i ++ j), H, I.tok _, ⟨_, rfl⟩, q⟩) hz
theorem op_add_byt : OpR X (binaryOp .Add) (fun x y H Q => ∃ i j, x = .byt i ∧ y = .byt j ∧ i.size + j.size ≤ 16777216 ∧ Q (.byt (i ++ j)) H) := by
  intro pins s σ H x y v u Q I rx ry h
  obtain ⟨i, j, rfl, rfl, hz, q⟩ := h
  obtain ⟨t, rfl⟩ := rx
  obtain ⟨t', rfl⟩ := ry
  exact PySem.W.KBy.add_bytes hz (fun t' tk => ⟨.byt (i ++ j), H, I.tok _, ⟨_, rfl⟩, q⟩)

def PlainIxT (b : Expr) : Prop := ∀ o i, subscripted b false o i = operate [o, i] (getItem o i)
/-- s[i], 0 ≤ i < len -/
theorem pe_item_str (ha : PE X a ta) (hb : PE X b tb) (hs : PlainIxT b) :
    PE X (.Subscript a b pos) (tOp (fun x y H Q => ∃ z i c, x = .str z ∧ y = .int i ∧ 0 ≤ i ∧ i < 2 ^ 63 ∧ i < z.length ∧ z.cps[i.toNat]? = some c ∧ Q (.str ⟨#[c]⟩) H) ta tb) := by
  intro pins s σ H Q I h
  refine Subscript_ (binT ha hb I h fun v u s2 x y H2 I2 rx ry q => ?_)
  obtain ⟨z, i, c, rfl, rfl, h0, h63, h1, hc, q⟩ := q
  obtain ⟨t, rfl⟩ := rx
  obtain ⟨t', rfl⟩ := ry
  have e : seqIndex? i z.length = some i.toNat := PySem.StrLaws.seqIndex_nonneg h0 h1
  exact tail_any (typeIs_str s2 z t) slot_str_getitem.lookup (getItem_str (c := c) (by
    have e1 : decide (i < -(2 ^ 63 : Int)) = false := decide_eq_false (by omega)
    have e2 : decide (i ≥ 2 ^ 63) = false := decide_eq_false (by omega)
    rw [e1, e2] <;> rfl) (by rw [e]; exact hc) ⟨.str ⟨#[c]⟩, H2, I2.tok _, ⟨_, rfl⟩, q⟩) (hs _ _)
/-- b[i], 0 ≤ i < len -/
theorem pe_item_byt (ha : PE X a ta) (hb : PE X b tb) (hs : PlainIxT b) :
    PE X (.Subscript a b pos) (tOp (fun x y H Q => ∃ (z : List UInt8) (i : Int), x = .byt z.toArray ∧ y = .int i ∧ z.length ≤ sizeLine ∧ 0 ≤ i ∧ i < z.length ∧ Q (.int ((z.getD i.toNat 0).toNat : Nat)) H) ta tb) := by
  intro pins s σ H Q I h
  refine Subscript_ (binT ha hb I h fun v u s2 x y H2 I2 rx ry q => ?_)
  obtain ⟨z, i, rfl, rfl, hz, h0, h1, q⟩ := q
  obtain ⟨t, rfl⟩ := rx
  obtain ⟨t', rfl⟩ := ry
  have hl : sizeLine = 16777216 := sizeLine_eq
  exact tail_any (PySem.W.typeIs_bytes s2 z.toArray t) PySem.W.FB.slot_bytes_getitem.lookup (PySem.W.getItem_bytes (by omega) h0 h1 ⟨.int ((z.getD i.toNat 0).toNat : Nat), H2, I2.tok _, ⟨_, rfl⟩, q⟩) (hs _ _)

/-! ### scalar builtins, by CallR -/
theorem vals1 {x : V} {us : List Value} (r : Vals [x] us) : ∃ u, us = [u] ∧ RelV x u := by
  cases r with
  | cons r1 r2 => cases r2; exact ⟨_, rfl, r1⟩
theorem vals2 {x y : V} {us : List Value} (r : Vals [x, y] us) : ∃ u w', us = [u, w'] ∧ RelV x u ∧ RelV y w' := by
  cases r with
  | cons r1 r2 =>
    cases r2 with
    | cons r3 r4 => cases r4; exact ⟨_, _, rfl, r1, r3⟩
theorem call_abs : CallR X (.builtin "abs") (fun xs H Q => ∃ i, xs = [.int i] ∧ Q (.int (if i < 0 then -i else i)) H) := by
  intro pins s σ H xs us Q I r h
  obtain ⟨i, rfl, q⟩ := h
  obtain ⟨u, rfl, t, rfl⟩ := vals1 r
  exact call_abs_int fun u tk => ⟨.int (if i < 0 then -i else i), H, I.tok _, ⟨_, rfl⟩, q⟩
theorem call_max2 (hc : X.calm = true) : CallR X (.builtin "max") (fun xs H Q => ∃ i j, xs = [.int i, .int j] ∧ Q (.int (if j > i then j else i)) H) := by
  intro pins s σ H xs us Q I r h
  obtain ⟨i, j, rfl, q⟩ := h
  obtain ⟨u, w', rfl, ⟨t, rfl⟩, ⟨t', rfl⟩⟩ := vals2 r
  refine max_two_ints (I.ok.hd hc) fun h' tk k => ⟨_, H, I.kept k, ?_, q⟩
  by_cases hj : j > i
  · rw [if_pos hj, if_pos hj]; exact ⟨_, rfl⟩
  · rw [if_neg hj, if_neg hj]; exact ⟨_, rfl⟩
theorem call_min2 (hc : X.calm = true) : CallR X (.builtin "min") (fun xs H Q => ∃ i j, xs = [.int i, .int j] ∧ Q (.int (if j < i then j else i)) H) := by
  intro pins s σ H xs us Q I r h
  obtain ⟨i, j, rfl, q⟩ := h
  obtain ⟨u, w', rfl, ⟨t, rfl⟩, ⟨t', rfl⟩⟩ := vals2 r
  refine min_two_ints (I.ok.hd hc) fun h' tk k => ⟨_, H, I.kept k, ?_, q⟩
  by_cases hj : j < i
  · rw [if_pos hj, if_pos hj]; exact ⟨_, rfl⟩
  · rw [if_neg hj, if_neg hj]; exact ⟨_, rfl⟩
theorem call_int1 : CallR X (.type "int") (fun xs H Q => (∃ i, xs = [.int i] ∧ Q (.int i) H) ∨ ∃ k, xs = [.bl k] ∧ Q (.int (if k then 1 else 0)) H) := by
  intro pins s σ H xs us Q I r h
  rcases h with ⟨i, rfl, q⟩ | ⟨k, rfl, q⟩
  · obtain ⟨u, rfl, t, rfl⟩ := vals1 r
    exact call_int_int ⟨.int i, H, I, ⟨_, rfl⟩, q⟩
  · obtain ⟨u, rfl, r1⟩ := vals1 r
    cases r1
    exact call_int_bool ⟨.int (if k then 1 else 0), H, I.tok _, ⟨_, rfl⟩, q⟩
theorem call_bool1 : CallR X (.type "bool") (fun xs H Q => (∃ i, xs = [.int i] ∧ Q (.bl (i != 0)) H) ∨ ∃ k, xs = [.bl k] ∧ Q (.bl k) H) := by
  intro pins s σ H xs us Q I r h
  rcases h with ⟨i, rfl, q⟩ | ⟨k, rfl, q⟩
  · obtain ⟨u, rfl, t, rfl⟩ := vals1 r
    exact call_bool_int ⟨.bl (i != 0), H, I, rfl, q⟩
  · obtain ⟨u, rfl, r1⟩ := vals1 r
    cases r1
    exact call_bool_bool ⟨.bl k, H, I, rfl, q⟩
theorem call_str_int : CallR X (.type "str") (fun xs H Q => ∃ i, xs = [.int i] ∧ i.natAbs.log2 < 1920 ∧ Q (.str (toString i)) H) := by
  intro pins s σ H xs us Q I r h
  obtain ⟨i, rfl, hz, q⟩ := h
  obtain ⟨u, rfl, t, rfl⟩ := vals1 r
  exact PySem.P.str_of_int hz ⟨.str _, H, I.tok _, ⟨_, rfl⟩, q⟩
theorem call_ord : CallR X (.builtin "ord") (fun xs H Q => ∃ x, xs = [.str x] ∧ x.length = 1 ∧ Q (.int (x.cps.getD 0 0 : Nat)) H) := by
  intro pins s σ H xs us Q I r h
  obtain ⟨x, rfl, hz, q⟩ := h
  obtain ⟨u, rfl, t, rfl⟩ := vals1 r
  exact ord_of_one hz ⟨.int _, H, I.tok _, ⟨_, rfl⟩, q⟩
theorem call_chr : CallR X (.builtin "chr") (fun xs H Q => ∃ i, xs = [.int i] ∧ 0 ≤ i ∧ i ≤ 1114111 ∧ Q (.str ⟨#[i.toNat]⟩) H) := by
  intro pins s σ H xs us Q I r h
  obtain ⟨i, rfl, h0, h1, q⟩ := h
  obtain ⟨u, rfl, t, rfl⟩ := vals1 r
  exact chr_of_range h0 h1 ⟨.str _, H, I.tok _, ⟨_, rfl⟩, q⟩
/-- len of a str, a bytes, a list, a tuple -/
def LenV (K : PySem.W.Frag) (x : V) (H : Hp) (n : Nat) : Prop :=
  match x with
  | .str y => y.length ≤ sizeLine ∧ n = y.length
  | .byt y => y.size ≤ sizeLine ∧ n = y.size
  | .ref p => (∃ xs, SqL K H p xs ∧ n = xs.length) ∨ ∃ xs, SqT K H p xs ∧ n = xs.length
  | _ => False
theorem call_len : CallR X (.builtin "len") (fun xs H Q => ∃ x n, xs = [x] ∧ LenV X.K x H n ∧ Q (.int n) H) := by
  intro pins s σ H xs us Q I r h
  obtain ⟨x, n, rfl, e, q⟩ := h
  obtain ⟨u, rfl, rx⟩ := vals1 r
  have hl := line63
  have hs : sizeLine = 16777216 := sizeLine_eq
  cases x with
  | str y =>
    obtain ⟨t, rfl⟩ := rx
    obtain ⟨hy, e'⟩ : y.length ≤ sizeLine ∧ n = y.length := e
    subst e'
    exact len_str (by omega) ⟨.int _, H, I.tok _, ⟨_, rfl⟩, q⟩
  | byt y =>
    obtain ⟨t, rfl⟩ := rx
    obtain ⟨hy, e'⟩ : y.size ≤ sizeLine ∧ n = y.size := e
    subst e'
    exact PySem.W.len_bytes (by omega) ⟨.int _, H, I.tok _, ⟨_, rfl⟩, q⟩
  | ref p =>
    cases rx
    have e' : (∃ xs, SqL X.K H p xs ∧ n = xs.length) ∨ ∃ xs, SqT X.K H p xs ∧ n = xs.length := e
    rcases e' with ⟨xs, hx, e'⟩ | ⟨xs, hx, e'⟩
    · subst e'
      obtain ⟨its, r', pl, hz⟩ := I.list hx
      have hlen := r'.length
      exact Calls.call_len_list pl.isList (by simp only [List.size_toArray]; omega) ⟨.int xs.length, H, I.tok _, ⟨_, by simp only [List.size_toArray]; rw [hlen]⟩, q⟩
    · subst e'
      obtain ⟨its, r', pl, hz⟩ := I.tuple hx
      have hlen := r'.length
      exact len_tuple pl (by simp only [List.size_toArray]; omega) ⟨.int xs.length, H, I.tok _, ⟨_, by simp only [List.size_toArray]; rw [hlen]⟩, q⟩
  | _ => exact (show False from e).elim
/-- divmod: a new tuple -/
theorem call_divmod : CallR X (.builtin "divmod") (fun xs H Q => ∃ i j, xs = [.int i, .int j] ∧ CDiv i j ∧ ∀ p, H p = none → Q (.ref p) (upd H p (.tup [.int (i / j), .int (i % j)]))) := by
  intro pins s σ H xs us Q I r h
  obtain ⟨i, j, rfl, ⟨h1, h2⟩, q⟩ := h
  obtain ⟨u, w', rfl, ⟨t, rfl⟩, ⟨t', rfl⟩⟩ := vals2 r
  refine divmod_int (by omega) ?_ (.inl (PyProof.noPylong_small (by omega)))
  rw [Int.fdiv_eq_ediv_of_nonneg i (by omega), Int.fmod_eq_emod_of_nonneg i (by omega)]
  have hn : H s.heap.objs.size = none := I.hok.fresh (Nat.le_refl _)
  refine ⟨.ref s.heap.objs.size, _, ?_, rfl, q _ hn⟩
  refine I.laid (fun b o e => Heap.get?_push_of_some _ e) (Nat.le_refl _) ⟨by simp only [List.length_cons, List.length_nil]; rw [sizeLine_eq]; decide, [.int (i / j) s.toks, .int (i % j) (s.toks + 1)], .cons ⟨_, rfl⟩ (.cons ⟨_, rfl⟩ .nil), ?_⟩
  exact ⟨_, Heap.get?_push_size s.heap rfl, rfl, 0, rfl⟩
end
end L2

namespace L2
open PySem PySem.Spec PyProof.Rows

/-! ### an instance, its attributes a map -/
structure ObjM (h : Heap) (x dx C : Addr) (mA : Str → Option Value) : Prop where
  obj : h.get? x = some (PySem.W.instObj C dx)
  ns : h.Ns1 dx mA
  ne : dx ≠ x

theorem lookIn_ns {h : Heap} {dx : Addr} {mA : Str → Option Value} (n : h.Ns1 dx mA) : ∃ od, h.get? dx = some od ∧ ∀ name, PySem.W.lookIn name od = some (mA name) := by
  obtain ⟨o, es, ep, ho, hd, hk, _, hm⟩ := n
  refine ⟨o, ho, fun name => ?_⟩
  have e := hm name
  unfold nsFind findBy at e
  rw [← Array.find?_toList] at e
  unfold PySem.W.lookIn
  rw [hd]
  dsimp only
  split
  · rename_i y q
    rw [q] at e
    exact congrArg some e
  · rename_i q
    rw [q] at e
    have a : es.toList.any (·.refKey) = false := by
      rw [List.any_eq_false]
      intro y hy
      obtain ⟨z, t, hkey⟩ := hk y (Array.mem_toList_iff.mp hy)
      simp [DictEntry.refKey, hkey]
    have a' : ¬ es.toList.any (·.refKey) = true := by rw [a]; exact Bool.false_ne_true
    rw [if_neg a']
    exact congrArg some e

theorem ObjM.look {h : Heap} {x dx C : Addr} {mA : Str → Option Value} (I : ObjM h x dx C mA) : ∃ od, PySem.W.InstAt h x (PySem.W.instObj C dx) C (some od) ∧ ∀ name, PySem.W.lookIn name od = some (mA name) :=
  let ⟨od, ho, hl⟩ := lookIn_ns I.ns
  ⟨od, ⟨I.obj, rfl, rfl, ho⟩, hl⟩

section
variable {prog : Program} {w : World} {A : Around} {E : Value → Shared → Prop} {s : Shared} {K : PySem.W.Frag} {x dx C f : Addr} {mA : Str → Option Value} {name : Str} {v : Value}

theorem get_map {expr : Bool} {Q : Value → Shared → Prop} (X : K.In s.heap) (I : ObjM s.heap x dx C mA) (hg : PySem.W.plainGet K C name = true) (hh : PySem.W.hasDictIn K C = true)
    (ha : PySem.W.findIn K (.ref C) name = some none) (hv : mA name = some v) (hv' : PySem.W.handedIn v = true) (h : Q v { s with toks := s.toks + 1 }) :
    wpAny (model prog w) A (getAttr (.ref x) name expr) Q E s := by
  obtain ⟨od, J, hl⟩ := I.look
  exact PySem.W.get_value X J (PySem.W.plainGet_of hg).1 (PySem.W.findObj_own hh ha rfl (by rw [hl, hv])) hv' h

theorem get_const {expr : Bool} {a : Value} {Q : Value → Shared → Prop} (X : K.In s.heap) (I : ObjM s.heap x dx C mA) (hg : PySem.W.plainGet K C name = true) (hh : PySem.W.hasDictIn K C = true)
    (ha : PySem.W.findIn K (.ref C) name = some (some a)) (hn : PySem.W.specialIn K a "__get__" = some none) (hc : PySem.W.copiedNames.contains name = false) (hv : mA name = none) (hv' : PySem.W.handedIn a = true)
    (h : Q a { s with toks := s.toks + 1 }) : wpAny (model prog w) A (getAttr (.ref x) name expr) Q E s := by
  obtain ⟨od, J, hl⟩ := I.look
  exact PySem.W.get_value X J (PySem.W.plainGet_of hg).1 (PySem.W.findObj_cls hh ha hn hv' hc (by rw [hl, hv])) hv' h

theorem get_meth {pl : Sem Bool} {Q : Value × List Value → Shared → Prop} (X : K.In s.heap) (I : ObjM s.heap x dx C mA) (hg : PySem.W.plainGet K C name = true)
    (hf : PySem.W.findIn K (.ref C) name = some (some (.ref f))) (ht : PySem.W.isFn K (.ref f) = true) (hv : mA name = none) (h : Q (.ref f, [.ref x]) s) :
    wpAny (model prog w) A (getMethod (.ref x) name pl) Q E s := by
  obtain ⟨od, J, hl⟩ := I.look
  exact PySem.W.method_fn X J (PySem.W.plainGet_of hg).1 (PySem.W.plainGet_of hg).2 hf (beq_iff_eq.mp ht) (by show (PySem.W.lookIn name od).map (·.isSome) = some false; rw [hl, hv]; rfl) h

theorem set_map {ns : List Str} {Q : Unit → Shared → Prop} (X : K.In s.heap) (I : ObjM s.heap x dx C mA)
    (hs : PySem.W.findIn K (.ref C) "__setattr__" = some (some (.builtin "object.__setattr__"))) (hp : PySem.W.plainOver K C = true) (ht : PySem.W.takerIn K C name = some none) (hh : PySem.W.hasDictIn K C = true)
    (hw : PySem.Within mA ns) (hsz : ns.length ≤ sizeLine)
    (h : ∀ h', ObjM h' x dx C (fun y => if y = name then some v else mA y) → Heap.SameBut dx s.heap h' → Q () { s with heap := h', toks := s.toks + 2 }) :
    wpAny (model prog w) A (setAttr (.ref x) name v) Q E s := by
  obtain ⟨od, J, hl⟩ := I.look
  refine PySem.W.set_plain X J hs (PySem.W.osa_open (s := { s with toks := s.toks + 1 }) (r := none) X J hp ht fun b => ?_)
  obtain ⟨cd, hc, hd'⟩ := PySem.W.any_some hh
  have hx : s.heap.get? x = some ⟨.ref C, some dx, .plain, #[]⟩ := I.obj
  refine wpAny_bind (wpAny_pure (wpAny_bind (wpAny_bind (wpAny_loadPart hx (wpAny_bind (PySem.W.Looks.here (s := { s with toks := s.toks + 1 }) (PySem.W.looks_clsIn X hc) ?_))))))
  rw [hd']
  refine wpAny_pure (a := some dx) (wpAny_bind (wpAny_pure (wpAny_bind ?_)))
  refine wpAny_nsSet1 (s := { s with toks := s.toks + 1 }) I.ns fun h' hn2 hs2 => ?_
  obtain ⟨oD, esD, epD, hoD, hdD, hcD⟩ := hn2.count (PySem.Within.cons name v hw)
  refine wpAny_bind (wpAny_lookBehind hoD (by rw [hdD]; exact pastItsLine_dict (Nat.le_trans hcD (by rw [List.length_cons]; omega))) ?_)
  exact wpAny_pure (h _ ⟨(hs2.2 _ (Ne.symm I.ne)).trans I.obj, hn2, I.ne⟩ hs2)

/-- C(..): the dict at the heap's end, the instance behind it; then its __init__ -/
theorem make_map {R : Result → Shared → Prop} {vs : List Value} {kw : List (Str × Value)} (X : K.In s.heap) (hm : PySem.W.makesIn K C = true)
    (hi : PySem.W.findIn K (.ref C) "__init__" = some (some (.ref f))) (hf : PySem.W.typeIn K (.ref f) = some (.type "function"))
    (h : codeAny (model prog w) (A.under (.builtin "type.__call__" ⟨.ref C :: vs, kw⟩)) (.call (.ref f) ⟨.ref (s.heap.objs.size + 1) :: vs, kw⟩) (PySem.W.InitBack (s.heap.objs.size + 1) R)
      { s with heap := (s.heap.push PySem.W.emptyDict).push (PySem.W.instObj C s.heap.objs.size) }) :
    codeAny (model prog w) A (.call (.ref C) ⟨vs, kw⟩) R s := by
  obtain ⟨hh, g, d, t, os⟩ := s
  exact PySem.W.make_core (PySem.W.makes_of X hm) (PySem.W.looks_findIn X hi) (fun self => PySem.W.bind_fn X self hf) (.inl rfl) h
/-- C() where there is no __init__ but object's -/
theorem make_map0 {R : Result → Shared → Prop} (X : K.In s.heap) (hm : PySem.W.makesIn K C = true)
    (hi : PySem.W.findIn K (.ref C) "__init__" = some (some (.builtin "object.__init__")))
    (hb : ∀ self, PySem.W.Looks (model prog w) s.heap (bindSpecial (.builtin "object.__init__") self) (.builtin "object.__init__", [self]))
    (h : codeAny (model prog w) (A.under (.builtin "type.__call__" ⟨[.ref C], []⟩)) (.call (.builtin "object.__init__") ⟨[.ref (s.heap.objs.size + 1)], []⟩) (PySem.W.InitBack (s.heap.objs.size + 1) R)
      { s with heap := (s.heap.push PySem.W.emptyDict).push (PySem.W.instObj C s.heap.objs.size) }) :
    codeAny (model prog w) A (.call (.ref C) ⟨[], []⟩) R s := by
  obtain ⟨hh, g, d, t, os⟩ := s
  exact PySem.W.make_core (PySem.W.makes_of X hm) (PySem.W.looks_findIn X hi) hb (.inr ⟨rfl, rfl⟩) h
end

/-! ### the attributes as a list of pairs -/
def putF (f : Str) (v : V) : List (Str × V) → List (Str × V)
  | [] => [(f, v)]
  | (g, x) :: r => if g = f then (g, v) :: r else (g, x) :: putF f v r
theorem lookup_putF (f g : Str) (v : V) : ∀ fs : List (Str × V), (putF f v fs).lookup g = if g = f then some v else fs.lookup g
  | [] => by
    show List.lookup g [(f, v)] = _
    by_cases h : g = f
    · have hb : (g == f) = true := beq_iff_eq.mpr h
      simp only [List.lookup, hb, if_pos h]
    · have hb : (g == f) = false := beq_eq_false_iff_ne.mpr h
      simp only [List.lookup, hb, if_neg h]
  | (k, x) :: r => by
    have ih := lookup_putF f g v r
    rw [show putF f v ((k, x) :: r) = (if k = f then (k, v) :: r else (k, x) :: putF f v r) from rfl]
    by_cases hk : k = f
    · rw [if_pos hk]
      by_cases h : g = k
      · have hb : (g == k) = true := beq_iff_eq.mpr h
        simp only [List.lookup, hb, if_pos (h.trans hk)]
      · have hb : (g == k) = false := beq_eq_false_iff_ne.mpr h
        simp only [List.lookup, hb, if_neg (fun e : g = f => h (e.trans hk.symm))]
    · rw [if_neg hk]
      by_cases h : g = k
      · have hb : (g == k) = true := beq_iff_eq.mpr h
        simp only [List.lookup, hb, if_neg (fun e : g = f => hk (h.symm.trans e))]
      · have hb : (g == k) = false := beq_eq_false_iff_ne.mpr h
        simp only [List.lookup, hb]
        exact ih
theorem keys_putF (f : Str) (v : V) : ∀ fs : List (Str × V), f ∈ (putF f v fs).map (·.1) ∧ ∀ g, g ∈ fs.map (·.1) → g ∈ (putF f v fs).map (·.1)
  | [] => ⟨by simp [putF], fun g h => by simp at h⟩
  | (k, x) :: r => by
    obtain ⟨i1, i2⟩ := keys_putF f v r
    rw [show putF f v ((k, x) :: r) = (if k = f then (k, v) :: r else (k, x) :: putF f v r) from rfl]
    by_cases hk : k = f
    · rw [if_pos hk]
      subst hk
      exact ⟨by simp, fun g h => by simpa using h⟩
    · rw [if_neg hk]
      refine ⟨?_, fun g h => ?_⟩
      · rw [List.map_cons]
        exact List.mem_cons_of_mem _ i1
      · rw [List.map_cons] at h ⊢
        rcases List.mem_cons.mp h with e | e
        · exact List.mem_cons.mpr (.inl e)
        · exact List.mem_cons_of_mem _ (i2 g e)
theorem length_putF (f : Str) (v : V) : ∀ fs : List (Str × V), (putF f v fs).length ≤ fs.length + 1
  | [] => by simp [putF]
  | (k, x) :: r => by
    have ih := length_putF f v r
    rw [show putF f v ((k, x) :: r) = (if k = f then (k, v) :: r else (k, x) :: putF f v r) from rfl]
    by_cases hk : k = f
    · rw [if_pos hk, List.length_cons, List.length_cons]; omega
    · rw [if_neg hk, List.length_cons, List.length_cons]; omega

theorem RelO.some_of {v : V} {o : Option Value} (r : RelO (some v) o) : ∃ u, o = some u ∧ RelV v u := by
  cases o with
  | none => exact (show False from r).elim
  | some u => exact ⟨u, rfl, r⟩
theorem RelO.none_of {o : Option Value} (r : RelO none o) : o = none := by
  cases o with
  | none => rfl
  | some u => exact (show False from r).elim
theorem handed_of {v : V} {u : Value} (r : RelV v u) : PySem.W.handedIn u = true := by
  cases v with
  | non => cases (show u = Value.none from r); rfl
  | bl b => cases (show u = Value.bool b from r); rfl
  | int i => obtain ⟨t, e⟩ := (show ∃ t, u = Value.int i t from r); cases e; rfl
  | str x => obtain ⟨t, e⟩ := (show ∃ t, u = Value.str x t from r); cases e; rfl
  | byt b => obtain ⟨t, e⟩ := (show ∃ t, u = Value.bytes b t from r); cases e; rfl
  | flt b => obtain ⟨t, e⟩ := (show ∃ t, u = Value.float b t from r); cases e; rfl
  | ref a => cases (show u = Value.ref a from r); rfl
  | ty n => cases (show u = Value.type n from r); rfl

section
variable {P : Program} {w : World} {H H' : Hp} {h h' : Heap} {a C dx : Addr} {fs fs' : List (Str × V)}
theorem ins_get (hok : HOk P w H h) (e : H a = some (.ins C dx fs)) : ∃ mA, ObjM h a dx C mA ∧ (∀ f, RelO (fs.lookup f) (mA f)) ∧ PySem.Within mA (fs.map (·.1)) ∧ fs.length ≤ 1000 ∧ H dx = some (.own a) := by
  obtain ⟨d, z, ne, ob, mA, n, r, q⟩ := (show ObjOk P w H h a (.ins C dx fs) from hok a _ e)
  exact ⟨mA, ⟨ob, n, ne⟩, r, q, z, d⟩
end

/-! ### what of the text a class must have -/
structure Cls (K : PySem.W.Frag) (C : Addr) : Prop where
  pg : PySem.W.plainGet K C Str.empty = true
  hd : PySem.W.hasDictIn K C = true
  po : PySem.W.plainOver K C = true
  sa : PySem.W.findIn K (.ref C) "__setattr__" = some (some (.builtin "object.__setattr__"))
theorem Cls.get {K : PySem.W.Frag} {C : Addr} (c : Cls K C) (f : Str) : PySem.W.plainGet K C f = true := c.pg
/-- no class of it has the name -/
def NoAttr (K : PySem.W.Frag) (C : Addr) (f : Str) : Prop := PySem.W.findIn K (.ref C) f = some none
theorem NoAttr.taker {K : PySem.W.Frag} {C : Addr} {f : Str} (n : NoAttr K C f) : PySem.W.takerIn K C f = some none := by
  unfold PySem.W.takerIn
  rw [show PySem.W.findIn K (.ref C) f = some none from n]
  rfl
/-- a constant of the class -/
structure Con (K : PySem.W.Frag) (C : Addr) (f : Str) (v : V) (u : Value) : Prop where
  at_ : PySem.W.findIn K (.ref C) f = some (some u)
  rel : RelV v u
  get : PySem.W.specialIn K u "__get__" = some none
  cp : PySem.W.copiedNames.contains f = false
/-- a method: a plain def of the class or of one above it -/
structure Meth (K : PySem.W.Frag) (C : Addr) (m : Str) (f : Addr) : Prop where
  at_ : PySem.W.findIn K (.ref C) m = some (some (.ref f))
  fn : PySem.W.isFn K (.ref f) = true
  kp : PySem.W.keepIn K (.ref f) = true

section
variable {X : Cx} {pins : List (Addr × Obj)} {σ : St} {H : Hp} {s : Shared} {a C dx : Addr} {fs : List (Str × V)} {f : Str} {v : V} {A : Around} {E : Value → Shared → Prop}

theorem getattr_ok {b : Bool} {Q : Value → Shared → Prop} (I : Inv X pins σ H s) (e : H a = some (.ins C dx fs)) (c : Cls X.K C) (n : NoAttr X.K C f) (l : fs.lookup f = some v)
    (h : ∀ u s', Inv X pins σ H s' → RelV v u → Q u s') : wpAny (model X.prog X.w) A (getAttr (.ref a) f b) Q E s := by
  obtain ⟨mA, O, r, _, _, _⟩ := ins_get I.hok e
  obtain ⟨u, hu, ru⟩ := RelO.some_of (v := v) (o := mA f) (by rw [← l]; exact r f)
  exact get_map I.kIn O (c.get f) c.hd n hu (handed_of ru) (h u _ (I.tok _) ru)

theorem getcon_ok {b : Bool} {u : Value} {Q : Value → Shared → Prop} (I : Inv X pins σ H s) (e : H a = some (.ins C dx fs)) (c : Cls X.K C) (k : Con X.K C f v u) (l : fs.lookup f = none)
    (h : ∀ s', Inv X pins σ H s' → Q u s') : wpAny (model X.prog X.w) A (getAttr (.ref a) f b) Q E s := by
  obtain ⟨mA, O, r, _, _, _⟩ := ins_get I.hok e
  have hn : mA f = none := RelO.none_of (by rw [← l]; exact r f)
  exact get_const I.kIn O (c.get f) c.hd k.at_ k.get k.cp hn (handed_of k.rel) (h _ (I.tok _))

theorem getmeth_ok {m : Str} {g : Addr} {pl : Sem Bool} {Q : Value × List Value → Shared → Prop} (I : Inv X pins σ H s) (e : H a = some (.ins C dx fs)) (c : Cls X.K C) (k : Meth X.K C m g) (l : fs.lookup m = none)
    (h : Q (.ref g, [.ref a]) s) : wpAny (model X.prog X.w) A (getMethod (.ref a) m pl) Q E s := by
  obtain ⟨mA, O, r, _, _, _⟩ := ins_get I.hok e
  have hn : mA m = none := RelO.none_of (by rw [← l]; exact r m)
  exact get_meth I.kIn O (c.get m) k.at_ k.fn hn h

theorem setattr_ok {y : V} {u : Value} {Q : Unit → Shared → Prop} (I : Inv X pins σ H s) (e : H a = some (.ins C dx fs)) (c : Cls X.K C) (n : NoAttr X.K C f) (hl : fs.length < 1000) (ry : RelV y u)
    (h : ∀ s', Inv X pins σ (upd H a (.ins C dx (putF f y fs))) s' → Q () s') : wpAny (model X.prog X.w) A (setAttr (.ref a) f u) Q E s := by
  obtain ⟨mA, O, r, wi, _, ho⟩ := ins_get I.hok e
  have hz : (fs.map (·.1)).length ≤ sizeLine := by rw [List.length_map, sizeLine_eq]; omega
  refine set_map I.kIn O c.sa c.po n.taker c.hd wi hz fun h' O' sb => h _ ?_
  have hd : ∃ o, h'.get? dx = some o := let ⟨o, _, _, e', _⟩ := O'.ns; ⟨o, e'⟩
  refine I.write (x := a) (e := dx) (by rw [e]; exact True.intro) (.inr ho) (fun b q hb z => (sb.2 b hb).trans z) hd ?_
  refine ⟨by rw [upd_ne O.ne]; exact ho, ?_, O.ne, O'.obj, _, O'.ns, fun g => ?_, fun g hg => ?_⟩
  · have := length_putF f y fs; omega
  · show RelO ((putF f y fs).lookup g) (if g = f then some u else mA g)
    rw [lookup_putF]
    by_cases q : g = f
    · rw [if_pos q, if_pos q]; exact ry
    · rw [if_neg q, if_neg q]; exact r g
  · by_cases q : g = f
    · rw [q]; exact (keys_putF f y fs).1
    · refine (keys_putF f y fs).2 g (wi g fun z => hg ?_)
      show (if g = f then some u else mA g) = none
      rw [if_neg q]; exact z

/-- a new instance, tracked, without attributes -/
theorem Inv.made (I : Inv X pins σ H s) : Inv X pins σ (upd (upd H s.heap.objs.size (.own (s.heap.objs.size + 1))) (s.heap.objs.size + 1) (.ins C s.heap.objs.size []))
    { s with heap := (s.heap.push PySem.W.emptyDict).push (PySem.W.instObj C s.heap.objs.size) } := by
  have e1 : (s.heap.push PySem.W.emptyDict).get? s.heap.objs.size = some PySem.W.emptyDict := Heap.get?_push_size s.heap rfl
  have e2 : ((s.heap.push PySem.W.emptyDict).push (PySem.W.instObj C s.heap.objs.size)).get? (s.heap.objs.size + 1) = some (PySem.W.instObj C s.heap.objs.size) := by
    have := Heap.get?_push_size (s.heap.push PySem.W.emptyDict) (o := PySem.W.instObj C s.heap.objs.size) rfl
    rwa [Heap.size_push] at this
  have e3 : (s.heap.push PySem.W.emptyDict).Ns s.heap.objs.size (fun _ => none) := ⟨PySem.W.emptyDict, #[], _, e1, rfl, (fun e he => absurd he (by simp)), fun _ => rfl⟩
  have I1 := I.laid (a := s.heap.objs.size) (o := .own (s.heap.objs.size + 1)) (h' := s.heap.push PySem.W.emptyDict) (t' := s.toks) (fun b u q => Heap.get?_push_of_some _ q) (Nat.le_refl _) ⟨_, e1⟩
  refine I1.laid (a := s.heap.objs.size + 1) (o := .ins C s.heap.objs.size []) (t' := s.toks) (fun b u q => Heap.get?_push_of_some _ q) (Nat.le_of_eq (Heap.size_push _ _)) ?_
  have ne : s.heap.objs.size ≠ s.heap.objs.size + 1 := Nat.ne_of_lt (Nat.lt_succ_self _)
  refine ⟨by rw [upd_ne ne, upd_same], Nat.zero_le _, ne, e2, fun _ => none, (Heap.Ns1.of_empty e3).at fun o q => Heap.get?_push_of_some _ q, fun _ => True.intro, fun y hy => absurd rfl hy⟩

/-- e.f where nothing but the object is asked: through attributeBase (super) and the last hold -/
theorem attr_of {prog : Program} {w : World} {env : Env} {e : Expr} {f : Str} {pos : Pos} {s : Shared} {Q : Value → Shared → Prop} (hb : attributeBase e f env (eval e env) = eval e env)
    (h : wpAny (model prog w) A (eval e env) (fun o s₁ => wpAny (model prog w) A (getAttr o f true) Q E s₁) E s) : wpAny (model prog w) A (eval (.Attribute e f pos) env) Q E s :=
  Attribute_any_ h (by rw [arm_eval_Attribute, hb])
end

/-! ### readings and rules -/
/-- e.f, an attribute of the instance -/
def tFld (K : PySem.W.Frag) (ta : TE) (f : Str) : TE := fun σ H Q => ta σ H fun x H1 => ∃ a C dx fs v, x = .ref a ∧ H1 a = some (.ins C dx fs) ∧ Cls K C ∧ NoAttr K C f ∧ fs.lookup f = some v ∧ Q v H1
/-- e.f, a constant of the class -/
def tCon (K : PySem.W.Frag) (ta : TE) (f : Str) : TE := fun σ H Q => ta σ H fun x H1 => ∃ a C dx fs v u, x = .ref a ∧ H1 a = some (.ins C dx fs) ∧ Cls K C ∧ Con K C f v u ∧ fs.lookup f = none ∧ Q v H1
/-- e.f = value -/
def sFld (K : PySem.W.Frag) (ta tv : TE) (f : Str) : TS := fun D σ H => tv σ H fun y H1 => ta σ H1 fun x H2 => ∃ a C dx fs, x = .ref a ∧ H2 a = some (.ins C dx fs) ∧ Cls K C ∧ NoAttr K C f ∧ fs.length < 1000 ∧
  D.nx σ (upd H2 a (.ins C dx (putF f y fs)))
/-- an augmented operator on two values -/
def InOp (X : Cx) (op : Operator) (rd : V → V → Hp → VK → Prop) : Prop :=
  ∀ (pins : List (Addr × Obj)) (s : Shared) (σ : St) (H : Hp) (x y : V) (u v : Value) (Q : VK), Inv X pins σ H s → RelV x u → RelV y v → rd x y H Q → wpAny (model X.prog X.w) X.A (inplaceOp op u v) (EP X pins σ Q) X.xe s
/-- e.f op= value -/
def sFldAug (K : PySem.W.Frag) (ta tv : TE) (rd : V → V → Hp → VK → Prop) (f : Str) : TS := fun D σ H => ta σ H fun x H1 => ∃ a C dx fs v, x = .ref a ∧ H1 a = some (.ins C dx fs) ∧ Cls K C ∧ NoAttr K C f ∧ fs.lookup f = some v ∧
  tv σ H1 fun y H2 => rd v y H2 fun z H3 => ∃ dx' fs', H3 a = some (.ins C dx' fs') ∧ fs'.length < 1000 ∧ D.nx σ (upd H3 a (.ins C dx' (putF f z fs')))

section
variable {X : Cx} {o e value : Expr} {f : Str} {pos pos' tpos : Pos} {ta tv : TE}
theorem pe_fld (he : PE X e ta) (hb : attributeBase e f X.env (eval e X.env) = eval e X.env) : PE X (.Attribute e f pos) (tFld X.K ta f) := by
  intro pins s σ H Q I h
  refine attr_of hb (thn (he pins s σ H _ I h) fun u s1 ⟨x, H1, I1, rx, a, C, dx, fs, v, ex, ea, c, n, l, q⟩ => ?_)
  subst ex
  obtain rfl : u = Value.ref a := rx
  exact getattr_ok I1 ea c n l fun u' s2 I2 ru => ⟨v, H1, I2, ru, q⟩
theorem pe_con (he : PE X e ta) (hb : attributeBase e f X.env (eval e X.env) = eval e X.env) : PE X (.Attribute e f pos) (tCon X.K ta f) := by
  intro pins s σ H Q I h
  refine attr_of hb (thn (he pins s σ H _ I h) fun u s1 ⟨x, H1, I1, rx, a, C, dx, fs, v, u0, ex, ea, c, k, l, q⟩ => ?_)
  subst ex
  obtain rfl : u = Value.ref a := rx
  exact getcon_ok I1 ea c k l fun s2 I2 => ⟨v, H1, I2, k.rel, q⟩
theorem ps_fld (ha : PE X o ta) (hv : PE X value tv) (hs : swapsWith value (some (.Attribute o f pos')) pos.line X.env = pure false) : PS X (.Assign [.Attribute o f pos'] value pos) (sFld X.K ta tv f) := by
  intro pins s σ H D I h
  refine plainObj_wpAny_Assign_Attribute (thn (hv pins s σ H _ I h) fun u s1 ⟨y, H1, I1, ry, q⟩ => thn (ha pins s1 σ H1 _ I1 q) fun ov s2 ⟨x, H2, I2, rx, a, C, dx, fs, ex, ea, c, n, l, q2⟩ => ?_) hs
  subst ex
  obtain rfl : ov = Value.ref a := rx
  exact setattr_ok I2 ea c n l ry fun s3 I3 => ⟨σ, _, I3, q2⟩
theorem ps_fldaug {op : Operator} {rd : V → V → Hp → VK → Prop} (ha : PE X o ta) (hv : PE X value tv) (hop : InOp X op rd) : PS X (.AugAssign (.Attribute o f tpos) op value pos) (sFldAug X.K ta tv rd f) := by
  intro pins s σ H D I h
  refine wpAny_AugAssign_AttributeAny (thn (ha pins s σ H _ I h) fun ov s1 ⟨x, H1, I1, rx, a, C, dx, fs, v, ex, ea, c, n, l, q⟩ => ?_)
  subst ex
  obtain rfl : ov = Value.ref a := rx
  refine getattr_ok I1 ea c n l fun u s2 I2 ru => thn (hv pins s2 σ H1 _ I2 q) fun w3 s3 ⟨y, H2, I3, ry, q3⟩ => thn (hop pins s3 σ H2 v y u w3 _ I3 ru ry q3) fun w4 s4 ⟨z, H3, I4, rz, dx', fs', ea', l', q4⟩ => ?_
  exact setattr_ok I4 ea' c n l' rz fun s5 I5 => ⟨σ, _, I5, q4⟩
def rAdd : V → V → Hp → VK → Prop := fun x y H Q => ∃ i j, x = .int i ∧ y = .int j ∧ Q (.int (i + j)) H
def rSub : V → V → Hp → VK → Prop := fun x y H Q => ∃ i j, x = .int i ∧ y = .int j ∧ Q (.int (i - j)) H
theorem in_add : InOp X .Add rAdd := by
  rintro pins s σ H x y u v Q I rx ry ⟨i, j, rfl, rfl, q⟩
  obtain ⟨t, rfl⟩ := (show ∃ t, u = Value.int i t from rx)
  obtain ⟨t', rfl⟩ := (show ∃ t', v = Value.int j t' from ry)
  exact PyProof.Rows.iadd_int ⟨.int (i + j), H, I.tok _, ⟨_, rfl⟩, q⟩
theorem in_sub : InOp X .Sub rSub := by
  rintro pins s σ H x y u v Q I rx ry ⟨i, j, rfl, rfl, q⟩
  obtain ⟨t, rfl⟩ := (show ∃ t, u = Value.int i t from rx)
  obtain ⟨t', rfl⟩ := (show ∃ t', v = Value.int j t' from ry)
  exact PyProof.Rows.isub_int ⟨.int (i - j), H, I.tok _, ⟨_, rfl⟩, q⟩

/-- what is between an instance and its method: the tree of a method call -/
theorem methcall_of {pl : Sem Bool} {m : Str} {apos : Pos} {args : List Expr} {pins : List (Addr × Obj)} {s : Shared} {σ : St} {H : Hp} {Q : Value → Shared → Prop} {te : TE} (he : PE X e te) (I : Inv X pins σ H s)
    (h : te σ H fun x H1 => ∃ a C dx fs g, x = .ref a ∧ H1 a = some (.ins C dx fs) ∧ Cls X.K C ∧ Meth X.K C m g ∧ fs.lookup m = none ∧
      ∀ s1, Inv X pins σ H1 s1 → wpAny (model X.prog X.w) X.A (callWith pos (.ref g) [.ref a] (backTo pos (starEach args X.env)) (backToKw pos (keywordEach [] X.env))) Q X.xe s1)
    (ht : eval (.Call (.Attribute e m apos) args [] pos) X.env = (do
      let ov ← eval e X.env
      standAt apos.atName
      let (f, first) ← holding [ov] (getMethod ov m pl)
      callWith pos f first (backTo pos (starEach args X.env)) (backToKw pos (keywordEach [] X.env)))) :
    wpAny (model X.prog X.w) X.A (eval (.Call (.Attribute e m apos) args [] pos) X.env) Q X.xe s := by
  refine PySem.W.methodCall_KW (pl := pl) (thn (he pins s σ H _ I h) fun u s1 ⟨x, H1, I1, rx, a, C, dx, fs, g, ex, ea, c, k, l, q⟩ => ?_) ht
  subst ex
  obtain rfl : u = Value.ref a := rx
  exact getmeth_ok I1 ea c k l (q s1 I1)
end

/-! ### isinstance -/
section
variable {X : Cx} {pins : List (Addr × Obj)} {σ : St} {H : Hp} {s : Shared} {A : Around} {E : Value → Shared → Prop} {Q : Value → Shared → Prop} {c : Value} {b : Bool}
/-- the type of a value, as the fragment's deciders take it; for an instance its class -/
inductive TyOf (K : PySem.W.Frag) (H : Hp) : V → Value → Prop where
  | non : TyOf K H .non (.type "NoneType")
  | bl (x : Bool) : TyOf K H (.bl x) (.type "bool")
  | int (i : Int) : TyOf K H (.int i) (.type "int")
  | str (x : Str) : TyOf K H (.str x) (.type "str")
  | flt (x : UInt64) : TyOf K H (.flt x) (.type "float")
  | lst {a : Addr} {xs : List V} (e : H a = some (.lst xs)) : TyOf K H (.ref a) (.type "list")
  | frz {a : Addr} {o : Obj} {xs : List V} (e : H a = some (.frz o (.lst xs))) : TyOf K H (.ref a) (.type "list")
  | tup {a : Addr} {xs : List V} (e : H a = some (.tup xs)) : TyOf K H (.ref a) (.type "tuple")
  | dK {a : Addr} {kvs : List (Key × V)} (e : H a = some (.dK kvs)) : TyOf K H (.ref a) (.type "dict")
  | dT {a : Addr} {kvs : List (List Key × V)} (e : H a = some (.dT kvs)) : TyOf K H (.ref a) (.type "dict")
  | ins {a C dx : Addr} {fs : List (Str × V)} (e : H a = some (.ins C dx fs)) (cl : Cls K C) (ha : PySem.W.findIn K (.ref C) "__class__" = some (some (.builtin "object.__class__")))
      (hn : PySem.W.specialIn K (.builtin "object.__class__") "__get__" = some (some (.builtin "getset_descriptor.__get__"))) (htk : PySem.W.takesIn K (.builtin "object.__class__") = some true)
      (hm : PySem.W.mroIn K C (.type "object") = some true) : TyOf K H (.ref a) (.ref C)
/-- isinstance(x, c) for one class c, a built-in or an own one: kitOne's answer -/
theorem isinst_ok {x : V} {u t : Value} (I : Inv X pins σ H s) (rx : RelV x u) (ty : TyOf X.K H x t) (e : PySem.W.kitOne X.K t c = some b) (h : ∀ tk, Q (.bool b) { s with toks := tk }) :
    wpAny (model X.prog X.w) A (call (.builtin "isinstance") [u, c]) Q E s := by
  cases ty with
  | non => cases (show u = Value.none from rx); exact PySem.W.kia_one PySem.W.kitx_none I.kIn True.intro e (fun z => nomatch z) h
  | bl y => cases (show u = Value.bool y from rx); exact PySem.W.kia_one PySem.W.kitx_bool I.kIn True.intro e (fun z => nomatch z) h
  | int i => obtain ⟨t, q⟩ := (show ∃ t, u = Value.int i t from rx); cases q; exact PySem.W.kia_one PySem.W.kitx_int I.kIn True.intro e (fun z => nomatch z) h
  | str y => obtain ⟨t, q⟩ := (show ∃ t, u = Value.str y t from rx); cases q; exact PySem.W.kia_one PySem.W.kitx_str I.kIn True.intro e (fun z => nomatch z) h
  | flt y => obtain ⟨t, q⟩ := (show ∃ t, u = Value.float y t from rx); cases q; exact PySem.W.kia_one PySem.W.kitx_float I.kIn True.intro e (fun z => nomatch z) h
  | @lst a xs ea =>
    cases (show u = Value.ref a from rx)
    obtain ⟨_, _, n, _, h1⟩ := (show ObjOk X.prog X.w H s.heap a (.lst xs) from I.hok a _ ea)
    exact PySem.W.kia_one PySem.W.kitx_list I.kIn ⟨_, h1, rfl⟩ e (fun z => nomatch z) h
  | @frz a ob xs ea =>
    cases (show u = Value.ref a from rx)
    obtain ⟨_, _, _, n, _, h1⟩ := (show ObjOk X.prog X.w H s.heap a (.frz ob (.lst xs)) from I.hok a _ ea)
    exact PySem.W.kia_one PySem.W.kitx_list I.kIn ⟨_, h1, rfl⟩ e (fun z => nomatch z) h
  | @tup a xs ea =>
    cases (show u = Value.ref a from rx)
    obtain ⟨_, _, _, p⟩ := (show ObjOk X.prog X.w H s.heap a (.tup xs) from I.hok a _ ea)
    obtain ⟨o, h1, h2, _⟩ := p
    exact PySem.W.kia_one PySem.W.kitx_tuple I.kIn ⟨o, h1, h2⟩ e (fun z => nomatch z) h
  | @dK a kvs ea =>
    cases (show u = Value.ref a from rx)
    obtain ⟨_, _, vs, _, p⟩ := (show ObjOk X.prog X.w H s.heap a (.dK kvs) from I.hok a _ ea)
    obtain ⟨o, es, ep, h1, h2, _⟩ := p
    exact PySem.W.kia_one PySem.W.kitx_dict I.kIn ⟨o, h1, h2.1⟩ e (fun z => nomatch z) h
  | @dT a kvs ea =>
    cases (show u = Value.ref a from rx)
    obtain ⟨_, _, xs, _, o, es, ep, h1, h2, _⟩ := (show ObjOk X.prog X.w H s.heap a (.dT kvs) from I.hok a _ ea)
    exact PySem.W.kia_one PySem.W.kitx_dict I.kIn ⟨o, h1, h2.1⟩ e (fun z => nomatch z) h
  | @ins a C dx fs ea cl ha hn htk hm =>
    cases (show u = Value.ref a from rx)
    obtain ⟨mA, O, _⟩ := ins_get I.hok ea
    obtain ⟨od, J, _⟩ := O.look
    exact PySem.W.kia_one (PySem.W.kitx_own (cl.get _) cl.hd ha hn htk hm) I.kIn J e (fun z => nomatch z) h
end
end L2

namespace L2
open PySem PySem.Spec PyProof.Rows

/-! ### room -/
structure Room (k : Nat) (A : Around) : Prop where
  hd : A.handled = none
  dp : A.depth + 3 * k + 5 < recursionLimit
  un : A.units + 16 * k + 200 < cLine
theorem Room.mono {j k : Nat} {A : Around} (r : Room k A) (h : j ≤ k) : Room j A := ⟨r.hd, by have := r.dp; omega, by have := r.un; omega⟩
theorem Room.deeper {k : Nat} {A : Around} (r : Room (k + 1) A) (env : Env) : Room k (A.deeper env) :=
  ⟨r.hd, by have := r.dp; show A.depth + 1 + 3 * k + 5 < _; omega, by have := r.un; show A.units + 3 + 16 * k + 200 < _; omega⟩
theorem Room.in1 {k : Nat} {A : Around} (r : Room (k + 1) A) : Room k A.in1 :=
  ⟨r.hd, by have := r.dp; show A.depth + 3 * k + 5 < _; omega, by have := r.un; show A.units + 1 + 16 * k + 200 < _; omega⟩
theorem make_depth {A : Around} {C : Addr} {us : List Value} {kw : List (Str × Value)} : (A.under (.builtin "type.__call__" ⟨.ref C :: us, kw⟩)).depth = A.depth + 1 := by
  first | rfl | simp [Around.under, Code.weight, Code.isCreation, Code.isGuard, Code.isCaller, Code.frames, Code.isFrame, guardIds]
theorem make_units {A : Around} {C : Addr} {us : List Value} {kw : List (Str × Value)} : (A.under (.builtin "type.__call__" ⟨.ref C :: us, kw⟩)).units = A.units + 1 := by
  first | rfl | simp [Around.under, Code.cUnits, Code.frames, Code.isFrame]
theorem Room.make {k : Nat} {A : Around} (r : Room (k + 1) A) (C : Addr) (us : List Value) (kw : List (Str × Value)) : Room k (A.under (.builtin "type.__call__" ⟨.ref C :: us, kw⟩)) :=
  ⟨r.hd, by have := r.dp; rw [make_depth]; omega, by have := r.un; rw [make_units]; omega⟩
theorem Room.depth {k : Nat} {A : Around} (r : Room k A) : A.depth < recursionLimit := by have := r.dp; omega
theorem Room.units {k : Nat} {A : Around} (r : Room k A) : A.units + 64 < cLine := by have := r.un; omega
theorem Room.units0 {k : Nat} {A : Around} (r : Room k A) : A.units < cLine := by have := r.un; omega

/-! ### argument lists and displays -/
def tNil : TA := fun _ H Q => Q [] H
def tCons (ta : TE) (tr : TA) : TA := fun σ H Q => ta σ H fun x H1 => tr σ H1 fun xs H2 => Q (x :: xs) H2
section
variable {X : Cx} {e : Expr} {es : List Expr} {te : TE} {t : TA} {pos : Pos}
theorem pa_nil : PA X [] tNil := fun _ _ _ _ H Q I h => Calls.spliced_nil ⟨[], H, I, .nil, h⟩
theorem pa_cons (ha : PE X e te) (hr : PA X es t) (hs : starEach (e :: es) X.env = (false, eval e X.env) :: starEach es X.env := by rfl) : PA X (e :: es) (tCons te t) := by
  intro pos pins s σ H Q I h
  rw [hs]
  show wpAny _ _ (spliced ((false, eval e X.env) :: backTo pos (starEach es X.env))) _ _ s
  refine Calls.spliced_cons (thn (ha pins s σ H _ I h) fun u s1 ⟨x, H1, I1, r1, q1⟩ => ?_)
  exact thn (hr pos pins s1 σ H1 _ I1 q1) fun us s2 ⟨xs, H2, I2, r2, q2⟩ => ⟨x :: xs, H2, I2, .cons r1 r2, q2⟩

/-- a tuple, a list of written items -/
def tTup (t : TA) : TE := fun σ H Q => t σ H fun xs H1 => xs.length ≤ sizeLine ∧ ∀ p, H1 p = none → Q (.ref p) (upd H1 p (.tup xs))
def tLst (t : TA) : TE := fun σ H Q => t σ H fun xs H1 => xs.length ≤ sizeLine ∧ ∀ p, H1 p = none → Q (.ref p) (upd H1 p (.lst xs))
theorem pe_tup {x1} (h : PA X es t) : PE X (.Tuple es x1 pos) (tTup t) := by
  intro pins s σ H Q I hq
  refine wpAny_Tuple_spliced (thn (h pos pins s σ H _ I hq) fun us s1 ⟨xs, H1, I1, r, z, q⟩ => ⟨by rw [← r.length]; exact z, ?_⟩)
  have hf : H1 s1.heap.objs.size = none := I1.hok.fresh (Nat.le_refl _)
  refine ⟨.ref s1.heap.objs.size, upd H1 s1.heap.objs.size (.tup xs), I1.laid (t' := s1.toks) (fun b u e => Heap.get?_push_of_some _ e) (Nat.le_refl _) ?_, rfl, q _ hf⟩
  exact ⟨z, us, r, ⟨_, Heap.get?_push_size _ rfl, rfl, _, rfl⟩⟩
theorem pe_lst (h : PA X es t) : PE X (.List es pos) (tLst t) := by
  intro pins s σ H Q I hq
  refine wpAny_List_spliced (thn (h pos pins s σ H _ I hq) fun us s1 ⟨xs, H1, I1, r, z, q⟩ => ⟨by rw [← r.length]; exact z, ?_⟩)
  have hf : H1 s1.heap.objs.size = none := I1.hok.fresh (Nat.le_refl _)
  refine ⟨.ref s1.heap.objs.size, upd H1 s1.heap.objs.size (.lst xs), I1.laid (t' := s1.toks) (fun b u e => Heap.get?_push_of_some _ e) (Nat.le_refl _) ?_, rfl, q _ hf⟩
  exact ⟨z, us, 0, r, Heap.get?_push_size _ rfl⟩
end

/-! ### what a def promises -/
/-- a def's promise: the bound arguments in the parameters' order, the heap, the wanted end, the wanted exception -/
abbrev Sp := List V → Hp → VK → XK → Prop
/-- how an exception lies behind a call (file 08 gives it): the callers' frames, abstract heap and state ahead of the call, the wish, the exception, the state -/
abbrev CXT := List Env → Hp → Shared → XK → Value → Shared → Prop

/-- the state at a call -/
structure Env0 (P : Program) (w : World) (K : PySem.W.Frag) (mg : Str → Option Value) (base : Heap) (A : Around) (outer : List Env) (s : Shared) (H : Hp) : Prop where
  frames : A.frames = some outer
  mod : Mod K mg base
  bs : ∀ b o, base.get? b = some o → s.heap.get? b = some o ∧ H b = none
  bsz : base.objs.size ≤ s.heap.objs.size
  funs : s.heap.FunFrames base outer
  frf : ∀ b ∈ frs outer, H b = none
  hok : HOk P w H s.heap
  bare : AllBare s.gens
/-- a call's end -/
def CE (outer : List Env) (P : Program) (w : World) (H : Hp) (s : Shared) (Q : VK) (u : Value) (s' : Shared) : Prop :=
  ∃ v H', s'.os = s.os ∧ AllBare s'.gens ∧ Un (frs outer) [] H H' s.heap s'.heap ∧ HOk P w H' s'.heap ∧ RelV v u ∧ Q v H'
def CR (CX : CXT) (outer : List Env) (P : Program) (w : World) (H : Hp) (s : Shared) (Q : VK) (E : XK) (r : Result) (s' : Shared) : Prop :=
  match r with
  | .ok (.ret u) => CE outer P w H s Q u s'
  | .ok _ => False
  | .error e => CX outer H s E e s'
structure FnOk (P : Program) (w : World) (K : PySem.W.Frag) (mg : Str → Option Value) (base : Heap) (CX : CXT) (k : Nat) (f : Addr) (fd : FuncData) (ps : List Str) (sp : Sp) : Prop where
  len : ∀ vs H Q E, sp vs H Q E → vs.length = ps.length
  run : ∀ (A : Around) (outer : List Env) (s : Shared) (H : Hp) (args : Args) (us : List Value) (vs : List V) (Q : VK) (E : XK), Room k A → Env0 P w K mg base A outer s H → BindsTo s fd args (ps.zip us) → Vals vs us → sp vs H Q E →
    codeAny (model P w) A (.call (.ref f) args) (CR CX outer P w H s Q E) s
theorem FnOk.mono {P : Program} {w : World} {K : PySem.W.Frag} {mg : Str → Option Value} {base : Heap} {CX : CXT} {j k : Nat} {f : Addr} {fd : FuncData} {ps : List Str} {sp : Sp} (F : FnOk P w K mg base CX j f fd ps sp) (h : j ≤ k) :
    FnOk P w K mg base CX k f fd ps sp := ⟨F.len, fun A outer s H args us vs Q E hr => F.run A outer s H args us vs Q E (hr.mono h)⟩
/-- a weaker promise -/
theorem FnOk.imp {P : Program} {w : World} {K : PySem.W.Frag} {mg : Str → Option Value} {base : Heap} {CX : CXT} {k : Nat} {f : Addr} {fd : FuncData} {ps : List Str} {sp sp' : Sp} (F : FnOk P w K mg base CX k f fd ps sp)
    (h : ∀ vs H Q E, sp' vs H Q E → sp vs H Q E) : FnOk P w K mg base CX k f fd ps sp' :=
  ⟨fun vs H Q E q => F.len vs H Q E (h _ _ _ _ q), fun A outer s H args us vs Q E hr he hb hv hs => F.run A outer s H args us vs Q E hr he hb hv (h _ _ _ _ hs)⟩

theorem Env0.make {P : Program} {w : World} {K : PySem.W.Frag} {mg : Str → Option Value} {base : Heap} {A : Around} {outer : List Env} {s : Shared} {H : Hp} (e : Env0 P w K mg base A outer s H) (C : Addr) (us : List Value) (kw : List (Str × Value)) :
    Env0 P w K mg base (A.under (.builtin "type.__call__" ⟨.ref C :: us, kw⟩)) outer s H := ⟨by first | exact e.frames | (simpa [Around.under, Code.envs, Code.isFrame, pushEnvs] using e.frames), e.mod, e.bs, e.bsz, e.funs, e.frf, e.hok, e.bare⟩
theorem Env0.in1 {P : Program} {w : World} {K : PySem.W.Frag} {mg : Str → Option Value} {base : Heap} {A : Around} {outer : List Env} {s : Shared} {H : Hp} (e : Env0 P w K mg base A outer s H) :
    Env0 P w K mg base A.in1 outer s H := ⟨e.frames, e.mod, e.bs, e.bsz, e.funs, e.frf, e.hok, e.bare⟩

section
variable {X : Cx} {pins : List (Addr × Obj)} {σ : St} {H : Hp} {s s' : Shared}
/-- from a body: what a callee wants -/
theorem Inv.env0 (I : Inv X pins σ H s) : Env0 X.prog X.w X.K X.mg X.base X.A X.stack s H :=
  ⟨I.ok.frames, I.ok.mod, I.bs, Nat.le_trans I.ok.bsz I.sz, I.stack, I.stkFree, I.hok, I.bare⟩
/-- behind a call -/
theorem Inv.after {Q : VK} {u : Value} (I : Inv X pins σ H s) (h : CE X.stack X.prog X.w H s Q u s') : EP X pins σ Q u s' := by
  obtain ⟨v, H', os, bare, un, hok, r, q⟩ := h
  obtain ⟨hh, g, d, t, os'⟩ := s'
  obtain rfl : os' = s.os := os
  exact ⟨v, H', I.call (h' := hh) (g' := g) (d' := d) (t' := t) (ch := []) un hok bare (fun b z => absurd z (by simp)), r, q⟩
end

/-! ### calls -/
/-- f(..): the written arguments, then the defaults dvs; E: what is wanted of an exception -/
def tCall (sp : Sp) (dvs : List V) (E : XK) (t : TA) : TE := fun σ H Q => t σ H fun vs H1 => sp (vs ++ dvs) H1 Q E
/-- o.m(..) of an instance of the class at C -/
def tMeth (C : Addr) (m : Str) (sp : Sp) (dvs : List V) (E : XK) (ta : TE) (t : TA) : TE := fun σ H Q => ta σ H fun x H1 => ∃ a dx fs, x = .ref a ∧ H1 a = some (.ins C dx fs) ∧ fs.lookup m = none ∧
  t σ H1 fun vs H2 => sp (x :: (vs ++ dvs)) H2 Q E
/-- C(..): a new instance and its dict, then __init__ -/
def tMake (C : Addr) (sp : Sp) (dvs : List V) (E : XK) (t : TA) : TE := fun σ H Q => t σ H fun vs H1 => ∀ x dx, H1 x = none → H1 dx = none → dx ≠ x →
  sp (.ref x :: (vs ++ dvs)) (upd (upd H1 dx (.own x)) x (.ins C dx [])) (fun v H2 => v = .non ∧ Q (.ref x) H2) E

/-- how the parameters are bound: us the positional arguments, kw the keywords' values by name, ds the defaults that fill up -/
def Binds (K : PySem.W.Frag) (fd : FuncData) (ps : List Str) (ds : List Value) : Prop :=
  ∀ (s : Shared) (us : List Value), K.In s.heap → (us ++ ds).length = ps.length → BindsTo s fd ⟨us, []⟩ (ps.zip (us ++ ds))
/-- every parameter is given -/
theorem Binds.all {K : PySem.W.Frag} {fd : FuncData} {ps : List Str} (h : ∀ us : List Value, us.length = ps.length → bindArgs fd ⟨us, []⟩ = pure (ps.zip us)) : Binds K fd ps [] := fun s us _ hl => by
  rw [List.append_nil] at hl ⊢
  exact .of_eq (h us hl)

/-- an exception of a callee reaches what this body wants of exceptions -/
def Passes (CX : CXT) (X : Cx) (E : XK) : Prop := ∀ (pins : List (Addr × Obj)) (σ : St) (H : Hp) (s : Shared) (e : Value) (s' : Shared), Inv X pins σ H s → CX X.stack H s E e s' → X.xe e s'

section
variable {X : Cx} {CX : CXT} {k : Nat} {f C : Addr} {fd : FuncData} {ps : List Str} {sp : Sp} {dvs : List V} {ds : List Value} {E : XK} {x m : Str} {p pos apos : Pos} {e o : Expr} {es : List Expr} {ta : TE} {t : TA}

/-- the callee runs -/
theorem run_fn {pins : List (Addr × Obj)} {σ : St} {H : Hp} {s : Shared} {Q : VK} {us : List Value} {vs : List V} (F : FnOk X.prog X.w X.K X.mg X.base CX k f fd ps sp) (hr : Room k X.A) (hb : Binds X.K fd ps ds) (hd : Vals dvs ds) (hx : Passes CX X E)
    (I : Inv X pins σ H s) (r : Vals vs us) (h : sp (vs ++ dvs) H Q E) : wpAny (model X.prog X.w) X.A (call (.ref f) us) (EP X pins σ Q) X.xe s := by
  have r2 : Vals (vs ++ dvs) (us ++ ds) := r.append hd
  have hl : (us ++ ds).length = ps.length := by rw [← r2.length]; exact F.len _ _ _ _ h
  refine wpAny_call (codeAny_mono (F.run X.A X.stack s H ⟨us, []⟩ (us ++ ds) (vs ++ dvs) Q E hr I.env0 (hb s us I.kIn hl) r2 h) fun r s' hq => ?_)
  cases r with
  | error e => exact hx pins σ H s e s' I hq
  | ok fl =>
    cases fl with
    | ret u => exact I.after hq
    | next => exact False.elim hq
    | brk => exact False.elim hq
    | cont => exact False.elim hq

theorem pe_call (F : FnOk X.prog X.w X.K X.mg X.base CX k f fd ps sp) (hr : Room k X.A) (hg : Gl X x) (hm : X.mg x = some (.ref f)) (hk : PySem.W.keepIn X.K (.ref f) = true) (hb : Binds X.K fd ps ds) (hd : Vals dvs ds) (hx : Passes CX X E)
    (ha : PA X (e :: es) t) (hdb : (x == ("__debug__" : Str)) = false := by decide) (he : starEach (e :: es) X.env = (false, eval e X.env) :: starEach es X.env := by rfl) (hpl : (backTo pos (starEach es X.env)).any (·.1) = false := by rfl) :
    PE X (.Call (.Name x p) (e :: es) [] pos) (tCall sp dvs E t) := by
  intro pins s σ H Q I h
  refine wpAny_Call_Name_kw (ld_glob I hg hm ?_ hdb)
  refine PySem.W.callWith_K (h₀ := X.base) I.ok.mod.kin hk (thn (ha pos pins s σ H _ I h) fun us s1 ⟨vs, H1, I1, r, q⟩ => ⟨I1.kIn, ?_⟩) he hpl
  exact run_fn F hr hb hd hx I1 r q
theorem pe_call0 (F : FnOk X.prog X.w X.K X.mg X.base CX k f fd ps sp) (hr : Room k X.A) (hg : Gl X x) (hm : X.mg x = some (.ref f)) (hk : PySem.W.keepIn X.K (.ref f) = true) (hb : Binds X.K fd ps ds) (hd : Vals dvs ds) (hx : Passes CX X E)
    (hdb : (x == ("__debug__" : Str)) = false := by decide) : PE X (.Call (.Name x p) [] [] pos) (tCall sp dvs E tNil) := by
  intro pins s σ H Q I h
  refine wpAny_Call_Name_kw (ld_glob I hg hm ?_ hdb)
  exact PySem.W.callWith_K0 I.kIn hk (run_fn (us := []) F hr hb hd hx I .nil h)

/-- o.m(e, ..) -/
theorem pe_meth {pl : Sem Bool} (he : PE X o ta) (c : Cls X.K C) (hm : Meth X.K C m f) (F : FnOk X.prog X.w X.K X.mg X.base CX k f fd ps sp) (hr : Room k X.A) (hb : Binds X.K fd ps ds) (hd : Vals dvs ds) (hx : Passes CX X E) (ha : PA X (e :: es) t)
    (hst : starEach (e :: es) X.env = (false, eval e X.env) :: starEach es X.env := by rfl) (hpl : (backTo pos (starEach es X.env)).any (·.1) = false := by rfl)
    (ht : eval (.Call (.Attribute o m apos) (e :: es) [] pos) X.env = (do
      let ov ← eval o X.env
      standAt apos.atName
      let (f, first) ← holding [ov] (getMethod ov m pl)
      callWith pos f first (backTo pos (starEach (e :: es) X.env)) (backToKw pos (keywordEach [] X.env))) := by rfl) :
    PE X (.Call (.Attribute o m apos) (e :: es) [] pos) (tMeth C m sp dvs E ta t) := by
  intro pins s σ H Q I h
  refine PySem.W.methodCall_KW (pl := pl) (thn (he pins s σ H _ I h) fun u s1 ⟨x, H1, I1, rx, a, dx, fs, ex, ea, l, q⟩ => ?_) ht
  subst ex
  obtain rfl : u = Value.ref a := rx
  refine getmeth_ok I1 ea c hm l ?_
  refine PySem.W.callWith_K (first := [.ref a]) (h₀ := X.base) I.ok.mod.kin hm.kp (thn (ha pos pins s1 σ H1 _ I1 q) fun us s2 ⟨vs, H2, I2, r, q2⟩ => ⟨I2.kIn, ?_⟩) hst hpl
  exact run_fn (us := .ref a :: us) (vs := .ref a :: vs) F hr hb hd hx I2 (.cons rfl r) q2
/-- o.m() -/
theorem pe_meth0 {pl : Sem Bool} (he : PE X o ta) (c : Cls X.K C) (hm : Meth X.K C m f) (F : FnOk X.prog X.w X.K X.mg X.base CX k f fd ps sp) (hr : Room k X.A) (hb : Binds X.K fd ps ds) (hd : Vals dvs ds) (hx : Passes CX X E)
    (ht : eval (.Call (.Attribute o m apos) [] [] pos) X.env = (do
      let ov ← eval o X.env
      standAt apos.atName
      let (f, first) ← holding [ov] (getMethod ov m pl)
      callWith pos f first (backTo pos (starEach [] X.env)) (backToKw pos (keywordEach [] X.env))) := by rfl) :
    PE X (.Call (.Attribute o m apos) [] [] pos) (tMeth C m sp dvs E ta tNil) := by
  intro pins s σ H Q I h
  refine PySem.W.methodCall_KW (pl := pl) (thn (he pins s σ H _ I h) fun u s1 ⟨x, H1, I1, rx, a, dx, fs, ex, ea, l, q⟩ => ?_) ht
  subst ex
  obtain rfl : u = Value.ref a := rx
  refine getmeth_ok I1 ea c hm l ?_
  exact PySem.W.callWith_K0 (first := [.ref a]) I1.kIn hm.kp (run_fn (us := [.ref a]) (vs := [.ref a]) F hr hb hd hx I1 (.cons rfl .nil) q)

/-- what a class must have to be made -/
structure Mk (K : PySem.W.Frag) (C f : Addr) : Prop where
  makes : PySem.W.makesIn K C = true
  init : PySem.W.findIn K (.ref C) "__init__" = some (some (.ref f))
  fn : PySem.W.isFn K (.ref f) = true
  kp : PySem.W.keepIn K (.ref C) = true

theorem run_make {pins : List (Addr × Obj)} {σ : St} {H : Hp} {s : Shared} {Q : VK} {us : List Value} {vs : List V} (M : Mk X.K C f) (F : FnOk X.prog X.w X.K X.mg X.base CX k f fd ps sp) (hr : Room (k + 1) X.A) (hb : Binds X.K fd ps ds) (hd : Vals dvs ds)
    (hx : Passes CX X E) (I : Inv X pins σ H s) (r : Vals vs us)
    (h : ∀ x dx, H x = none → H dx = none → dx ≠ x → sp (.ref x :: (vs ++ dvs)) (upd (upd H dx (.own x)) x (.ins C dx [])) (fun v H2 => v = .non ∧ Q (.ref x) H2) E) :
    wpAny (model X.prog X.w) X.A (call (.ref C) us) (EP X pins σ Q) X.xe s := by
  have hq := h (s.heap.objs.size + 1) s.heap.objs.size (I.hok.fresh (Nat.le_succ _)) (I.hok.fresh (Nat.le_refl _)) (Nat.ne_of_lt (Nat.lt_succ_self _))
  have I2 := Inv.made (C := C) I
  have r2 : Vals (V.ref (s.heap.objs.size + 1) :: (vs ++ dvs)) (Value.ref (s.heap.objs.size + 1) :: (us ++ ds)) := .cons rfl (r.append hd)
  have hl : (Value.ref (s.heap.objs.size + 1) :: us ++ ds).length = ps.length := by
    have e := r2.length
    rw [F.len _ _ _ _ hq] at e
    exact e.symm
  refine wpAny_call (make_map (f := f) I.kIn M.makes M.init (beq_iff_eq.mp M.fn) (codeAny_mono (F.run _ X.stack _ _ ⟨Value.ref (s.heap.objs.size + 1) :: us, []⟩ (Value.ref (s.heap.objs.size + 1) :: (us ++ ds)) _ _ E (hr.make C us [])
    (I2.env0.make C us []) (hb _ (Value.ref (s.heap.objs.size + 1) :: us) I2.kIn hl) r2 hq) fun r s' hq' => ?_))
  cases r with
  | error e => exact hx pins σ _ _ e s' I2 hq'
  | ok fl =>
    cases fl with
    | ret u =>
      obtain ⟨v, H', I3, rv, ev, q3⟩ := I2.after hq'
      subst ev
      exact ⟨rv, ⟨V.ref (s.heap.objs.size + 1), H', I3, rfl, q3⟩⟩
    | next => exact False.elim hq'
    | brk => exact False.elim hq'
    | cont => exact False.elim hq'
theorem pe_make (M : Mk X.K C f) (F : FnOk X.prog X.w X.K X.mg X.base CX k f fd ps sp) (hr : Room (k + 1) X.A) (hg : Gl X x) (hm : X.mg x = some (.ref C)) (hb : Binds X.K fd ps ds) (hd : Vals dvs ds) (hx : Passes CX X E)
    (ha : PA X (e :: es) t) (hdb : (x == ("__debug__" : Str)) = false := by decide) (he : starEach (e :: es) X.env = (false, eval e X.env) :: starEach es X.env := by rfl) (hpl : (backTo pos (starEach es X.env)).any (·.1) = false := by rfl) :
    PE X (.Call (.Name x p) (e :: es) [] pos) (tMake C sp dvs E t) := by
  intro pins s σ H Q I h
  refine wpAny_Call_Name_kw (ld_glob I hg hm ?_ hdb)
  refine PySem.W.callWith_K (h₀ := X.base) I.ok.mod.kin M.kp (thn (ha pos pins s σ H _ I h) fun us s1 ⟨vs, H1, I1, r, q⟩ => ⟨I1.kIn, ?_⟩) he hpl
  exact run_make M F hr hb hd hx I1 r q
theorem pe_make0 (M : Mk X.K C f) (F : FnOk X.prog X.w X.K X.mg X.base CX k f fd ps sp) (hr : Room (k + 1) X.A) (hg : Gl X x) (hm : X.mg x = some (.ref C)) (hb : Binds X.K fd ps ds) (hd : Vals dvs ds) (hx : Passes CX X E)
    (hdb : (x == ("__debug__" : Str)) = false := by decide) : PE X (.Call (.Name x p) [] [] pos) (tMake C sp dvs E tNil) := by
  intro pins s σ H Q I h
  refine wpAny_Call_Name_kw (ld_glob I hg hm ?_ hdb)
  exact PySem.W.callWith_K0 I.kIn M.kp (run_make (us := []) M F hr hb hd hx I .nil h)
end

/-! ### keywords -/
/-- the values of the keywords, from the left -/
def PK (X : Cx) (kws : List Keyword) (t : TA) : Prop :=
  ∀ (pos : Pos) (pins : List (Addr × Obj)) (s : Shared) (σ : St) (H : Hp) (Q : List V → Hp → Prop), Inv X pins σ H s → t σ H Q → wpAny (model X.prog X.w) X.A (evalAll ((backToKw pos (keywordEach kws X.env)).map (·.2))) (AP X pins σ Q) X.xe s
section
variable {X : Cx} {CX : CXT} {k : Nat} {f C : Addr} {fd : FuncData} {ps ks : List Str} {sp : Sp} {E : XK} {x m : Str} {p pos apos kpos : Pos} {e o : Expr} {es : List Expr} {kws : List Keyword} {te ta : TE} {t tk : TA} {nm : Option Str}
theorem pk_nil : PK X [] tNil := fun _ _ _ _ H Q I h => wpAny_evalAll_nil ⟨[], H, I, .nil, h⟩
theorem pk_cons (ha : PE X e te) (hr : PK X kws t) : PK X (⟨nm, e, kpos⟩ :: kws) (tCons te t) := by
  intro pos pins s σ H Q I h
  show wpAny _ _ (evalAll ((do let v ← eval e X.env; standAt pos; pure v) :: (backToKw pos (keywordEach kws X.env)).map (·.2))) _ _ s
  refine wpAny_evalAll_cons (wpAny_bind (thn (ha pins s σ H _ I h) fun u s1 ⟨x, H1, I1, r1, q1⟩ => wpAny_bind (wpAny_standAt (wpAny_pure ?_))))
  exact thn (hr pos pins s1 σ H1 _ I1 q1) fun us s2 ⟨xs, H2, I2, r2, q2⟩ => ⟨x :: xs, H2, I2, .cons r1 r2, q2⟩

/-- how a call with keywords binds: g puts the positional values us and the keywords' values ws (names ks) in the parameters' order, defaults among them -/
structure KBinds (K : PySem.W.Frag) (fd : FuncData) (ps ks : List Str) (g : List Value → List Value → List Value) (gV : List V → List V → List V) : Prop where
  to : ∀ (s : Shared) (us ws : List Value), K.In s.heap → (g us ws).length = ps.length → BindsTo s fd ⟨us, ks.zip ws⟩ (ps.zip (g us ws))
  rel : ∀ {vs : List V} {us : List Value} {zs : List V} {ws : List Value}, Vals vs us → Vals zs ws → Vals (gV vs zs) (g us ws)
def tCallK (sp : Sp) (gV : List V → List V → List V) (E : XK) (t tk : TA) : TE := fun σ H Q => t σ H fun vs H1 => tk σ H1 fun zs H2 => sp (gV vs zs) H2 Q E
variable {g : List Value → List Value → List Value} {gV : List V → List V → List V}
theorem run_fnk {pins : List (Addr × Obj)} {σ : St} {H : Hp} {s : Shared} {Q : VK} {us ws : List Value} {vs zs : List V} (F : FnOk X.prog X.w X.K X.mg X.base CX k f fd ps sp) (hr : Room k X.A) (hb : KBinds X.K fd ps ks g gV) (hx : Passes CX X E)
    (I : Inv X pins σ H s) (r : Vals vs us) (rz : Vals zs ws) (h : sp (gV vs zs) H Q E) : wpAny (model X.prog X.w) X.A (call (.ref f) us (ks.zip ws)) (EP X pins σ Q) X.xe s := by
  have r2 := hb.rel r rz
  have hl : (g us ws).length = ps.length := by rw [← r2.length]; exact F.len _ _ _ _ h
  refine wpAny_call (codeAny_mono (F.run X.A X.stack s H ⟨us, ks.zip ws⟩ (g us ws) (gV vs zs) Q E hr I.env0 (hb.to s us ws I.kIn hl) r2 h) fun r s' hq => ?_)
  cases r with
  | error e => exact hx pins σ H s e s' I hq
  | ok fl =>
    cases fl with
    | ret u => exact I.after hq
    | next => exact False.elim hq
    | brk => exact False.elim hq
    | cont => exact False.elim hq
/-- f(e, .., k = v, ..) -/
theorem pe_callK (F : FnOk X.prog X.w X.K X.mg X.base CX k f fd ps sp) (hr : Room k X.A) (hg : Gl X x) (hm : X.mg x = some (.ref f)) (hk : PySem.W.keepIn X.K (.ref f) = true) (hb : KBinds X.K fd ps ks g gV) (hx : Passes CX X E)
    (ha : PA X (e :: es) t) (hkw : PK X kws tk) (hall : (backToKw pos (keywordEach kws X.env)).all (·.1.isSome) = true := by rfl) (hks : (backToKw pos (keywordEach kws X.env)).filterMap (·.1) = ks := by rfl)
    (hdb : (x == ("__debug__" : Str)) = false := by decide) (he : starEach (e :: es) X.env = (false, eval e X.env) :: starEach es X.env := by rfl)
    (hpl : ((backTo pos (starEach (e :: es) X.env)).any (·.1) || (backToKw pos (keywordEach kws X.env)).any (·.1.isNone)) = false := by rfl) :
    PE X (.Call (.Name x p) (e :: es) kws pos) (tCallK sp gV E t tk) := by
  intro pins s σ H Q I h
  refine wpAny_Call_Name_kw (ld_glob I hg hm ?_ hdb)
  refine PySem.W.callWith_KW (h₀ := X.base) I.ok.mod.kin hk hall (thn (ha pos pins s σ H _ I h) fun us s1 ⟨vs, H1, I1, r, q⟩ => ?_) hpl he
  refine thn (hkw pos pins s1 σ H1 _ I1 q) fun ws s2 ⟨zs, H2, I2, rz, q2⟩ => ⟨I2.kIn, ?_⟩
  rw [hks]
  exact run_fnk F hr hb hx I2 r rz q2
end

/-! ### a def's body keeps its promise -/
/-- names: the parameters first -/
structure FnScope (N P : List Str) (sc : Scope) : Prop where
  kind : sc.kind = .function
  co : sc.isCoroutine = false
  gen : sc.isGenerator = false
  nd : N.Nodup
  pre : N.take P.length = P
  par : ∀ x ∈ P, sc.names.lookup x = some .local ∨ sc.names.lookup x = some .cell
  nofree : ∀ y ∈ sc.names, y.2 ≠ .free

theorem bindL_out {kindOf : Str → Option NameKind} {x : Str} : ∀ {binds : List (Str × Value)} {m : Str → Option Value}, (∀ v, (x, v) ∉ binds) → bindL kindOf binds m x = m x
  | [], _, _ => rfl
  | (n, v) :: r, m, h => by
    unfold bindL
    rw [bindL_out fun w hw => h w (List.mem_cons_of_mem _ hw)]
    split
    · have : x ≠ n := by rintro rfl; exact h v List.mem_cons_self
      simp [this]
    · rfl
theorem bindC_out {kindOf : Str → Option NameKind} {x : Str} : ∀ {binds : List (Str × Value)} {m : Str → Option Value}, (∀ v, (x, v) ∉ binds) → bindC kindOf binds m x = m x
  | [], _, _ => rfl
  | (n, v) :: r, m, h => by
    unfold bindC
    rw [bindC_out fun w hw => h w (List.mem_cons_of_mem _ hw)]
    split
    · rfl
    · have : x ≠ n := by rintro rfl; exact h v List.mem_cons_self
      simp [this]
theorem bindL_get {kindOf : Str → Option NameKind} {x : Str} {v : Value} : ∀ {P : List Str} {vs : List Value} {i : Nat} {m : Str → Option Value}, P.Nodup → P[i]? = some x → vs[i]? = some v → kindOf x = some .local →
    bindL kindOf (P.zip vs) m x = some v
  | [], _, _, _, _, h, _, _ => by simp at h
  | _ :: _, [], _, _, _, _, h, _ => by simp at h
  | p :: P, w :: vs, 0, m, nd, h1, h2, hk => by
    simp at h1 h2; subst h1; subst h2
    show bindL kindOf ((p, w) :: P.zip vs) m p = _
    unfold bindL
    rw [bindL_out fun v hv => (List.nodup_cons.mp nd).1 (List.of_mem_zip hv).1, if_pos hk]
    simp
  | p :: P, w :: vs, i + 1, m, nd, h1, h2, hk => by
    show bindL kindOf ((p, w) :: P.zip vs) m x = _
    unfold bindL
    exact bindL_get (i := i) (List.nodup_cons.mp nd).2 (by simpa using h1) (by simpa using h2) hk
theorem bindC_get {kindOf : Str → Option NameKind} {x : Str} {v : Value} : ∀ {P : List Str} {vs : List Value} {i : Nat} {m : Str → Option Value}, P.Nodup → P[i]? = some x → vs[i]? = some v → kindOf x ≠ some .local →
    bindC kindOf (P.zip vs) m x = some v
  | [], _, _, _, _, h, _, _ => by simp at h
  | _ :: _, [], _, _, _, _, h, _ => by simp at h
  | p :: P, w :: vs, 0, m, nd, h1, h2, hk => by
    simp at h1 h2; subst h1; subst h2
    show bindC kindOf ((p, w) :: P.zip vs) m p = _
    unfold bindC
    rw [bindC_out fun v hv => (List.nodup_cons.mp nd).1 (List.of_mem_zip hv).1, if_neg hk]
    simp
  | p :: P, w :: vs, i + 1, m, nd, h1, h2, hk => by
    show bindC kindOf ((p, w) :: P.zip vs) m x = _
    unfold bindC
    exact bindC_get (i := i) (List.nodup_cons.mp nd).2 (by simpa using h1) (by simpa using h2) hk

/-- the names' values at the entry -/
def start (N : List Str) (vs : List V) : St := vs.map some ++ List.replicate (N.length - vs.length) none

/-- the context of a def's body, at its entry; an exception leaves the frame, then lies as CX says -/
def cxOf (CX : CXT) (P : Program) (w : World) (K : PySem.W.Frag) (mg : Str → Option Value) (base : Heap) (N : List Str) (qual : Str) (scope : Scope) (f : Addr) (cd : Value) (A : Around) (outer : List Env) (s : Shared) (H : Hp) (E : XK) : Cx where
  prog := P
  w := w
  K := K
  mg := mg
  base := base
  A := A.deeper (envOfC qual scope s.heap.objs.size f cd)
  N := N
  s₀ := s
  H₀ := H
  env := envOfC qual scope s.heap.objs.size f cd
  outer := outer
  stack := envOfC qual scope s.heap.objs.size f cd :: outer
  ex := []
  calm := true
  fn := fun _ => true
  pn := []
  xe := fun e s' => wpAny (model P w) (A.deeper (envOfC qual scope s.heap.objs.size f cd)) (leaving (envOfC qual scope s.heap.objs.size f cd) e) (fun _ s'' => CX outer H s E e s'') (fun e' s'' => CX outer H s E e' s'') s'

theorem cell_has {sc : Scope} {n : Nat} {x : Str} (h : sc.names.lookup x = some .cell) : ∃ c, (cellsFrom n sc.names []).lookup x = some c := by
  have q := PySem.W.cellsFrom_some sc.names n [] (.inl h)
  exact Option.isSome_iff_exists.mp q

theorem inv_start {CX : CXT} {P : Program} {w : World} {K : PySem.W.Frag} {mg : Str → Option Value} {base : Heap} {N ps : List Str} {qual : Str} {scope : Scope} {f : Addr} {cd : Value} {A : Around} {outer : List Env} {s s1 : Shared} {H : Hp} {E : XK} {us : List Value} {vs : List V}
    (S : FnScope N ps scope) (hd : A.handled = none) (e0 : Env0 P w K mg base A outer s H) (hl : vs.length = ps.length) (r : Vals vs us)
    (x : InCallC s s.heap.objs.size (bindL (envOfC qual scope s.heap.objs.size f cd).kindOf (ps.zip us) fun _ => none) (cellsFrom (s.heap.objs.size + 1) scope.names []) (bindC (envOfC qual scope s.heap.objs.size f cd).kindOf (ps.zip us) fun _ => none) s1) :
    Inv (cxOf CX P w K mg base N qual scope f cd A outer s H E) [] (start N vs) H s1 := by
  have hpl : ps.length ≤ N.length := by have := congrArg List.length S.pre; rw [List.length_take] at this; omega
  obtain ⟨h1, tk, rfl, hk⟩ := x.done
  have noA : ∀ b : Addr, b ∉ (cxOf CX P w K mg base N qual scope f cd A outer s H E).ex := fun b z => absurd (show b ∈ ([] : List Addr) from z) (by simp)
  refine ⟨⟨e0.mod, S.kind, rfl, rfl, Nat.le_refl _, fun y z c h1 h2 => ?_, fun y hy => ?_, fun y c _ h => ?_, fun _ => hd, Around.frames_deeper e0.frames, .inr ⟨rfl, rfl⟩, fun b z => absurd z (noA b), e0.bs, e0.bsz, fun b _ _ => noA b, fun b z => absurd z (noA b), e0.funs, e0.frf⟩,
    rfl, e0.bare, Un.kept hk, ⟨_, x.toInCall.ns, fun i y v h1 h2 h3 => ?_⟩, fun y c h => ⟨_, x.cell y c h⟩, e0.hok.fresh (Nat.le_refl _), fun y c h => ?_, fun p hp => absurd (show p ∈ ([] : List (Addr × Obj)) from hp) (by simp), e0.hok.kept hk, ?_⟩
  · exact name_of_addr x.apart (PySem.mem_of_lookup h1) (PySem.mem_of_lookup h2)
  · have hy : scope.names.lookup y = some .cell ∨ scope.names.lookup y = some .free := hy
    rcases hy with hy | hy
    · exact cell_has hy
    · exact absurd rfl (S.nofree _ (PySem.mem_of_lookup hy))
  · exact Nat.le_of_lt (x.above y c (PySem.mem_of_lookup h))
  · have hi : i < vs.length := by
      unfold start at h2
      by_cases hi : i < vs.length
      · exact hi
      · rw [List.getElem?_append_right (by simpa using hi)] at h2
        rw [List.getElem?_replicate] at h2
        split at h2 <;> cases h2
    have ha : vs[i]? = some v := by
      unfold start at h2
      rw [List.getElem?_append_left (by simpa using hi), List.getElem?_map] at h2
      cases e : vs[i]? with
      | none => rw [e] at h2; cases h2
      | some a => rw [e] at h2; cases h2; rfl
    obtain ⟨u, hu, rv⟩ := r.get ha
    have hp : ps[i]? = some y := by
      rw [← S.pre, List.getElem?_take_of_lt (by omega)]; exact h1
    have ndP : ps.Nodup := by rw [← S.pre]; exact S.nd.sublist (List.take_sublist _ _)
    refine ⟨u, rv, ?_⟩
    rcases S.par y (List.mem_of_getElem? hp) with k | k
    · exact .inl ⟨k, bindL_get ndP hp hu k⟩
    · obtain ⟨c, e⟩ := cell_has (n := s.heap.objs.size + 1) k
      refine .inr ⟨.inl k, c, e, ?_⟩
      have q := x.cell y c e
      rw [bindC_get ndP hp hu (by show scope.names.lookup y ≠ _; rw [k]; decide)] at q
      exact q
  · exact e0.hok.fresh (Nat.le_of_lt (x.above y c (PySem.mem_of_lookup h)))
  · unfold start
    show _ = N.length
    rw [List.length_append, List.length_map, List.length_replicate]
    omega

/-- THE RULE: a def (or a method) of the text, by its body. The body's reading t is chosen for each entry; it is run at the parameters' values -/
theorem fn_of {CX : CXT} {P : Program} {w : World} {K : PySem.W.Frag} {mg : Str → Option Value} {base : Heap} {k : Nat} {f : Addr} {name qual : Str} {params : Arguments} {body : List Stmt} {scope : Scope} {dV kV doc pm cdv ct oc : Value} {an od : Option Addr}
    {osl : Array (Option Value)} {N ps : List Str} {sp : Sp} (lk : K.lookup f = some ⟨oc, od, .func (PySem.W.fnOf name qual params body scope dV kV doc pm an cdv ct), osl⟩) (hcd : PySem.W.codeIn K cdv qual = true) (S : FnScope N ps scope)
    (len : ∀ vs H Q E, sp vs H Q E → vs.length = ps.length)
    (hbody : ∀ (A : Around) (outer : List Env) (s : Shared) (H : Hp) (vs : List V) (Q : VK) (E : XK), Room k (A.deeper (envOfC qual scope s.heap.objs.size f cdv)) → sp vs H Q E →
      ∃ t, PSs (cxOf CX P w K mg base N qual scope f cdv A outer s H E) body t ∧ t { nx := fun _ H' => Q .non H', rt := Q } (start N vs) H) :
    FnOk P w K mg base CX (k + 1) f (PySem.W.fnOf name qual params body scope dV kV doc pm an cdv ct) ps sp := by
  refine ⟨len, fun A outer s H args us vs Q E hr e0 hb r hsp => ?_⟩
  have hl := len _ _ _ _ hsp
  have KX : K.In s.heap := e0.mod.kin.keeps fun b o e => (e0.bs b o e).1
  have lim : s.heap.NoLimit := e0.mod.nolimit.keeps fun b o e => (e0.bs b o e).1
  have hkind : ∀ y ∈ ps.zip us, scope.names.lookup y.1 = some .local ∨ (scope.names.lookup y.1 = some .cell ∧ ((cellsFrom (s.heap.objs.size + 1) scope.names []).lookup y.1).isSome = true) := fun ⟨n, v⟩ hy => by
    rcases S.par n (List.of_mem_zip hy).1 with q | q
    · exact .inl q
    · exact .inr ⟨q, PySem.W.cellsFrom_some _ _ _ (.inl q)⟩
  refine codeAny_call_function hr.depth (KX _ _ lk) rfl S.co S.gen rfl (PySem.W.codeRec_of KX hcd) (hb _ _ _ _ ?_)
  refine wpAny_newFunctionEnv_cells S.kind hkind fun env he s1 x => ?_
  subst he
  refine ⟨lim.keeps x.toInCall.keep, codeAny_func ?_⟩
  obtain ⟨t, ht, hq⟩ := hbody A outer s H vs Q E (hr.deeper _) hsp
  have I : Inv (cxOf CX P w K mg base N qual scope f cdv A outer s H E) [] (start N vs) H s1 := inv_start S hr.hd e0 hl r x
  refine wpAny_mono (ht [] s1 (start N vs) H _ I hq) (fun fl s' hs => ?_) fun e s' hs => hs
  have fin : ∀ {σ' : St} {H' : Hp} {v : V} {u : Value}, Inv (cxOf CX P w K mg base N qual scope f cdv A outer s H E) [] σ' H' s' → RelV v u → Q v H' → CE outer P w H s Q u s' :=
    fun {σ' H' v u} J rv q => ⟨v, H', J.os, J.bare, J.base, J.hok, rv, q⟩
  cases fl with
  | ret u =>
    obtain ⟨v, σ', H', J, rv, q⟩ := hs
    exact fin J rv q
  | next =>
    obtain ⟨σ', H', J, q⟩ := hs
    exact fin (v := V.non) (u := Value.none) J rfl q
  | brk =>
    obtain ⟨_, _, _, q⟩ := hs
    exact False.elim q
  | cont =>
    obtain ⟨_, _, _, q⟩ := hs
    exact False.elim q
end L2

namespace L2
open PySem PySem.Spec PyProof.Rows
section
variable {X : Cx} {x : Str} {p pos : Pos} {e : Expr} {es : List Expr} {t : TA} {id T : String} {r : List V → Hp → VK → Prop}

def tCB (r : List V → Hp → VK → Prop) (t : TA) : TE := fun σ H Q => t σ H fun vs H1 => r vs H1 Q
/-- f(e, ..), f a built-in function -/
theorem pe_callB (hc : CallR X (.builtin id) r) (hg : Gl X x) (hm : X.mg x = none) (hv : bootBuiltins x = some (.builtin id)) (ha : PA X (e :: es) t) (hn : x ≠ "__name__" := by decide) (hdb : (x == ("__debug__" : Str)) = false := by decide)
    (he : starEach (e :: es) X.env = (false, eval e X.env) :: starEach es X.env := by rfl) (hpl : (backTo pos (starEach es X.env)).any (·.1) = false := by rfl) : PE X (.Call (.Name x p) (e :: es) [] pos) (tCB r t) := by
  intro pins s σ H Q I h
  refine wpAny_Call_Name_kw (ld_blt I hg hm hv ?_ hn hdb)
  exact PyProof.Rows.callWith_builtin1 (thn (ha pos pins s σ H _ I h) fun us s1 ⟨vs, H1, I1, r1, q1⟩ => hc pins s1 σ H1 vs us Q I1 r1 q1) he hpl
/-- T(e, ..), T a built-in type -/
theorem pe_callTy (hc : CallR X (.type T) r) (hg : Gl X x) (hm : X.mg x = none) (hv : bootBuiltins x = some (.type T)) (ha : PA X (e :: es) t) (hn : x ≠ "__name__" := by decide) (hdb : (x == ("__debug__" : Str)) = false := by decide)
    (he : starEach (e :: es) X.env = (false, eval e X.env) :: starEach es X.env := by rfl) (hpl : (backTo pos (starEach es X.env)).any (·.1) = false := by rfl) : PE X (.Call (.Name x p) (e :: es) [] pos) (tCB r t) := by
  intro pins s σ H Q I h
  refine wpAny_Call_Name_kw (ld_blt I hg hm hv ?_ hn hdb)
  exact PyProof.Rows.callWith_type1 (thn (ha pos pins s σ H _ I h) fun us s1 ⟨vs, H1, I1, r1, q1⟩ => hc pins s1 σ H1 vs us Q I1 r1 q1) he hpl
/-- T() -/
theorem pe_callTy0 (hc : CallR X (.type T) r) (hg : Gl X x) (hm : X.mg x = none) (hv : bootBuiltins x = some (.type T)) (hn : x ≠ "__name__" := by decide) (hdb : (x == ("__debug__" : Str)) = false := by decide) :
    PE X (.Call (.Name x p) [] [] pos) (tCB r tNil) := by
  intro pins s σ H Q I h
  refine wpAny_Call_Name_kw (ld_blt I hg hm hv ?_ hn hdb)
  exact PyProof.Rows.callWith_type0 (hc pins s σ H [] [] Q I .nil h)
end
end L2

namespace HT
open PySem PyProof.Rows

/-- t < u of tuples of ints -/
def lexLt : List Int → List Int → Bool
  | [], [] => false
  | [], _ :: _ => true
  | _ :: _, [] => false
  | x :: xs, y :: ys => if x = y then lexLt xs ys else decide (x < y)
theorem lexLt_cons (x y : Int) (xs ys : List Int) : lexLt (x :: xs) (y :: ys) = if x = y then lexLt xs ys else decide (x < y) := rfl
theorem lexLt_nil_nil : lexLt [] [] = false := rfl
theorem lexLt_nil_cons (y : Int) (ys : List Int) : lexLt [] (y :: ys) = true := rfl
theorem lexLt_cons_nil (x : Int) (xs : List Int) : lexLt (x :: xs) [] = false := rfl

theorem eqAt_int (A : Around) (s : Shared) (a : Int) (t : Tok) (c : Int) (u : Tok) : ∃ e, SeqAt.EqAt A s (.int a t) (.int c u) e ∧ (e = true ↔ a = c) :=
  ⟨(a == c), SeqAt.EqAt.int_int a t c u, by simp⟩
theorem rcLt_int (A : Around) (s : Shared) (a : Int) (t : Tok) (c : Int) (u : Tok) (prog : Program) (w : World) (E : Value → Shared → Prop) (Q : Value → Shared → Prop) (h : Q (.bool (decide (a < c))) s) :
    wpAny (model prog w) A (richCompare .Lt (.int a t) (.int c u)) Q E s :=
  (PyProof.Rows.lt_int h : wpAny (model prog w) A (compareOp .Lt (.int a t) (.int c u)) Q E s)

section
open PySem.SeqAt
open PySem.AutoSeq1 (wpAny_loadPart')
open PySem.MeetsSeq PySem.MeetsSeq2 PySem.MeetsSeq3

theorem tuple_lt_ints (l b : Addr) (items items2 : Array Value) (n n2 : Nat) (dd dd2 : Option Addr) (sl sl2 : Array (Option Value)) (ns ms : List Int) (hi : IntsAre items.toList ns) (hj : IntsAre items2.toList ms) :
    Meets (Builtin.«tuple.__lt__» ⟨[.ref l, .ref b], []⟩)
      (fun _ R s => s.heap.get? l = some { cls := .type "tuple", dict := dd, data := .seq items n, slots := sl } ∧ s.heap.get? b = some { cls := .type "tuple", dict := dd2, data := .seq items2 n2, slots := sl2 } ∧
        R (.ok (.ret (.bool (lexLt ns ms)))) s) :=
  .of_wp fun prog w A R s h => by
    obtain ⟨hp, g, d, tk, os⟩ := s; obtain ⟨hl, hb, h⟩ := h
    have f2 := AutoSeq1.sub_tuple_tuple
    have z1 : items.size = ns.length := by rw [← hi.length]; simp
    have z2 : items2.size = ms.length := by rw [← hj.length]; simp
    wp_walk using wpAny_loadPart' hl, wpAny_loadPart' hb, wpAny_forIn_list _ (fun rest b s' => b.1 = none ∧ s' = ⟨hp, g, d, tk, os⟩ ∧ ∃ (vs ws : List Value) (ns' ms' : List Int), rest = vs.zip ws ∧
      IntsAre vs ns' ∧ IntsAre ws ms' ∧ ns'.length + items2.size = ms'.length + items.size ∧ R (.ok (.ret (.bool (lexLt ns' ms')))) ⟨hp, g, d, tk, os⟩) _
    case turn =>
      rintro ⟨y, x⟩ rest b s' ⟨hb', rfl, vs, ws, ns', ms', hz, hvi, hwi, hlen, hR⟩
      cases hvi with
      | nil => rw [List.zip_nil_left] at hz; cases hz
      | cons a t hvi' =>
        cases hwi with
        | nil => rw [List.zip_nil_right] at hz; cases hz
        | cons c u hwi' =>
          rw [List.zip_cons_cons] at hz
          injection hz with hyx hrest
          injection hyx with hy hx
          subst hy hx
          rw [lexLt_cons] at hR
          simp only [List.length_cons] at hlen
          obtain ⟨e, he, hiff⟩ := eqAt_int A.in1 ⟨hp, g, d, tk, os⟩ a t c u
          refine wpAny_bind (he prog w _ _ ?_)
          cases e with
          | true =>
            rw [if_pos (hiff.mp rfl)] at hR
            wp_walk
            exact ⟨rfl, rfl, _, _, _, _, hrest, hvi', hwi', by omega, hR⟩
          | false =>
            rw [if_neg (fun q => absurd (hiff.mpr q) Bool.false_ne_true)] at hR
            have hri := rcLt_int A.in1 ⟨hp, g, d, tk, os⟩ a t c u prog w
            wp_walk using hri
            exact ⟨_, rfl, by simpa using hR⟩
    case fin =>
      rintro ⟨b1, b2⟩ s' ⟨hb', rfl, vs, ws, ns', ms', hz, hvi, hwi, hlen, hR⟩
      simp only at hb'
      subst hb'
      have hv : lexLt ns' ms' = decide (items.size < items2.size) := by
        cases hvi with
        | nil =>
          cases hwi with
          | nil =>
            simp only [List.length_nil] at hlen
            rw [lexLt_nil_nil]
            exact (decide_eq_false (by omega)).symm
          | cons c u hw =>
            simp only [List.length_nil, List.length_cons] at hlen
            rw [lexLt_nil_cons]
            exact (decide_eq_true (by omega)).symm
        | cons a t hv =>
          cases hwi with
          | nil =>
            simp only [List.length_nil, List.length_cons] at hlen
            rw [lexLt_cons_nil]
            exact (decide_eq_false (by omega)).symm
          | cons c u hw =>
            rw [List.zip_cons_cons] at hz
            cases hz
      rw [hv] at hR
      wp_walk
      exact ⟨_, rfl, by simpa [Builtin.Tuple.tupleCompareSizes] using hR⟩
    case h =>
      exact ⟨rfl, rfl, items.toList, items2.toList, ns, ms, rfl, hi, hj, by omega, h⟩
end

section
variable {prog : Program} {w : World} {A : Around} {E : Value → Shared → Prop} {s : Shared}

theorem lt_tupInts {l b : Addr} {items items2 : Array Value} {ns ms : List Int} {Q : Value → Shared → Prop} (hl : IsTup s.heap l items) (hb : IsTup s.heap b items2) (hi : IntsAre items.toList ns) (hj : IntsAre items2.toList ms)
    (hu : A.units < cLine) (h : Q (.bool (lexLt ns ms)) s) : wpAny (model prog w) A (compareOp .Lt (.ref l) (.ref b)) Q E s := by
  obtain ⟨⟨cls, dd, data, sl⟩, ho, hc, n, hd⟩ := id hl
  obtain ⟨⟨cls2, dd2, data2, sl2⟩, ho2, hc2, n2, hd2⟩ := id hb
  simp only at hc hd hc2 hd2
  subst hc hd hc2 hd2
  exact richCompare_meets_room (op := .Lt) ⟨_, ho, rfl⟩ ⟨_, ho2, rfl⟩ PySem.F.slot_tuple_lt PySem.F.entry_tuple_lt (PySem.F.args_tuple_lt_2 _ _) (tuple_lt_ints l b items items2 n n2 dd dd2 sl sl2 ns ms hi hj)
    ⟨ho, ho2, show Value.bool (lexLt ns ms) ≠ Value.notImplemented ∧ Q (.bool (lexLt ns ms)) s from ⟨(fun x => nomatch x), h⟩⟩ hu

/-- t + u, t not empty -/
theorem cat_tup {t b : Addr} {vs ws : List Value} {Q : Value → Shared → Prop} (ht : IsTup s.heap t vs.toArray) (hb : IsTup s.heap b ws.toArray) (hv : vs ≠ [])
    (h1 : ws = [] → Q (.ref t) s) (h2 : ws ≠ [] → Q (.ref s.heap.objs.size) { s with heap := s.heap.push { cls := .type "tuple", data := .seq (vs ++ ws).toArray } })
    (hsz : vs.length + ws.length ≤ sizeLine) : wpAny (model prog w) A (binaryOp .Add (.ref t) (.ref b)) Q E s := by
  obtain ⟨⟨cls, dd, data, sl⟩, ho, hc, n, hd⟩ := id ht
  obtain ⟨⟨cls2, dd2, data2, sl2⟩, ho2, hc2, n2, hd2⟩ := id hb
  simp only at hc hd hc2 hd2
  subst hc hd hc2 hd2
  have e : vs.toArray ++ ws.toArray = (vs ++ ws).toArray := by simp
  by_cases hw : ws = []
  · exact concat_meets ⟨_, ho, rfl⟩ ⟨_, ho2, rfl⟩ noFill_tuple_add seq_tuple_add PySem.F.slot_tuple_add PySem.F.entry_tuple_add (PySem.F.args_tuple_add_2 _ _)
      (tuple_addW1 t b vs.toArray ws.toArray n n2 dd dd2 sl sl2 (by simpa using hv) (by simp [hw])) ⟨ho, ho2, h1 hw⟩
  · refine concat_meets ⟨_, ho, rfl⟩ ⟨_, ho2, rfl⟩ noFill_tuple_add seq_tuple_add PySem.F.slot_tuple_add PySem.F.entry_tuple_add (PySem.F.args_tuple_add_2 _ _)
      (tuple_addW2 t b vs.toArray ws.toArray n n2 dd dd2 sl sl2 (by simpa using hv) (by simpa using hw) (by rw [List.size_toArray, List.size_toArray]; exact hsz)) ⟨ho, ho2, ?_⟩
    rw [e]
    exact h2 hw

/-! ### t[a:b], not the whole -/
/-- a slice's bound as a place among n (d where it is left out) -/
def sIx (n d : Nat) : Option Int → Nat
  | none => d
  | some v => if v < 0 then (v + (n : Int)).toNat else min v.toNat n
theorem sIx_none (n d : Nat) : sIx n d none = d := rfl
theorem sIx_nat (n d k : Nat) : sIx n d (some (k : Int)) = min k n := by
  show (if (k : Int) < 0 then ((k : Int) + (n : Int)).toNat else min (k : Int).toNat n) = min k n
  rw [if_neg (by omega), Int.toNat_natCast]
theorem sIx_le (n d : Nat) (hd : d ≤ n) (o : Option Int) : sIx n d o ≤ n := by
  cases o with
  | none => exact hd
  | some v =>
    show (if v < 0 then (v + (n : Int)).toNat else min v.toNat n) ≤ n
    by_cases hv : v < 0
    · rw [if_pos hv]; omega
    · rw [if_neg hv]; exact Nat.min_le_right _ _
theorem clip_eq (v : Int) (n d : Nat) : (if v < 0 then max (v + (n : Int)) 0 else min v (n : Int)) = ((sIx n d (some v) : Nat) : Int) := by
  show (if v < 0 then max (v + (n : Int)) 0 else min v (n : Int)) = (((if v < 0 then (v + (n : Int)).toNat else min v.toNat n) : Nat) : Int)
  by_cases hv : v < 0
  · simp only [if_pos hv]; omega
  · simp only [if_neg hv]; omega
theorem adjust_gen (lo hi : Option Int) (n : Nat) : Builtin.Slice.sliceAdjust lo hi 1 (n : Int) = (((sIx n 0 lo : Nat) : Int), ((sIx n n hi : Nat) : Int)) := by
  have h1 : ¬ ((1 : Int) < 0) := by omega
  unfold Builtin.Slice.sliceAdjust
  simp only [h1, if_false]
  refine Prod.ext ?_ ?_
  · cases lo with
    | none => rfl
    | some v => exact clip_eq v n 0
  · cases hi with
    | none => rfl
    | some v => exact clip_eq v n n
theorem places_gen (i j : Nat) : Builtin.Slice.slicePlaces (i : Int) (j : Int) 1 = j - i := by
  unfold Builtin.Slice.slicePlaces
  have h1 : (1 : Int) > 0 := by omega
  simp only [h1, if_true, Int.ediv_one]
  split <;> omega
theorem slicePart_ {v : Value} {o : Option Int} {Q : Option Int → Shared → Prop} (p : IsPart v o) (h : Q o s) : wpAny (model prog w) A (Builtin.Slice.slicePartIndex v) Q E s := by
  cases p with
  | none => exact slicePart_none h
  | int i t => exact slicePart_int h
theorem sliceApplied_gen {sl : Addr} {vl vu : Value} {lo hi : Option Int} {n : Nat} {Q : Int × Int × Nat → Shared → Prop} (hs : s.heap.IsSliceOf sl vl vu .none) (pl : IsPart vl lo) (pu : IsPart vu hi)
    (h : Q (((sIx n 0 lo : Nat) : Int), 1, sIx n n hi - sIx n 0 lo) s) : wpAny (model prog w) A (Builtin.Slice.sliceApplied (.ref sl) (pure (n : Int))) Q E s := by
  obtain ⟨os, hos, hcs, hds⟩ := id hs
  unfold Builtin.Slice.sliceApplied Builtin.Slice.sliceFields
  refine wpAny_bind (wpAny_bind (wpAny_field hos hds (x := vl) rfl (wpAny_bind (wpAny_field hos hds (x := vu) rfl (wpAny_bind (wpAny_field hos hds (x := .none) rfl (wpAny_pure ?_)))))))
  refine wpAny_bind (slicePart_none ?_)
  show wpAny _ _ (if ((1 : Int) == 0) = true then _ else _) _ _ s
  rw [if_neg (by decide)]
  refine wpAny_bind (slicePart_ pl (wpAny_bind (slicePart_ pu (wpAny_bind (wpAny_pure ?_)))))
  show wpAny _ _ (match Builtin.Slice.sliceAdjust lo hi 1 (n : Int) with | (lo, hi) => pure (lo, (1 : Int), Builtin.Slice.slicePlaces lo hi 1)) _ _ s
  rw [adjust_gen lo hi n]
  show wpAny _ _ (pure (((sIx n 0 lo : Nat) : Int), (1 : Int), Builtin.Slice.slicePlaces ((sIx n 0 lo : Nat) : Int) ((sIx n n hi : Nat) : Int) 1)) _ _ s
  rw [places_gen]
  exact wpAny_pure h
theorem pick_gen (xs : Array Value) (i k : Nat) : ((List.range k).filterMap fun (m : Nat) => xs[((i : Int) + (m : Int) * 1).toNat]?).toArray = ((xs.toList.drop i).take k).toArray := by
  have e : (fun (m : Nat) => xs[((i : Int) + (m : Int) * 1).toNat]?) = fun m => xs[i + m]? := by
    funext m
    have : ((i : Int) + (m : Int) * 1).toNat = i + m := by omega
    rw [this]
  rw [e]
  have := pick_run xs i k
  rw [List.filterMap_map] at this
  have e2 : ((fun x => xs[x]?) ∘ fun x => i + x) = fun m => xs[i + m]? := rfl
  rw [e2] at this
  rw [this]

theorem getItem_tuple_cut {t sl : Addr} {items : Array Value} {vl vu : Value} {lo hi : Option Int} {Q : Value → Shared → Prop} (ht : IsTup s.heap t items) (hs : s.heap.IsSliceOf sl vl vu .none) (pl : IsPart vl lo) (pu : IsPart vu hi)
    (hw : ¬ (sIx items.size 0 lo = 0 ∧ sIx items.size items.size hi = items.size))
    (h : Q (.ref s.heap.objs.size) { s with heap := s.heap.push { cls := .type "tuple", data := .seq ((items.toList.drop (sIx items.size 0 lo)).take (sIx items.size items.size hi - sIx items.size 0 lo)).toArray } })
    (hsz : items.size ≤ sizeLine) : wpAny (model prog w) A (getItem (.ref t) (.ref sl)) Q E s := by
  have htake : sizeOk (.seq ((items.toList.drop (sIx items.size 0 lo)).take (sIx items.size items.size hi - sIx items.size 0 lo)).toArray) := by
    show ((items.toList.drop (sIx items.size 0 lo)).take (sIx items.size items.size hi - sIx items.size 0 lo)).toArray.size ≤ sizeLine
    rw [List.size_toArray, List.length_take, List.length_drop, Array.length_toList]
    omega
  have hj : sIx items.size items.size hi ≤ items.size := sIx_le _ _ (Nat.le_refl _) hi
  obtain ⟨os, hos, hcs, hds⟩ := id hs
  have hTs : s.TypeIs (.ref sl) "slice" := ⟨os, hos, hcs⟩
  unfold getItem
  try with_reducible refine wpAny_holding ?_
  first | refine wpAny_bind (wpAny_pure ?_) | skip
  refine wpAny_bind (wpAny_sequenceKey ht.typeIs (by decide) ?_)
  refine wpAny_bind (wpAny_callSpecial?_slot (name := Str.ofString "__getitem__") ht.typeIs PyProof.Rows.slot_tuple_getitem
    (wpAny_call_entry PyProof.Rows.slot_tuple_getitem ht.typeIs entry_tuple_getitem ?_ (args_tuple_getitem _ _)))
  show wpAny _ _ (Builtin.Tuple.tupleItemsOf (.ref t) >>= _) _ _ s
  refine wpAny_bind (tupleItemsOf_ ht ?_)
  refine wpAny_bind (wpAny_typeOf hTs ?_)
  rw [if_pos (by decide)]
  refine wpAny_bind (sliceApplied_gen hs pl pu ?_)
  have hno : ¬ ((((sIx items.size 0 lo : Nat) : Int) == 0 && (1 : Int) == 1 && (sIx items.size items.size hi - sIx items.size 0 lo) == items.size) = true) := by
    intro q
    rw [Bool.and_eq_true, Bool.and_eq_true] at q
    have q1 : ((sIx items.size 0 lo : Nat) : Int) = 0 := eq_of_beq q.1.1
    have q2 : sIx items.size items.size hi - sIx items.size 0 lo = items.size := eq_of_beq q.2
    exact hw ⟨by omega, by omega⟩
  show wpAny _ _ (if (((sIx items.size 0 lo : Nat) : Int) == 0 && (1 : Int) == 1 && (sIx items.size items.size hi - sIx items.size 0 lo) == items.size) = true then _ else _) _ _ s
  rw [if_neg hno, pick_gen]
  first
    | exact wpAny_bind (m := Builtin.Tuple.tupleExact _) (wpAny_newObj_type (wpAny_pure ⟨_, rfl, wpAny_pure h⟩) htake)
    | exact wpAny_bind (m := Builtin.Tuple.tupleExact _) (wpAny_newObj_type (wpAny_bind (wpAny_pure (wpAny_pure ⟨_, rfl, wpAny_pure h⟩))) htake)
    | exact wpAny_bind (wpAny_bind (m := Builtin.Tuple.tupleExact _) (wpAny_newObj_type (wpAny_pure (wpAny_pure ⟨_, rfl, wpAny_pure h⟩)) htake))
    | exact wpAny_bind (wpAny_bind (m := Builtin.Tuple.tupleExact _) (wpAny_newObj_type (wpAny_pure ⟨_, rfl, wpAny_pure h⟩) htake))
end
end HT

namespace L2
open PySem PySem.Spec PyProof.Rows

/-! ### the parts of a slice -/
abbrev TO := St → Hp → (Option Int → Hp → Prop) → Prop
/-- a slice's part (left out, or an int) -/
def PO (X : Cx) (e : Option Expr) (t : TO) : Prop :=
  ∀ (pins : List (Addr × Obj)) (s : Shared) (σ : St) (H : Hp) (Q : Option Int → Hp → Prop), Inv X pins σ H s → t σ H Q →
    wpAny (model X.prog X.w) X.A (evalPart e X.env) (fun u s' => ∃ o H', Inv X pins σ H' s' ∧ IsPart u o ∧ Q o H') X.xe s
def tNoPart : TO := fun _ H Q => Q none H
def tPart (t : TE) : TO := fun σ H Q => t σ H fun x H1 => ∃ i, x = .int i ∧ Q (some i) H1

theorem intsAre_of {ns : List Int} : ∀ {us : List Value}, Vals (ns.map V.int) us → IntsAre us ns := by
  induction ns with
  | nil => intro us r; rw [List.map_nil] at r; cases r; exact .nil
  | cons n ns ih =>
    intro us r
    rw [List.map_cons] at r
    cases r with
    | cons r1 r2 =>
      obtain ⟨t, e⟩ := r1
      subst e
      exact .cons n t (ih r2)

section
variable {X : Cx} {e : Expr} {te : TE} {lo hi : Option Expr} {tl th : TO} {pos p2 : Pos}

theorem po_none : PO X none tNoPart := by
  intro pins s σ H Q I h
  rw [evalPart_none]
  exact wpAny_pure ⟨none, H, I, .none, h⟩
theorem po_some (h : PE X e te) : PO X (some e) (tPart te) := by
  intro pins s σ H Q I hw
  rw [evalPart_some]
  refine thn (h pins s σ H _ I hw) fun u s1 ⟨x, H1, I1, r1, q1⟩ => ?_
  obtain ⟨i, rfl, q⟩ := q1
  obtain ⟨t, rfl⟩ := r1
  exact ⟨some i, H1, I1, .int i t, q⟩

/-- what a slice of a value is, by values: the slice object stands at sl -/
def SlR (X : Cx) (r : V → Option Int → Option Int → Hp → VK → Prop) : Prop :=
  ∀ (pins : List (Addr × Obj)) (s : Shared) (σ : St) (H : Hp) (x : V) (v vl vu : Value) (lo hi : Option Int) (sl : Addr) (Q : VK), Inv X pins σ H s → RelV x v → s.heap.IsSliceOf sl vl vu .none → IsPart vl lo → IsPart vu hi → r x lo hi H Q →
    ∃ T id, typeLookup (.type T) "__getitem__" = pure (some (.builtin id)) ∧ s.TypeIs v T ∧ wpAny (model X.prog X.w) X.A (getItem v (.ref sl)) (EP X pins σ Q) X.xe s
theorem SlR.or {r r' : V → Option Int → Option Int → Hp → VK → Prop} (h : SlR X r) (h' : SlR X r') : SlR X (fun x lo hi H Q => r x lo hi H Q ∨ r' x lo hi H Q) := by
  intro pins s σ H x v vl vu lo hi sl Q I rx hs pl pu q
  rcases q with q | q
  · exact h pins s σ H x v vl vu lo hi sl Q I rx hs pl pu q
  · exact h' pins s σ H x v vl vu lo hi sl Q I rx hs pl pu q
def tSl (r : V → Option Int → Option Int → Hp → VK → Prop) (te : TE) (tl th : TO) : TE := fun σ H Q => te σ H fun x H1 => tl σ H1 fun l H2 => th σ H2 fun u H3 => r x l u H3 Q
/-- a[lo:hi], any a -/
theorem pe_slice {r : V → Option Int → Option Int → Hp → VK → Prop} (hr : SlR X r) (he : PE X e te) (hl : PO X lo tl) (hu : PO X hi th) : PE X (.Subscript e (.Slice lo hi none p2) pos) (tSl r te tl th) := by
  intro pins s σ H Q I h
  refine Subscript_ (thn (he pins s σ H _ I h) fun v s1 ⟨x, H1, I1, r1, q1⟩ => ?_)
  refine wpAny_Slice (thn (hl pins s1 σ H1 _ I1 q1) fun vl s2 ⟨l, H2, I2, pl, q2⟩ => thn (hu pins s2 σ H2 _ I2 q2) fun vu s3 ⟨u, H3, I3, pu, q3⟩ => ?_)
  rw [evalPart_none]
  refine wpAny_pure ?_
  have I4 : Inv X pins σ H3 { s3 with heap := s3.heap.push { cls := .type "slice", data := .fields #[vl, vu, .none] } } := I3.kept (t' := s3.toks) fun b ob q => Heap.get?_push_of_some _ q
  obtain ⟨T, id, hT, ht, hg⟩ := hr pins { s3 with heap := s3.heap.push { cls := .type "slice", data := .fields #[vl, vu, .none] } } σ H3 x v vl vu l u s3.heap.objs.size Q I4 r1 (Heap.IsSliceOf.new ..) pl pu q3
  show wpAny (model X.prog X.w) X.A (subscriptTail e (.Slice lo hi none p2) v (.ref s3.heap.objs.size)) (EP X pins σ Q) X.xe { s3 with heap := s3.heap.push { cls := .type "slice", data := .fields #[vl, vu, .none] } }
  exact tail_any (ops := [.ref s3.heap.objs.size, v]) ht hT hg (by with_unfolding_all rfl)

/-- the items of xs[lo:hi] -/
def cutV (xs : List V) (lo hi : Option Int) : List V := (xs.drop (HT.sIx xs.length 0 lo)).take (HT.sIx xs.length xs.length hi - HT.sIx xs.length 0 lo)
theorem cutV_length (xs : List V) (lo hi : Option Int) : (cutV xs lo hi).length ≤ xs.length := by
  unfold cutV
  rw [List.length_take, List.length_drop]
  omega
/-- t[lo:hi], not the whole of it (the whole would be t itself) -/
def rSlT (K : PySem.W.Frag) : V → Option Int → Option Int → Hp → VK → Prop := fun x lo hi H Q => ∃ a xs, x = .ref a ∧ SqT K H a xs ∧
  ¬ (HT.sIx xs.length 0 lo = 0 ∧ HT.sIx xs.length xs.length hi = xs.length) ∧ ∀ p, H p = none → Q (.ref p) (upd H p (.tup (cutV xs lo hi)))
theorem sl_tup : SlR X (rSlT X.K) := by
  intro pins s σ H x v vl vu lo hi sl Q I rx hs pl pu h
  obtain ⟨a, xs, rfl, hx, hw, q⟩ := h
  cases rx
  obtain ⟨its, r, ht, hz⟩ := I.tuple hx
  have hlen : its.toArray.size = xs.length := by rw [List.size_toArray]; exact r.length.symm
  refine ⟨"tuple", _, PyProof.Rows.slot_tuple_getitem.lookup, ht.typeIs, ?_⟩
  refine HT.getItem_tuple_cut ht hs pl pu (by rw [hlen]; exact hw) ?_ (by rw [hlen]; exact hz)
  rw [hlen]
  refine ⟨.ref s.heap.objs.size, _, I.laid (t' := s.toks) (o := .tup (cutV xs lo hi)) (fun b ob q => Heap.get?_push_of_some _ q) (Nat.le_refl _) ?_, rfl, q _ (I.hok.fresh (Nat.le_refl _))⟩
  exact ⟨Nat.le_trans (cutV_length xs lo hi) hz, _, (r.drop (HT.sIx xs.length 0 lo)).take (HT.sIx xs.length xs.length hi - HT.sIx xs.length 0 lo), IsTup.new _ _⟩

/-! ### t < u, t + u -/
def rLtT (K : PySem.W.Frag) : R2 := fun x y H Q => ∃ a b ns ms, x = .ref a ∧ y = .ref b ∧ SqT K H a (ns.map V.int) ∧ SqT K H b (ms.map V.int) ∧ Q (.bl (HT.lexLt ns ms)) H
theorem op_ltT (hu : X.A.units < cLine) : OpR X (compareOp .Lt) (rLtT X.K) := by
  intro pins s σ H x y v u Q I rx ry h
  obtain ⟨a, b, ns, ms, rfl, rfl, ha, hb, q⟩ := h
  cases rx
  cases ry
  obtain ⟨its, r1, p1, _⟩ := I.tuple ha
  obtain ⟨its2, r2, p2, _⟩ := I.tuple hb
  have i1 : IntsAre its.toArray.toList ns := intsAre_of r1
  have i2 : IntsAre its2.toArray.toList ms := intsAre_of r2
  exact HT.lt_tupInts p1 p2 i1 i2 hu ⟨.bl (HT.lexLt ns ms), H, I, rfl, q⟩
/-- t + u, t not empty: u empty gives t itself -/
def rCatT (K : PySem.W.Frag) : R2 := fun x y H Q => ∃ a b xs ys, x = .ref a ∧ y = .ref b ∧ SqT K H a xs ∧ SqT K H b ys ∧ xs ≠ [] ∧ xs.length + ys.length ≤ sizeLine ∧
  (ys = [] → Q (.ref a) H) ∧ (ys ≠ [] → ∀ p, H p = none → Q (.ref p) (upd H p (.tup (xs ++ ys))))
theorem Vals.nil_iff {xs : List V} {us : List Value} (r : Vals xs us) : us = [] ↔ xs = [] := by
  cases r with
  | nil => simp
  | cons _ _ => simp
theorem op_catT : OpR X (binaryOp .Add) (rCatT X.K) := by
  intro pins s σ H x y v u Q I rx ry h
  obtain ⟨a, b, xs, ys, rfl, rfl, ha, hb, hx, hz, q1, q2⟩ := h
  cases rx
  cases ry
  obtain ⟨its, r1, p1, _⟩ := I.tuple ha
  obtain ⟨its2, r2, p2, _⟩ := I.tuple hb
  refine HT.cat_tup p1 p2 (fun z => hx (r1.nil_iff.mp z)) (fun z => ⟨.ref a, H, I, rfl, q1 (r2.nil_iff.mp z)⟩) (fun z => ?_) (by rw [← r1.length, ← r2.length]; exact hz)
  refine ⟨.ref s.heap.objs.size, _, I.laid (t' := s.toks) (o := .tup (xs ++ ys)) (fun b ob q => Heap.get?_push_of_some _ q) (Nat.le_refl _) ?_, rfl, q2 (fun w => z (r2.nil_iff.mpr w)) _ (I.hok.fresh (Nat.le_refl _))⟩
  exact ⟨by rw [List.length_append]; exact hz, _, r1.append r2, IsTup.new _ _⟩
/-- tuple(t) -/
theorem call_tupleT : CallR X (.type "tuple") (fun xs H Q => ∃ a ys, xs = [.ref a] ∧ SqT X.K H a ys ∧ Q (.ref a) H) := by
  intro pins s σ H xs us Q I r h
  obtain ⟨a, ys, rfl, ha, q⟩ := h
  obtain ⟨u, rfl, ru⟩ := vals1 r
  cases ru
  obtain ⟨its, _, p1, _⟩ := I.tuple ha
  exact call_tuple_same (items := its.toArray) p1 ⟨.ref a, H, I, rfl, q⟩
end
end L2

namespace L2
open PySem PySem.Spec PyProof.Rows

/-! ### places -/
/-- the place that an index of any sign means -/
def ixN (n : Nat) (i : Int) : Option Nat := if 0 ≤ i then (if i < n then some i.toNat else none) else if -(n : Int) ≤ i then some (i + n).toNat else none
def atI {α : Type} (xs : List α) (i : Int) : Option α := (ixN xs.length i).bind fun j => xs[j]?
theorem ixN_seq {n : Nat} {i : Int} {j : Nat} (h : ixN n i = some j) : seqIndex? i n = some j ∧ j < n ∧ -(n : Int) ≤ i ∧ i < n := by
  unfold ixN at h
  by_cases h0 : 0 ≤ i
  · rw [if_pos h0] at h
    by_cases h1 : i < n
    · rw [if_pos h1] at h
      have e : i.toNat = j := Option.some.inj h
      exact ⟨by rw [seqIndex_of h0 h1, e], by omega, by omega, h1⟩
    · rw [if_neg h1] at h; cases h
  · rw [if_neg h0] at h
    by_cases h1 : -(n : Int) ≤ i
    · rw [if_pos h1] at h
      have e : (i + n).toNat = j := Option.some.inj h
      exact ⟨by rw [seqIndex_neg (by omega) h1, e], by omega, h1, by omega⟩
    · rw [if_neg h1] at h; cases h
theorem atI_get {α : Type} {xs : List α} {i : Int} {v : α} (h : atI xs i = some v) : ∃ j, seqIndex? i xs.length = some j ∧ xs[j]? = some v ∧ j < xs.length ∧ -(xs.length : Int) ≤ i ∧ i < xs.length := by
  unfold atI at h
  cases e : ixN xs.length i with
  | none => rw [e] at h; cases h
  | some j =>
    rw [e] at h
    obtain ⟨h1, h2, h3, h4⟩ := ixN_seq e
    exact ⟨j, h1, h, h2, h3, h4⟩
theorem atI_nat {α : Type} {xs : List α} {j : Nat} {v : α} (h : xs[j]? = some v) : atI xs (j : Int) = some v := by
  have hj : j < xs.length := (List.getElem?_eq_some_iff.mp h).1
  have e : ixN xs.length (j : Int) = some j := by
    unfold ixN
    rw [if_pos (by omega), if_pos (by omega)]; simp
  unfold atI; rw [e]; exact h
theorem atI_last {α : Type} (xs : List α) (v : α) : atI (xs ++ [v]) (-1) = some v := by
  have hl : (xs ++ [v]).length = xs.length + 1 := by simp
  have e : ixN (xs ++ [v]).length (-1) = some xs.length := by
    unfold ixN
    rw [hl, if_neg (by decide), if_pos (by omega)]
    congr 1
    omega
  unfold atI
  rw [e]
  show (xs ++ [v])[xs.length]? = some v
  simp

/-! ### what may be subscripted -/
/-- what stands as an index of a plain subscript -/
def PlainIx (b : Expr) : Prop := ∀ o i, subscripted b false o i = operate [o, i] (getItem o i)
/-- a subscript by values -/
def IxR (X : Cx) (r : R2) : Prop :=
  ∀ (value slice : Expr) (pins : List (Addr × Obj)) (s : Shared) (σ : St) (H : Hp) (x y : V) (v u : Value) (Q : VK), Inv X pins σ H s → RelV x v → RelV y u → r x y H Q →
    subscripted slice false v u = operate [v, u] (getItem v u) → wpAny (model X.prog X.w) X.A (subscriptTail value slice v u) (EP X pins σ Q) X.xe s
/-- a call of a builtin's method by values: the receiver, the arguments -/
def MtR (X : Cx) (id : String) (r : V → List V → Hp → VK → Prop) : Prop :=
  ∀ (pins : List (Addr × Obj)) (s : Shared) (σ : St) (H : Hp) (x : V) (xs : List V) (v : Value) (us : List Value) (Q : VK), Inv X pins σ H s → RelV x v → Vals xs us → r x xs H Q →
    wpAny (model X.prog X.w) X.A (call (.builtin id) (v :: us)) (EP X pins σ Q) X.xe s
section
variable {X : Cx} {a b : Expr} {ta tb : TE} {pos : Pos}
theorem IxR.or {r r' : R2} (h : IxR X r) (h' : IxR X r') : IxR X (fun x y H Q => r x y H Q ∨ r' x y H Q) := by
  intro value slice pins s σ H x y v u Q I rx ry q hs
  rcases q with q | q
  · exact h value slice pins s σ H x y v u Q I rx ry q hs
  · exact h' value slice pins s σ H x y v u Q I rx ry q hs
theorem MtR.or {id : String} {r r' : V → List V → Hp → VK → Prop} (h : MtR X id r) (h' : MtR X id r') : MtR X id (fun x xs H Q => r x xs H Q ∨ r' x xs H Q) := by
  intro pins s σ H x xs v us Q I rx rs q
  rcases q with q | q
  · exact h pins s σ H x xs v us Q I rx rs q
  · exact h' pins s σ H x xs v us Q I rx rs q
/-- a[b] -/
theorem pe_ix {r : R2} (hr : IxR X r) (ha : PE X a ta) (hb : PE X b tb) (hs : PlainIx b) : PE X (.Subscript a b pos) (tOp r ta tb) := by
  intro pins s σ H Q I h
  exact Subscript_ (binT ha hb I h fun v u s2 x y H2 I2 rx ry q => hr a b pins s2 σ H2 x y v u Q I2 rx ry q (hs _ _))

def rIxL (K : PySem.W.Frag) : R2 := fun x y H Q => ∃ p xs i v, x = .ref p ∧ y = .int i ∧ SqL K H p xs ∧ atI xs i = some v ∧ Q v H
def rIxT (K : PySem.W.Frag) : R2 := fun x y H Q => ∃ p xs i v, x = .ref p ∧ y = .int i ∧ SqT K H p xs ∧ atI xs i = some v ∧ Q v H
def rIxS : R2 := fun x y H Q => ∃ z i c, x = .str z ∧ y = .int i ∧ z.length ≤ sizeLine ∧ atI z.cps.toList i = some c ∧ Q (.str ⟨#[c]⟩) H
theorem ix_list : IxR X (rIxL X.K) := by
  intro value slice pins s σ H x y v u Q I rx ry h hs
  obtain ⟨p, xs, i, z, rfl, rfl, hq, he, q⟩ := h
  cases rx
  obtain ⟨t, rfl⟩ := ry
  obtain ⟨its, r, pl, hz⟩ := I.list hq
  obtain ⟨j, h1, h2, h3, h4, h5⟩ := atI_get he
  obtain ⟨w, ew, rw'⟩ := r.get h2
  have hl := r.length
  have hn := line63
  have fin : EP X pins σ Q w s := ⟨z, H, I, rw', q⟩
  by_cases h0 : 0 ≤ i
  · have hj : i.toNat = j := by
      rw [seqIndex_of h0 h5] at h1
      exact Option.some.inj h1
    exact item_listR pl.isList h0 (by omega) (by rw [hj]; simpa using ew) fin hs
  · have hj : (i + (its.toArray.size : Int)).toNat = j := by
      rw [seqIndex_neg (by omega) h4] at h1
      rw [List.size_toArray, ← hl]
      exact Option.some.inj h1
    exact subscriptTail_builtinR (x := w) pl.isList.typeIs slot_list_getitem.lookup
      (wpAny_getItem_list_neg (Q := fun r s' => r = w ∧ EP X pins σ Q r s') pl.isList (by omega) (by rw [List.size_toArray] <;> omega) (by omega) (by rw [hj]; simpa using ew) ⟨rfl, fin⟩) hs
theorem ix_tup : IxR X (rIxT X.K) := by
  intro value slice pins s σ H x y v u Q I rx ry h hs
  obtain ⟨p, xs, i, z, rfl, rfl, hq, he, q⟩ := h
  cases rx
  obtain ⟨t, rfl⟩ := ry
  obtain ⟨its, r, pl, hz⟩ := I.tuple hq
  obtain ⟨j, h1, h2, h3, h4, h5⟩ := atI_get he
  obtain ⟨w, ew, rw'⟩ := r.get h2
  have hl := r.length
  have hn := line63
  have fin : EP X pins σ Q w s := ⟨z, H, I, rw', q⟩
  exact subscriptTail_builtinR (x := w) pl.typeIs slot_tuple_getitem.lookup
    (getItem_tuple (j := j) (Q := fun r s' => r = w ∧ EP X pins σ Q r s') pl (by omega) (by omega) (by rw [List.size_toArray, ← hl]; exact h1) (by simpa using ew) ⟨rfl, fin⟩) hs
theorem ix_str : IxR X rIxS := by
  intro value slice pins s σ H x y v u Q I rx ry h hs
  obtain ⟨z, i, c, rfl, rfl, hz, he, q⟩ := h
  obtain ⟨t, rfl⟩ := rx
  obtain ⟨t', rfl⟩ := ry
  obtain ⟨j, h1, h2, h3, h4, h5⟩ := atI_get he
  have hl : z.cps.toList.length = z.length := by simp [Str.length]
  rw [hl] at h1 h4 h5
  have hn := line63
  exact tail_any (typeIs_str s z t) slot_str_getitem.lookup (getItem_str (c := c) (by
    have e1 : decide (i < -(2 ^ 63 : Int)) = false := decide_eq_false (by omega)
    have e2 : decide (i ≥ 2 ^ 63) = false := decide_eq_false (by omega)
    rw [e1, e2, Bool.or_false]) (by rw [h1]; simpa using h2) ⟨.str ⟨#[c]⟩, H, I.tok _, ⟨_, rfl⟩, q⟩) hs
/-- list, tuple or str -/
def rIx (K : PySem.W.Frag) : R2 := fun x y H Q => rIxL K x y H Q ∨ rIxT K x y H Q ∨ rIxS x y H Q
theorem ix_seq : IxR X (rIx X.K) := ix_list.or (ix_tup.or ix_str)

/-! ### xs[i] = v, any sign -/
/-- the list's object behind a store -/
theorem mapSeq_set (its : List Value) (n j : Nat) (u : Value) : Obj.mapSeq (·.setIfInBounds j u) { cls := .type "list", data := .seq its.toArray n } = { cls := .type "list", data := .seq (its.set j u).toArray n } := by
  simp [Obj.mapSeq]
theorem Inv.lst {pins : List (Addr × Obj)} {σ : St} {H : Hp} {s : Shared} {p : Addr} {xs : List V} (I : Inv X pins σ H s) (h : H p = some (.lst xs)) :
    ∃ (its : List Value) (n : Nat), Vals xs its ∧ s.heap.get? p = some { cls := .type "list", data := .seq its.toArray n } ∧ xs.length ≤ sizeLine := by
  obtain ⟨z, its, n, r, e⟩ := I.hok p _ h
  exact ⟨its, n, r, e, z⟩
/-- the list at p is written by an update of its object -/
theorem Inv.lstUpd {pins : List (Addr × Obj)} {σ : St} {H : Hp} {s : Shared} {p : Addr} {xs ys : List V} {its its' : List Value} {n n' : Nat} {f : Obj → Obj} (I : Inv X pins σ H s) (h : H p = some (.lst xs))
    (ho : s.heap.get? p = some { cls := .type "list", data := .seq its.toArray n }) (hf : f { cls := .type "list", data := .seq its.toArray n } = { cls := .type "list", data := .seq its'.toArray n' }) (r : Vals ys its') (hz : ys.length ≤ sizeLine) (t : Nat) :
    Inv X pins σ (upd H p (.lst ys)) { s with heap := s.heap.update p f, toks := t } := by
  have e : (s.heap.update p f).get? p = some { cls := .type "list", data := .seq its'.toArray n' } := by
    rw [Heap.get?_update_self f ho (by rw [hf] <;> rfl), hf]
  refine I.write (x := p) (e := p) (by rw [h]; trivial) (.inl rfl) (fun b u hb q => (Heap.get?_update_other _ _ (Ne.symm hb)).trans q) ⟨_, e⟩ ?_
  exact ⟨hz, its', n', r, e⟩
def rSetL : V → V → V → Hp → (Hp → Prop) → Prop := fun o i v H Q => ∃ p xs k j, o = .ref p ∧ i = .int k ∧ H p = some (.lst xs) ∧ ixN xs.length k = some j ∧ Q (upd H p (.lst (xs.set j v)))
theorem set_list : PSet X rSetL := by
  intro pins s σ H o i v ov iv u Q I ro ri rv h
  obtain ⟨p, xs, k, j, rfl, rfl, hp, hj, q⟩ := h
  cases ro
  obtain ⟨t, rfl⟩ := ri
  obtain ⟨its, n, r, ho, hz⟩ := I.lst hp
  obtain ⟨h1, h2, h3, h4⟩ := ixN_seq hj
  have hl := r.length
  have hn := line63
  have I' : Inv X pins σ (upd H p (.lst (xs.set j v))) { s with heap := s.heap.update p (Obj.mapSeq (·.setIfInBounds j u)) } :=
    I.lstUpd hp ho (mapSeq_set its n j u) (r.set rv j) (by rw [List.length_set]; exact hz) s.toks
  by_cases h0 : 0 ≤ k
  · have hk : k.toNat = j := by
      rw [seqIndex_of h0 h4] at h1
      exact Option.some.inj h1
    exact PySem.W.ki_setAt ho h0 (by omega) (by rw [List.size_toArray, ← hl]; exact h4) (by rw [hk]; exact ⟨_, I', q⟩)
  · have hk : (k + (its.toArray.size : Int)).toNat = j := by
      rw [seqIndex_neg (by omega) h3] at h1
      rw [List.size_toArray, ← hl]
      exact Option.some.inj h1
    exact PySem.W.ki_setBack ho (by omega) (by rw [List.size_toArray, ← hl]; exact h3) (by omega) (by rw [hk]; exact ⟨_, I', q⟩)

/-! ### slices -/
theorem slice_bounds (lo hi : Option Int) (n : Nat) : (sliceBounds lo hi none n).1 = ((HT.sIx n 0 lo : Nat) : Int) ∧ (sliceBounds lo hi none n).2.1 = ((HT.sIx n n hi : Nat) : Int) ∧ (sliceBounds lo hi none n).2.2 = 1 := by
  refine ⟨?_, ?_, rfl⟩
  · cases lo with
    | none => simp [sliceBounds, HT.sIx]
    | some i =>
      simp only [sliceBounds, HT.sIx, Option.getD_none, show (1 : Int) > 0 by decide, if_true]
      by_cases h : i < 0
      · simp only [h, if_true] <;> omega
      · simp only [h, if_false] <;> omega
  · cases hi with
    | none => simp [sliceBounds, HT.sIx]
    | some i =>
      simp only [sliceBounds, HT.sIx, Option.getD_none, show (1 : Int) > 0 by decide, if_true]
      by_cases h : i < 0
      · simp only [h, if_true] <;> omega
      · simp only [h, if_false] <;> omega
theorem slicePick_cut (its : List Value) (lo hi : Option Int) : slicePick its.toArray lo hi none = ((its.drop (HT.sIx its.length 0 lo)).take (HT.sIx its.length its.length hi - HT.sIx its.length 0 lo)).toArray := by
  obtain ⟨h1, h2, h3⟩ := slice_bounds lo hi its.toArray.size
  unfold slicePick
  rw [h1, h2, h3]
  simp only [sliceRange_one, pick_run, List.size_toArray] <;> rfl
/-- xs[lo:hi] of a list: a new list -/
def rSlL (K : PySem.W.Frag) : V → Option Int → Option Int → Hp → VK → Prop := fun x lo hi H Q => ∃ a xs, x = .ref a ∧ SqL K H a xs ∧ ∀ p, H p = none → Q (.ref p) (upd H p (.lst (cutV xs lo hi)))
theorem sl_list : SlR X (rSlL X.K) := by
  intro pins s σ H x v vl vu lo hi sl Q I rx hs pl pu h
  obtain ⟨a, xs, rfl, hx, q⟩ := h
  cases rx
  obtain ⟨its, r, ht, hz⟩ := I.list hx
  have hlen := r.length
  refine ⟨"list", _, slot_list_getitem.lookup, ht.isList.typeIs, ?_⟩
  refine wpAny_getItem_list_slice ht.isList hs pl pu .none (by simp) ?_ (by rw [List.size_toArray] <;> omega)
  rw [slicePick_cut, ← hlen]
  refine ⟨.ref s.heap.objs.size, _, I.laid (t' := s.toks) (o := .lst (cutV xs lo hi)) (fun b ob q => Heap.get?_push_of_some _ q) (Nat.le_refl _) ?_, rfl, q _ (I.hok.fresh (Nat.le_refl _))⟩
  exact ⟨Nat.le_trans (cutV_length xs lo hi) hz, _, 0, (r.drop (HT.sIx xs.length 0 lo)).take (HT.sIx xs.length xs.length hi - HT.sIx xs.length 0 lo), Heap.get?_push_size _ rfl⟩

/-! ### in, not in: flat items -/
def flatV : V → Bool
  | .non => true
  | .bl _ => true
  | .int _ => true
  | .str _ => true
  | _ => false
/-- == of flat values -/
def eqV : V → V → Bool
  | .non, .non => true
  | .bl a, .bl b => a == b
  | .bl a, .int b => (if a then 1 else 0) == b
  | .int a, .bl b => a == (if b then 1 else 0)
  | .int a, .int b => a == b
  | .str a, .str b => a == b
  | _, _ => false
theorem eqAt_V {A : Around} {s : Shared} {y x : V} {u v : Value} (ry : RelV y u) (rx : RelV x v) (fy : flatV y = true) (fx : flatV x = true) : SeqAt.EqAt A s u v (eqV y x) := by
  cases y with
  | non =>
    cases ry
    cases x with
    | non => cases rx; exact SeqAt.EqAt.same _
    | bl b => cases rx; exact SeqAt.EqAt.none_bool b
    | int b => obtain ⟨t, rfl⟩ := rx; exact SeqAt.EqAt.none_int b t
    | str b => obtain ⟨t, rfl⟩ := rx; exact SeqAt.EqAt.none_str b t
    | _ => exact absurd (show false = true from fx) Bool.false_ne_true
  | bl a =>
    cases ry
    cases x with
    | non => cases rx; exact SeqAt.EqAt.bool_none a
    | bl b => cases rx; exact SeqAt.EqAt.bool_bool a b
    | int b => obtain ⟨t, rfl⟩ := rx; exact SeqAt.EqAt.bool_int a b t
    | str b => obtain ⟨t, rfl⟩ := rx; exact SeqAt.EqAt.bool_str a b t
    | _ => exact absurd (show false = true from fx) Bool.false_ne_true
  | int a =>
    obtain ⟨t', rfl⟩ := ry
    cases x with
    | non => cases rx; exact SeqAt.EqAt.int_none a t'
    | bl b => cases rx; exact SeqAt.EqAt.int_bool a t' b
    | int b => obtain ⟨t, rfl⟩ := rx; exact SeqAt.EqAt.int_int a t' b t
    | str b => obtain ⟨t, rfl⟩ := rx; exact SeqAt.EqAt.int_str a t' b t
    | _ => exact absurd (show false = true from fx) Bool.false_ne_true
  | str a =>
    obtain ⟨t', rfl⟩ := ry
    cases x with
    | non => cases rx; exact SeqAt.EqAt.str_none a t'
    | bl b => cases rx; exact SeqAt.EqAt.str_bool a t' b
    | int b => obtain ⟨t, rfl⟩ := rx; exact SeqAt.EqAt.str_int a t' b t
    | str b => obtain ⟨t, rfl⟩ := rx; exact SeqAt.EqAt.str_str a t' b t
    | _ => exact absurd (show false = true from fx) Bool.false_ne_true
  | _ => exact absurd (show false = true from fy) Bool.false_ne_true
/-- the items' answers, read off the values (a value's own answer does not lean on its token) -/
def eqU (x : V) (u : Value) : Bool := match u with
  | .none => eqV .non x
  | .bool b => eqV (.bl b) x
  | .int i _ => eqV (.int i) x
  | .str z _ => eqV (.str z) x
  | _ => false
theorem eqU_of {x y : V} {u : Value} (r : RelV y u) (f : flatV y = true) : eqU x u = eqV y x := by
  cases y with
  | non => cases r; rfl
  | bl b => cases r; rfl
  | int i => obtain ⟨t, rfl⟩ := r; rfl
  | str z => obtain ⟨t, rfl⟩ := r; rfl
  | _ => exact absurd (show false = true from f) Bool.false_ne_true
theorem any_eqU {x : V} : ∀ {xs : List V} {us : List Value}, Vals xs us → xs.all flatV = true → us.any (eqU x) = xs.any fun y => eqV y x
  | _, _, .nil, _ => rfl
  | y :: xs, u :: us, .cons r t, f => by
    rw [List.all_cons, Bool.and_eq_true] at f
    rw [List.any_cons, List.any_cons, eqU_of r f.1, any_eqU t f.2]
theorem mem_eqAt {A : Around} {s : Shared} {x : V} {v : Value} (rx : RelV x v) (fx : flatV x = true) : ∀ {xs : List V} {us : List Value}, Vals xs us → xs.all flatV = true → ∀ u ∈ us, SeqAt.EqAt A s u v (eqU x u)
  | _, _, .nil, _ => fun u hu => by cases hu
  | y :: xs, u :: us, .cons r t, f => fun u' hu => by
    rw [List.all_cons, Bool.and_eq_true] at f
    rcases List.mem_cons.mp hu with rfl | hu
    · rw [eqU_of r f.1]; exact eqAt_V r rx f.1 fx
    · exact mem_eqAt rx fx t f.2 u' hu
def inV (x : V) (xs : List V) : Bool := xs.any fun y => eqV y x
/-- x in a list or tuple of flat items -/
def rIn (K : PySem.W.Frag) (neg : Bool) : R2 := fun x y H Q => ∃ p xs, y = .ref p ∧ (SqL K H p xs ∨ SqT K H p xs) ∧ flatV x = true ∧ xs.all flatV = true ∧ Q (.bl (if neg then !inV x xs else inV x xs)) H
theorem op_in_seq : OpR X (compareOp .In) (rIn X.K false) := by
  intro pins s σ H x y v u Q I rx ry h
  obtain ⟨p, xs, rfl, hq, fx, fs, q⟩ := h
  cases ry
  rcases hq with hq | hq
  · obtain ⟨its, r, pl, hz⟩ := I.list hq
    refine SeqAt.in_listAt (eqU x) pl.isList (fun w hw => mem_eqAt rx fx r fs w (by simpa using hw)) ⟨.bl _, H, I, rfl, ?_⟩
    rw [show its.toArray.any (eqU x) = its.any (eqU x) by simp, any_eqU r fs]
    exact q
  · obtain ⟨its, r, pl, hz⟩ := I.tuple hq
    refine SeqAt.in_tupleAt (eqU x) pl (fun w hw => mem_eqAt rx fx r fs w (by simpa using hw)) ⟨.bl _, H, I, rfl, ?_⟩
    rw [show its.toArray.any (eqU x) = its.any (eqU x) by simp, any_eqU r fs]
    exact q
theorem op_notIn_seq : OpR X (compareOp .NotIn) (rIn X.K true) := by
  intro pins s σ H x y v u Q I rx ry h
  obtain ⟨p, xs, rfl, hq, fx, fs, q⟩ := h
  cases ry
  rcases hq with hq | hq
  · obtain ⟨its, r, pl, hz⟩ := I.list hq
    refine SeqAt.notIn_listAt (eqU x) pl.isList (fun w hw => mem_eqAt rx fx r fs w (by simpa using hw)) ⟨.bl _, H, I, rfl, ?_⟩
    rw [show its.toArray.any (eqU x) = its.any (eqU x) by simp, any_eqU r fs]
    exact q
  · obtain ⟨its, r, pl, hz⟩ := I.tuple hq
    refine SeqAt.notIn_tupleAt (eqU x) pl (fun w hw => mem_eqAt rx fx r fs w (by simpa using hw)) ⟨.bl _, H, I, rfl, ?_⟩
    rw [show its.toArray.any (eqU x) = its.any (eqU x) by simp, any_eqU r fs]
    exact q
theorem op_notIn_str : OpR X (compareOp .NotIn) (fun x y H Q => ∃ i j, x = .str i ∧ y = .str j ∧ Q (.bl (!(!(Builtin.Str.occurrences j i 0 j.length 1).isEmpty))) H) := by
  intro pins s σ H x y v u Q I rx ry h
  obtain ⟨i, j, rfl, rfl, q⟩ := h
  obtain ⟨t, rfl⟩ := rx
  obtain ⟨t', rfl⟩ := ry
  exact notIn_str ⟨.bl _, H, I, rfl, q⟩

/-! ### len, list(x), tuple(x) of any list or tuple that is read -/
theorem call_len_seq : CallR X (.builtin "len") (fun xs H Q => ∃ p ys, xs = [.ref p] ∧ (SqL X.K H p ys ∨ SqT X.K H p ys) ∧ Q (.int ys.length) H) := by
  intro pins s σ H xs us Q I r h
  obtain ⟨p, ys, rfl, hq, q⟩ := h
  obtain ⟨u, rfl, rx⟩ := vals1 r
  cases rx
  have hn := line63
  rcases hq with hq | hq
  · obtain ⟨its, r', pl, hz⟩ := I.list hq
    have hlen := r'.length
    exact Calls.call_len_list pl.isList (by simp only [List.size_toArray] <;> omega) ⟨.int ys.length, H, I.tok _, ⟨s.toks + 1, by rw [List.size_toArray, hlen]⟩, q⟩
  · obtain ⟨its, r', pl, hz⟩ := I.tuple hq
    have hlen := r'.length
    exact len_tuple pl (by simp only [List.size_toArray] <;> omega) ⟨.int ys.length, H, I.tok _, ⟨s.toks + 1, by rw [List.size_toArray, hlen]⟩, q⟩
theorem call_len_str : CallR X (.builtin "len") (fun xs H Q => ∃ z, xs = [.str z] ∧ z.length ≤ sizeLine ∧ Q (.int z.length) H) := by
  intro pins s σ H xs us Q I r h
  obtain ⟨z, rfl, hz, q⟩ := h
  obtain ⟨u, rfl, t, rfl⟩ := vals1 r
  have hn := line63
  exact len_str (by omega) ⟨.int z.length, H, I.tok _, ⟨_, rfl⟩, q⟩
theorem CallR.or {f : Value} {r r' : List V → Hp → VK → Prop} (h : CallR X f r) (h' : CallR X f r') : CallR X f (fun xs H Q => r xs H Q ∨ r' xs H Q) := by
  intro pins s σ H xs us Q I rs q
  rcases q with q | q
  · exact h pins s σ H xs us Q I rs q
  · exact h' pins s σ H xs us Q I rs q
theorem call_list_of : CallR X (.type "list") (fun xs H Q => ∃ p ys, xs = [.ref p] ∧ (SqL X.K H p ys ∨ SqT X.K H p ys) ∧ ∀ l, H l = none → Q (.ref l) (upd H l (.lst ys))) := by
  intro pins s σ H xs us Q I r h
  obtain ⟨p, ys, rfl, hq, q⟩ := h
  obtain ⟨u, rfl, rx⟩ := vals1 r
  cases rx
  have fin : ∀ (its : List Value), Vals ys its → ys.length ≤ sizeLine → ∀ (h' : Heap) (c' : Nat), (∀ b o', s.heap.get? b = some o' → h'.get? b = some o') →
      h'.get? s.heap.objs.size = some { cls := .type "list", dict := none, data := .seq its.toArray c', slots := #[] } → EP X pins σ Q (.ref s.heap.objs.size) { s with heap := h' } := fun its r' hz h' c' kp e =>
    ⟨.ref s.heap.objs.size, _, I.laid (t' := s.toks) kp (Nat.le_refl _) (show ObjOk X.prog X.w _ h' _ (.lst ys) from ⟨hz, its, c', r', e⟩), rfl, q _ (I.hok.fresh (Nat.le_refl _))⟩
  rcases hq with hq | hq
  · obtain ⟨its, r', pl, hz⟩ := I.list hq
    have hlen := r'.length
    obtain ⟨o, ho, hc, n, hd⟩ := pl.isList
    exact call_list_seq p (.inl rfl) ho hc hd (fun h' c' kp e => fin its r' hz h' c' kp e) (by simp only [List.size_toArray] <;> omega)
  · obtain ⟨its, r', pl, hz⟩ := I.tuple hq
    have hlen := r'.length
    obtain ⟨o, ho, hc, n, hd⟩ := pl
    exact call_list_seq p (.inr rfl) ho hc hd (fun h' c' kp e => fin its r' hz h' c' kp e) (by simp only [List.size_toArray] <;> omega)
theorem call_tuple_of : CallR X (.type "tuple") (fun xs H Q => ∃ p ys, xs = [.ref p] ∧ ((SqL X.K H p ys ∧ ∀ l, H l = none → Q (.ref l) (upd H l (.tup ys))) ∨ (SqT X.K H p ys ∧ Q (.ref p) H))) := by
  intro pins s σ H xs us Q I r h
  obtain ⟨p, ys, rfl, h⟩ := h
  obtain ⟨u, rfl, rx⟩ := vals1 r
  cases rx
  rcases h with ⟨hq, q⟩ | ⟨hq, q⟩
  · obtain ⟨its, r', pl, hz⟩ := I.list hq
    have hlen := r'.length
    refine call_tuple_list pl.isList (fun h' kp => ?_) (by simp only [List.size_toArray] <;> omega)
    have I1 : Inv X pins σ H { s with heap := h' } := I.kept (t' := s.toks) kp
    have I2 : Inv X pins σ (upd H h'.objs.size (.tup ys)) { s with heap := h'.push { cls := .type "tuple", data := .seq its.toArray } } :=
      I1.laid (t' := s.toks) (fun b o e => Heap.get?_push_of_some _ e) (Nat.le_refl _) (show ObjOk X.prog X.w _ _ _ (.tup ys) from ⟨hz, its, r', IsTup.new _ _⟩)
    exact ⟨.ref h'.objs.size, _, I2, rfl, q _ (I1.hok.fresh (Nat.le_refl _))⟩
  · obtain ⟨its, r', pl, hz⟩ := I.tuple hq
    exact call_tuple_same pl ⟨.ref p, H, I, rfl, q⟩

/-! ### the call of a builtin's method: o.m(..) -/
/-- the value is of that builtin type -/
def tyV (K : PySem.W.Frag) (T : String) (x : V) (H : Hp) : Prop := match x with
  | .str _ => T = "str"
  | .int _ => T = "int"
  | .ref p => (T = "list" ∧ ∃ xs, SqL K H p xs) ∨ (T = "tuple" ∧ ∃ o, K.lookup p = some o ∧ o.cls = .type "tuple" ∧ o.dict = none) ∨
      (T = "dict" ∧ ((∃ kvs, H p = some (.dK kvs)) ∨ ∃ kvs, H p = some (.dT kvs))) ∨ (T = "set" ∧ ∃ S n, H p = some (.set S n))
  | _ => False
theorem tyV_is {pins : List (Addr × Obj)} {σ : St} {H : Hp} {s : Shared} {T : String} {x : V} {v : Value} (I : Inv X pins σ H s) (r : RelV x v) (ty : tyV X.K T x H) :
    s.TypeIs v T ∧ ∀ a, v = .ref a → ∃ ob, s.heap.get? a = some ob ∧ ob.dict = none := by
  cases x with
  | str z =>
    obtain ⟨t, rfl⟩ := r
    cases (show T = "str" from ty)
    exact ⟨typeIs_str s z t, fun _ e => nomatch e⟩
  | int i =>
    obtain ⟨t, rfl⟩ := r
    cases (show T = "int" from ty)
    exact ⟨typeIs_int s i t, fun _ e => nomatch e⟩
  | ref p =>
    cases r
    rcases ty with ⟨rfl, xs, hq⟩ | ⟨rfl, o, hk, hc, hd⟩ | ⟨rfl, hk⟩ | ⟨rfl, S, n, hk⟩
    · obtain ⟨its, _, pl, _⟩ := I.list hq
      refine ⟨pl.isList.typeIs, fun a e => ?_⟩
      cases e
      obtain ⟨o, n, e, c, hd, _⟩ := pl
      exact ⟨o, e, hd⟩
    · refine ⟨⟨o, I.kIn p o hk, hc⟩, fun a e => ?_⟩
      cases e
      exact ⟨o, I.kIn _ o hk, hd⟩
    · have z : ∃ o, s.heap.get? p = some o ∧ o.ExactDict := by
        rcases hk with ⟨kvs, hk⟩ | ⟨kvs, hk⟩
        · obtain ⟨_, _, _, _, o, _, _, e, ex, _⟩ := I.hok p _ hk
          exact ⟨o, e, ex⟩
        · obtain ⟨_, _, _, _, o, _, _, e, ex, _⟩ := I.hok p _ hk
          exact ⟨o, e, ex⟩
      obtain ⟨o, e, ex⟩ := z
      refine ⟨⟨o, e, ex.1⟩, fun a e2 => ?_⟩
      cases e2
      exact ⟨o, e, ex.2.1⟩
    · obtain ⟨o, _, _, _, e, ex, _⟩ := I.hok p _ hk
      refine ⟨⟨o, e, ex.1⟩, fun a e2 => ?_⟩
      cases e2
      exact ⟨o, e, ex.2.1⟩
  | _ => exact False.elim ty
def tBM0 (K : PySem.W.Frag) (T : String) (r : V → List V → Hp → VK → Prop) (to : TE) : TE := fun σ H Q => to σ H fun x H1 => tyV K T x H1 ∧ r x [] H1 Q
def tBM (K : PySem.W.Frag) (T : String) (r : V → List V → Hp → VK → Prop) (to : TE) (t : TA) : TE := fun σ H Q => to σ H fun x H1 => tyV K T x H1 ∧ t σ H1 fun xs H2 => r x xs H2 Q
variable {o e : Expr} {es : List Expr} {to : TE} {t : TA} {name : Str} {apos cpos : Pos} {T id : String} {r : V → List V → Hp → VK → Prop}
theorem pe_bm0 (pa : PlainAttrs T) (slot : Slot T name id) (hty : typeOf (.builtin id) = pure (.type "method_descriptor")) (hm : MtR X id r) (ho : PE X o to)
    (hbase : attributeBase o name X.env (eval o X.env) = eval o X.env := by rfl) (hline : (apos.endLine == cpos.line) = true := by rfl) : PE X (.Call (.Attribute o name apos) [] [] cpos) (tBM0 X.K T r to) := by
  intro pins s σ H Q I h
  refine wpAny_Call_method0_late hbase hline (thn (ho pins s σ H _ I h) fun v s1 ⟨x, H1, I1, r1, ty, q1⟩ => ?_)
  obtain ⟨h1, h2⟩ := tyV_is I1 r1 ty
  exact ⟨T, id, pa, slot, hty, h1, h2, Calls.callWith_builtin rfl (PySem.evalArgs_none (hm pins s1 σ H1 x [] v [] Q I1 r1 .nil q1))⟩
theorem pe_bm (pa : PlainAttrs T) (slot : Slot T name id) (hty : typeOf (.builtin id) = pure (.type "method_descriptor")) (hm : MtR X id r) (ho : PE X o to) (ha : PA X (e :: es) t)
    (hbase : attributeBase o name X.env (eval o X.env) = eval o X.env := by rfl)
    (hfew : ((backTo cpos (starEach (e :: es) X.env)).all (fun x => !x.1) && (backToKw cpos (keywordEach [] X.env)).all (fun x => x.1.isSome)
      && decide ((e :: es).length + ([] : List Keyword).length + (if ([] : List Keyword).isEmpty then 0 else 1) < 30)) = true := by rfl)
    (hline : (apos.endLine == cpos.line) = true := by rfl) (hs : starEach (e :: es) X.env = (false, eval e X.env) :: starEach es X.env := by rfl) (hplain : (backTo cpos (starEach es X.env)).any (·.1) = false := by rfl) :
    PE X (.Call (.Attribute o name apos) (e :: es) [] cpos) (tBM X.K T r to t) := by
  intro pins s σ H Q I h
  refine wpAny_Call_method_late hbase hfew hline rfl (thn (ho pins s σ H _ I h) fun v s1 ⟨x, H1, I1, r1, ty, q1⟩ => ?_)
  obtain ⟨h1, h2⟩ := tyV_is I1 r1 ty
  refine ⟨T, id, pa, slot, hty, h1, h2, ?_⟩
  have hA := ha cpos pins s1 σ H1 _ I1 q1
  rw [hs] at hA ⊢
  refine Calls.callWith_builtin (by show (false || (backTo cpos (starEach es X.env)).any (·.1)) = false; rw [hplain] <;> rfl) (Calls.evalArgs_plain ?_)
  exact thn hA fun us s2 ⟨vs, H2, I2, r2, q2⟩ => hm pins s2 σ H2 x vs v us Q I2 r1 r2 q2
/- xs.append(e), list.index on a module's tuple .. are MtR facts of 06m -/
end
end L2

namespace L2
open PySem PySem.Spec PyProof.Rows

def MtM (X : Cx) (id : String) (r : V → List V → Hp → VK → Prop) : Prop :=
  ∀ (pins : List (Addr × Obj)) (s : Shared) (σ : St) (H : Hp) (x : V) (xs : List V) (v : Value) (us : List Value) (Q : VK), Inv X pins σ H s → RelV x v → Vals xs us → r x xs H Q →
    wpAny (model X.prog X.w) X.A (call (.builtin id) (v :: us)) (EP X pins σ Q) X.xe s

/-! ### lists of values -/
theorem Vals.one : ∀ {x : V} {us : List Value}, Vals [x] us → ∃ u, us = [u] ∧ RelV x u
  | _, _, .cons r .nil => ⟨_, rfl, r⟩
theorem Vals.two : ∀ {x y : V} {us : List Value}, Vals [x, y] us → ∃ u v, us = [u, v] ∧ RelV x u ∧ RelV y v
  | _, _, _, .cons r (.cons q .nil) => ⟨_, _, rfl, r, q⟩
theorem Vals.zero : ∀ {us : List Value}, Vals [] us → us = []
  | _, .nil => rfl
theorem Vals.dropLast {xs : List V} {us : List Value} (h : Vals xs us) : Vals xs.dropLast us.dropLast := by
  induction h with
  | nil => exact .nil
  | cons r t ih =>
    cases t with
    | nil => exact .nil
    | cons q t' => exact .cons r ih
theorem Vals.eraseIdx : ∀ {xs : List V} {us : List Value} (i : Nat), Vals xs us → Vals (xs.eraseIdx i) (us.eraseIdx i)
  | _, _, _, .nil => .nil
  | _, _, 0, .cons _ t => t
  | _, _, i + 1, .cons r t => .cons r (Vals.eraseIdx i t)
theorem Vals.reverse {xs : List V} {us : List Value} (h : Vals xs us) : Vals xs.reverse us.reverse := by
  induction h with
  | nil => exact .nil
  | cons r t ih => rw [List.reverse_cons, List.reverse_cons]; exact Vals.append ih (.cons r .nil)
theorem Vals.rep {xs : List V} {us : List Value} (h : Vals xs us) : ∀ k : Nat, Vals (List.replicate k xs).flatten (List.replicate k us).flatten
  | 0 => .nil
  | k + 1 => by
    rw [List.replicate_succ, List.replicate_succ, List.flatten_cons, List.flatten_cons]
    exact Vals.append h (Vals.rep h k)
theorem erase_last {α : Type} (l : List α) : l.eraseIdx (l.length - 1) = l.dropLast := by
  induction l with
  | nil => rfl
  | cons a r ih =>
    cases r with
    | nil => rfl
    | cons b r =>
      have e : (a :: b :: r).length - 1 = ((b :: r).length - 1) + 1 := by
        have h1 : (a :: b :: r).length = r.length + 2 := rfl
        have h2 : (b :: r).length = r.length + 1 := rfl
        omega
      rw [e, List.eraseIdx_cons_succ, ih]
      all_goals rfl
theorem len_erase {α : Type} : ∀ (l : List α) (i : Nat), (l.eraseIdx i).length ≤ l.length
  | [], _ => Nat.le_refl _
  | _ :: _, 0 => Nat.le_succ _
  | _ :: r, i + 1 => Nat.succ_le_succ (len_erase r i)
theorem foldl_rep (its : List Value) : ∀ (k : Nat) (acc : List Value),
    List.foldl (fun x1 x2 => x1 ++ x2) acc.toArray (List.replicate k its.toArray) = (acc ++ (List.replicate k its).flatten).toArray
  | 0, acc => by simp
  | k + 1, acc => by
    have e : acc.toArray ++ its.toArray = (acc ++ its).toArray := by simp
    have e2 : (acc ++ its) ++ (List.replicate k its).flatten = acc ++ (List.replicate (k + 1) its).flatten := by
      rw [List.replicate_succ, List.flatten_cons, List.append_assoc]
    rw [← e2, ← foldl_rep its k (acc ++ its), ← e, List.replicate_succ, List.foldl_cons]

section
variable {X : Cx} {pins : List (Addr × Obj)} {σ : St} {H : Hp} {s : Shared} {l b : Addr} {xs ys zs : List V}

/-! ### the two steps: a tracked list is rewritten, a new list is laid -/
theorem Inv.lset {its its' : List Value} {n : Nat} {f : Array Value → Array Value} {t' : Nat} (I : Inv X pins σ H s) (hH : H l = some (.lst xs))
    (e : s.heap.get? l = some { cls := .type "list", data := .seq its.toArray n }) (hf : f its.toArray = its'.toArray) (hv : Vals ys its') (hz : ys.length ≤ sizeLine) :
    Inv X pins σ (upd H l (.lst ys)) { s with heap := s.heap.update l (Obj.mapSeq f), toks := t' } := by
  have q := PySem.IsL.update e f
  rw [hf] at q
  refine I.write (x := l) (e := l) (by rw [hH]; exact trivial) (.inl rfl) (fun b' u hb hu => (Heap.get?_update_other s.heap (Obj.mapSeq f) (Ne.symm hb)).trans hu) ⟨_, q⟩ ?_
  exact ⟨hz, its', _, hv, q⟩
theorem Inv.lnew {its : List Value} {t' : Nat} (I : Inv X pins σ H s) (hv : Vals ys its) (hz : ys.length ≤ sizeLine) :
    Inv X pins σ (upd H s.heap.objs.size (.lst ys)) { s with heap := s.heap.push { cls := .type "list", data := .seq its.toArray }, toks := t' } :=
  I.laid (fun _ _ q => Heap.get?_push_of_some _ q) (Nat.le_refl _) ⟨hz, its, 0, hv, Heap.get?_push_size _ rfl⟩
theorem Inv.fresh (I : Inv X pins σ H s) : H s.heap.objs.size = none := I.hok.fresh (Nat.le_refl _)
theorem Inv.lstM (I : Inv X pins σ H s) (hH : H l = some (.lst xs)) : xs.length ≤ sizeLine ∧ ∃ (its : List Value) (n : Nat), Vals xs its ∧ xs.length = its.length ∧ s.heap.get? l = some { cls := .type "list", data := .seq its.toArray n } := by
  obtain ⟨z, its, n, r, e⟩ := I.hok l _ hH
  exact ⟨z, its, n, r, r.length, e⟩

theorem notLongL {n : Nat} (h : n ≤ sizeLine) : Builtin.List.listTooLong n = false := by
  unfold Builtin.List.listTooLong
  exact decide_eq_false (by omega)
end

section
variable {X : Cx}

/-! ### methods -/
def rAppend : V → List V → Hp → VK → Prop := fun x vs H Q => ∃ l xs y, x = .ref l ∧ vs = [y] ∧ H l = some (.lst xs) ∧ xs.length < sizeLine ∧ Q .non (upd H l (.lst (xs ++ [y])))
theorem mt_append : MtM X "list.append" rAppend := by
  intro pins s σ H x vs v us Q I rx rv h
  obtain ⟨l, xs, y, rfl, rfl, hH, hz, q⟩ := h
  cases rx
  obtain ⟨u, rfl, ru⟩ := rv.one
  obtain ⟨z, its, n, r, hl, e⟩ := I.lstM hH
  refine call_meets F.slot_list_append ⟨_, e, rfl⟩ F.entry_list_append (F.args_list_append_2 _ _) (PySem.list_append l its.toArray n u (by rw [List.size_toArray]; omega)) ⟨e, ?_⟩
  refine ⟨.non, _, I.lset (its' := its ++ [u]) hH e (by simp) (r.append (.cons ru .nil)) ?_, rfl, q⟩
  rw [List.length_append, List.length_singleton]
  omega

def rExtend : V → List V → Hp → VK → Prop := fun x vs H Q => ∃ l b xs zs, x = .ref l ∧ vs = [.ref b] ∧ H l = some (.lst xs) ∧ H b = some (.lst zs) ∧ xs.length + zs.length ≤ sizeLine ∧ Q .non (upd H l (.lst (xs ++ zs)))
theorem mt_extend : MtM X "list.extend" rExtend := by
  intro pins s σ H x vs v us Q I rx rv h
  obtain ⟨l, b, xs, zs, rfl, rfl, hH, hB, hz, q⟩ := h
  cases rx
  obtain ⟨u, rfl, ru⟩ := rv.one
  cases ru
  obtain ⟨z, its, n, r, hl, e⟩ := I.lstM hH
  obtain ⟨z2, its2, n2, r2, hl2, e2⟩ := I.lstM hB
  have hsz : its.toArray.size + its2.toArray.size ≤ sizeLine := by rw [List.size_toArray, List.size_toArray]; omega
  have hlong : ¬ (!its.toArray.isEmpty && Builtin.List.listTooLong (its.toArray.size + its2.toArray.size)) = true := by
    rw [notLongL hsz, Bool.and_false]
    exact Bool.false_ne_true
  refine call_meets F.slot_list_extend ⟨_, e, rfl⟩ F.entry_list_extend (F.args_list_extend_2 _ _)
    (AutoSeq1.list_extend_list_list_0 l its.toArray n b its2.toArray n2 hlong (by rw [List.size_toArray]; omega) (by omega)) ⟨e, e2, ?_⟩
  refine ⟨.non, _, I.lset (its' := its ++ its2) hH e (by simp) (r.append r2) ?_, rfl, q⟩
  rw [List.length_append]
  omega

def rPop : V → List V → Hp → VK → Prop := fun x vs H Q => ∃ l xs y, x = .ref l ∧ vs = [] ∧ H l = some (.lst xs) ∧ xs[xs.length - 1]? = some y ∧ Q y (upd H l (.lst xs.dropLast))
theorem mt_pop : MtM X "list.pop" rPop := by
  intro pins s σ H x vs v us Q I rx rv h
  obtain ⟨l, xs, y, rfl, rfl, hH, hy, q⟩ := h
  cases rx
  have hus := rv.zero
  subst hus
  obtain ⟨z, its, n, r, hl, e⟩ := I.lstM hH
  obtain ⟨u, hu, ru⟩ := r.get hy
  have hy' : its.toArray[its.toArray.size - 1]? = some u := by
    show its.toArray[its.length - 1]? = some u
    rw [← Array.getElem?_toList, ← hl]
    exact hu
  refine call_meets F.slot_list_pop ⟨_, e, rfl⟩ F.entry_list_pop (F.args_list_pop_1 _) (MeetsSeq.list_pop_last l its.toArray n u hy' (by rw [List.size_toArray]; omega)) ⟨e, ?_⟩
  refine ⟨y, _, I.lset (its' := its.dropLast) hH e ?_ r.dropLast ?_, ru, q⟩
  · show its.toArray.eraseIdxIfInBounds (its.toArray.size - 1) = its.dropLast.toArray
    rw [List.size_toArray, List.eraseIdxIfInBounds_toArray, erase_last]
  · rw [List.length_dropLast]
    omega

def rPopAt : V → List V → Hp → VK → Prop := fun x vs H Q => ∃ l xs i k y, x = .ref l ∧ vs = [.int i] ∧ H l = some (.lst xs) ∧ -(2 ^ 63) ≤ i ∧ i < 2 ^ 63 ∧ seqIndex? i xs.length = some k ∧ xs[k]? = some y ∧ Q y (upd H l (.lst (xs.eraseIdx k)))
theorem mt_popAt : MtM X "list.pop" rPopAt := by
  intro pins s σ H x vs v us Q I rx rv h
  obtain ⟨l, xs, i, k, y, rfl, rfl, hH, h1, h2, hk, hy, q⟩ := h
  cases rx
  obtain ⟨u, rfl, ru⟩ := rv.one
  obtain ⟨t, rfl⟩ := ru
  obtain ⟨z, its, n, r, hl, e⟩ := I.lstM hH
  obtain ⟨w, hw, rw'⟩ := r.get hy
  refine call_meets F.slot_list_pop ⟨_, e, rfl⟩ F.entry_list_pop (F.args_list_pop_2 _ _)
    (MeetsSeq.list_pop_at l its.toArray n i t k w (fitsIndex_both h1 h2) (by rw [List.size_toArray, ← hl]; exact hk) (by rw [← Array.getElem?_toList]; exact hw) (by rw [List.size_toArray]; omega)) ⟨e, ?_⟩
  refine ⟨y, _, I.lset (its' := its.eraseIdx k) hH e ?_ (r.eraseIdx k) ?_, rw', q⟩
  · show its.toArray.eraseIdxIfInBounds k = (its.eraseIdx k).toArray
    rw [List.eraseIdxIfInBounds_toArray]
  · have := len_erase xs k
    omega

def rReverse : V → List V → Hp → VK → Prop := fun x vs H Q => ∃ l xs, x = .ref l ∧ vs = [] ∧ H l = some (.lst xs) ∧ Q .non (upd H l (.lst xs.reverse))
theorem mt_reverse : MtM X "list.reverse" rReverse := by
  intro pins s σ H x vs v us Q I rx rv h
  obtain ⟨l, xs, rfl, rfl, hH, q⟩ := h
  cases rx
  have hus := rv.zero
  subst hus
  obtain ⟨z, its, n, r, hl, e⟩ := I.lstM hH
  refine call_meets F.slot_list_reverse ⟨_, e, rfl⟩ F.entry_list_reverse (F.args_list_reverse_1 _) (AutoSeq1.list_reverse_list_0 l its.toArray n (by rw [List.size_toArray]; omega)) ⟨e, ?_⟩
  refine ⟨.non, _, I.lset (its' := its.reverse) hH e (by simp) r.reverse ?_, rfl, q⟩
  rw [List.length_reverse]
  omega

def rClear : V → List V → Hp → VK → Prop := fun x vs H Q => ∃ l xs, x = .ref l ∧ vs = [] ∧ H l = some (.lst xs) ∧ Q .non (upd H l (.lst []))
theorem mt_clear : MtM X "list.clear" rClear := by
  intro pins s σ H x vs v us Q I rx rv h
  obtain ⟨l, xs, rfl, rfl, hH, q⟩ := h
  cases rx
  have hus := rv.zero
  subst hus
  obtain ⟨z, its, n, r, hl, e⟩ := I.lstM hH
  refine call_meets F.slot_list_clear ⟨_, e, rfl⟩ F.entry_list_clear (F.args_list_clear_1 _) (AutoSeq1.list_clear_list_0 l its.toArray n (by rw [List.size_toArray]; omega)) ⟨e, ?_⟩
  exact ⟨.non, _, I.lset (its' := []) (ys := []) hH e rfl .nil (Nat.zero_le _), rfl, q⟩

/-! ### list + list, list += list, list * int -/
def rCat : R2 := fun x y H Q => ∃ l b xs zs, x = .ref l ∧ y = .ref b ∧ H l = some (.lst xs) ∧ H b = some (.lst zs) ∧ xs.length + zs.length ≤ sizeLine ∧ ∀ p, H p = none → Q (.ref p) (upd H p (.lst (xs ++ zs)))
theorem op_cat : OpR X (binaryOp .Add) rCat := by
  intro pins s σ H x y v u Q I rx ry h
  obtain ⟨l, b, xs, zs, rfl, rfl, hH, hB, hz, q⟩ := h
  cases rx
  cases ry
  obtain ⟨z, its, n, r, hl, e⟩ := I.lstM hH
  obtain ⟨z2, its2, n2, r2, hl2, e2⟩ := I.lstM hB
  refine PySem.P.add_list e e2 ?_ (by rw [List.size_toArray, List.size_toArray]; omega)
  have ea : its.toArray ++ its2.toArray = (its ++ its2).toArray := by simp
  rw [ea]
  exact ⟨.ref _, _, I.lnew (t' := s.toks) (r.append r2) (by rw [List.length_append]; omega), rfl, q _ I.fresh⟩
/-- a list times an int (a negative one is nothing) -/
def rRep : R2 := fun x y H Q => ∃ l k xs, x = .ref l ∧ y = .int k ∧ H l = some (.lst xs) ∧ -(2 ^ 63) ≤ k ∧ k < 2 ^ 63 ∧ xs.length * k.toNat ≤ sizeLine ∧
  ∀ p, H p = none → Q (.ref p) (upd H p (.lst (List.replicate k.toNat xs).flatten))
theorem len_rep {α : Type} (xs : List α) (k : Nat) : (List.replicate k xs).flatten.length = k * xs.length := by
  induction k with
  | zero => simp
  | succ k ih => rw [List.replicate_succ, List.flatten_cons, List.length_append, ih, Nat.succ_mul, Nat.add_comm]
theorem op_rep : OpR X (binaryOp .Mult) rRep := by
  intro pins s σ H x y v u Q I rx ry h
  obtain ⟨l, k, xs, rfl, rfl, hH, h1, h2, hz, q⟩ := h
  cases rx
  obtain ⟨t, rfl⟩ := ry
  obtain ⟨z, its, n, r, hl, e⟩ := I.lstM hH
  have hlen : its.toArray.size * k.toNat ≤ sizeLine := by rw [List.size_toArray, ← hl]; exact hz
  have hcap : ¬ its.toArray.size * k.toNat > (2 ^ 63 - 1) / 8 := by
    have : (sizeLine : Nat) ≤ (2 ^ 63 - 1) / 8 := by decide
    omega
  have hfit : ¬ (!Builtin.List.listFitsIndex k) = true := by
    rw [fitsIndex_both h1 h2]
    exact Bool.false_ne_true
  have hlong : ¬ Builtin.List.listTooLong (its.toArray.size * k.toNat) = true := by
    rw [notLongL hlen]
    exact Bool.false_ne_true
  have hnew : List.foldl (fun x1 x2 => x1 ++ x2) #[] (List.replicate (if its.toArray.isEmpty = true then 0 else k.toNat) its.toArray) = (List.replicate k.toNat its).flatten.toArray := by
    have f0 : ∀ m : Nat, List.foldl (fun x1 x2 => x1 ++ x2) #[] (List.replicate m its.toArray) = (List.replicate m its).flatten.toArray := fun m => by
      have := foldl_rep its m []
      rw [List.nil_append] at this
      exact this
    rw [f0]
    cases its with
    | nil => simp
    | cons a r' => rw [if_neg (by simp)]
  refine wpAny_binaryOp_repeat_ref (T := "list") (U := "int") (by decide) ⟨_, e, rfl⟩ (fun s' => typeIs_int s' k t) noFill_list_mul F.fills_int_mul F.slot_int_rmul repeat_list F.slot_int_index.lookup
    (call_meets F.slot_int_rmul (typeIs_int s k t) F.entry_int_rmul (F.args_int_rmul_2 _ _) (int___rmul___int_list k t l its.toArray n)
      ⟨e, rfl, ⟨_, e, rfl⟩, call_meets F.slot_list_mul ⟨_, e, rfl⟩ F.entry_list_mul (F.args_list_mul_2 _ _) (AutoListH.list___mul___list_int_3 l its.toArray n k t hfit hcap hlong) ⟨e, ?_⟩⟩)
  rw [hnew]
  exact ⟨.ref _, _, I.lnew (t' := s.toks) (r.rep k.toNat) (by rw [len_rep, Nat.mul_comm]; exact hz), rfl, q _ I.fresh⟩

/-! ### del xs[i] -/
theorem del_list {pins : List (Addr × Obj)} {s : Shared} {σ : St} {H : Hp} {l : Addr} {xs : List V} {i : Int} {t : Tok} {k : Nat} {Q : Unit → Shared → Prop} (I : Inv X pins σ H s) (hH : H l = some (.lst xs))
    (h1 : -(2 ^ 63) ≤ i) (h2 : i < 2 ^ 63) (hk : seqIndex? i xs.length = some k) (h : ∀ s', Inv X pins σ (upd H l (.lst (xs.eraseIdx k))) s' → Q () s') :
    wpAny (model X.prog X.w) X.A (delItem (.ref l) (.int i t)) Q X.xe s := by
  obtain ⟨z, its, n, r, hl, e⟩ := I.lstM hH
  refine PySem.P.delItem_list (k := k) e (fitsIndex_both h1 h2) (by rw [List.size_toArray, ← hl]; exact hk) (h _ ?_) (by rw [List.size_toArray]; omega)
  refine I.lset (its' := its.eraseIdx k) (t' := s.toks) hH e ?_ (r.eraseIdx k) ?_
  · show its.toArray.eraseIdxIfInBounds k = (its.eraseIdx k).toArray
    rw [List.eraseIdxIfInBounds_toArray]
  · have := len_erase xs k
    omega
end

/-! ### xs[a:b] = ys -/
section
variable {prog : Program} {w : World} {A : Around} {E : Value → Shared → Prop} {s : Shared}
theorem splice_eq (its its2 : List Value) (a c : Nat) : its.toArray.extract 0 a ++ its2.toArray ++ its.toArray.extract c its.toArray.size = (its.take a ++ its2 ++ its.drop c).toArray := by
  apply Array.toList_inj.mp
  first
    | (simp
       exact List.take_of_length_le (by simp))
    | simp [List.take_of_length_le]
    | simp
theorem bounds_run {a c n : Nat} (hac : a ≤ c) (hc : c ≤ n) : sliceBounds (some (a : Int)) (some (c : Int)) none n = ((a : Int), (c : Int), 1) := by
  simp only [sliceBounds, Option.getD_none]
  have h1 : ¬ ((a : Int) < 0) := by omega
  have h2 : ¬ ((c : Int) < 0) := by omega
  simp only [h1, h2, if_false, show (1 : Int) > 0 by decide, if_true]
  congr 1
  · omega
  · congr 1; omega
set_option maxRecDepth 100000 in
/-- list.__setitem__ with a slice of step one and another list -/
theorem setItem_slice {l b sl : Addr} {items new : Array Value} {n n2 : Nat} {vl vu : Value} {a c : Nat} {Q : Unit → Shared → Prop}
    (e : s.heap.get? l = some { cls := .type "list", data := .seq items n }) (e2 : s.heap.get? b = some { cls := .type "list", data := .seq new n2 }) (hne : l ≠ b)
    (hs : s.heap.IsSliceOf sl vl vu .none) (pl : IsPart vl (some (a : Int))) (pu : IsPart vu (some (c : Int))) (hac : a ≤ c) (hc : c ≤ items.size)
    (hsz : items.size + new.size ≤ sizeLine) (h : Q () { s with heap := s.heap.update l (Obj.mapSeq fun xs => xs.extract 0 a ++ new ++ xs.extract c xs.size) }) :
    wpAny (model prog w) A (setItem (.ref l) (.ref sl) (.ref b)) Q E s := by
  have hl : s.heap.IsList l items := PySem.IsL.isList e
  have hb : s.heap.IsList b new := PySem.IsL.isList e2
  obtain ⟨os, hos, hcs, hds⟩ := id hs
  have hTs : s.TypeIs (.ref sl) "slice" := ⟨os, hos, hcs⟩
  have hstep : ¬ ((rawPart none == rawInt 0) = true) := Bool.false_ne_true
  have hsame : Builtin.List.listSameRef (.ref l) (.ref b) = false := by
    unfold Builtin.List.listSameRef
    exact beq_eq_false_iff_ne.mpr hne
  have hmax : (max (a : Int) (c : Int)).toNat = c := by omega
  have hz' : ((fun xs : Array Value => xs.extract 0 a ++ new ++ xs.extract c xs.size) items).size ≤ sizeLine + 1 := by
    simp only [Array.size_append, Array.size_extract]
    omega
  unfold setItem
  try with_reducible refine wpAny_holding ?_
  first | refine wpAny_bind (wpAny_pure ?_) | skip
  refine wpAny_bind (wpAny_sequenceKey hl.typeIs (by decide) ?_)
  refine wpAny_bind (wpAny_callSpecial?_slot (name := Str.ofString "__setitem__") hl.typeIs slot_list_setitem
    (wpAny_call_entry slot_list_setitem hl.typeIs entry_list_setitem ?_ (args_list_setitem _ _ _)))
  show wpAny _ _ (Builtin.List.listSubscript? (.ref sl) >>= _) _ _ s
  refine wpAny_bind ?_
  unfold Builtin.List.listSubscript?
  refine wpAny_bind (wpAny_specialOf hTs slice_no_index ?_)
  simp only [Option.isNone_none, if_true]
  refine wpAny_pure ?_
  show wpAny _ _ (typeOf (.ref sl) >>= _) _ _ s
  refine wpAny_bind (wpAny_typeOf hTs ?_)
  first
    | rw [if_neg (by decide)]
    | refine PySem.W.KFB.if_not (by decide) ?_
  rw [listSliceParts_eq]
  refine wpAny_bind (wpAny_bind (wpAny_field hos hds (x := .none) rfl (wpAny_bind (wpAny_listPart .none ?_))))
  rw [if_neg hstep]
  refine wpAny_bind (wpAny_field hos hds (x := vl) rfl (wpAny_bind (wpAny_listPart pl ?_)))
  refine wpAny_bind (wpAny_field hos hds (x := vu) rfl (wpAny_bind (wpAny_listPart pu (wpAny_pure ?_))))
  first
    | simp only [hsame, Bool.false_eq_true, if_false]
    | refine PySem.W.KFB.if_not hsame ?_
    | (dsimp only
       rw [if_neg (by rw [hsame]; exact Bool.false_ne_true)])
  refine wpAny_bind (m := Builtin.List.listAllItems (.ref b) "must assign iterable to extended slice") ?_
  unfold Builtin.List.listAllItems
  refine wpAny_bind (wpAny_typeOf hb.typeIs ?_)
  first
    | refine PySem.W.KFB.if_so (by decide) ?_
    | rw [if_pos (by decide)]
    | simp only [beq_self_eq_true, Bool.true_or, if_true]
  unfold Builtin.List.listItems
  refine wpAny_bind (wpAny_seqItems e2 rfl (wpAny_pure ?_))
  refine wpAny_bind (wpAny_bind (wpAny_seqItems e rfl (wpAny_pure ?_)))
  refine wpAny_bind (wpAny_of_eq ((sliceIndices_raw (some (a : Int)) (some (c : Int)) none items.size (by simp)).trans (congrArg (pure : Int × Int × Int → Sem (Int × Int × Int)) (bounds_run hac hc))) ?_)
  show wpAny _ _ (if ((1 : Int) == 1) = true then _ else _) _ _ s
  rw [if_pos (by decide)]
  refine wpAny_bind (wpAny_rule ?_)
  first
    | simp only [notLongL hsz, Bool.false_eq_true, if_false]
    | refine PySem.W.KFB.if_not (notLongL hsz) ?_
  first | refine wpAny_bind (wpAny_pure ?_) | skip
  show wpAny _ _ (updateSeq l (fun xs => xs.extract 0 ((a : Int)).toNat ++ new ++ xs.extract (max (a : Int) (c : Int)).toNat xs.size) >>= _) _ _ s
  rw [hmax, Int.toNat_natCast]
  refine wpAny_bind (wpAny_updateSeq (hz := Nat.le_trans (Nat.le_add_right _ _) hsz) (_hz' := hz') e rfl ?_)
  refine wpAny_bind (wpAny_letGo ?_)
  first
    | exact wpAny_bind (wpAny_pure (wpAny_pure ⟨.none, rfl, wpAny_pure h⟩))
    | exact wpAny_pure ⟨.none, rfl, wpAny_pure h⟩
end

section
variable {X : Cx}
/-- xs[a:c] = ys of another list, at the value level: sl is the slice object that was just made -/
theorem set_slice {pins : List (Addr × Obj)} {s : Shared} {σ : St} {H : Hp} {l b sl : Addr} {xs ys : List V} {a c : Int} {vl vu : Value} {Q : Unit → Shared → Prop} (I : Inv X pins σ H s)
    (hH : H l = some (.lst xs)) (hB : H b = some (.lst ys)) (hne : l ≠ b) (hs : s.heap.IsSliceOf sl vl vu .none) (ra : RelV (.int a) vl) (rc : RelV (.int c) vu) (h0 : 0 ≤ a) (hac : a ≤ c) (hc : c ≤ xs.length)
    (hz : xs.length + ys.length ≤ sizeLine) (h : ∀ s', Inv X pins σ (upd H l (.lst (xs.take a.toNat ++ ys ++ xs.drop c.toNat))) s' → Q () s') :
    wpAny (model X.prog X.w) X.A (setItem (.ref l) (.ref sl) (.ref b)) Q X.xe s := by
  obtain ⟨ta, rfl⟩ := ra
  obtain ⟨tc, rfl⟩ := rc
  obtain ⟨z, its, n, r, hl, e⟩ := I.lstM hH
  obtain ⟨z2, its2, n2, r2, hl2, e2⟩ := I.lstM hB
  obtain ⟨a', rfl⟩ := Int.eq_ofNat_of_zero_le h0
  obtain ⟨c', rfl⟩ := Int.eq_ofNat_of_zero_le (Int.le_trans h0 hac)
  simp only [Int.toNat_natCast] at h
  refine setItem_slice (a := a') (c := c') e e2 hne hs (.int _ _) (.int _ _) (by omega) (by rw [List.size_toArray]; omega) (by rw [List.size_toArray, List.size_toArray]; omega) (h _ ?_)
  refine I.lset (its' := its.take a' ++ its2 ++ its.drop c') (t' := s.toks) hH e ?_ (Vals.append (Vals.append (r.take _) r2) (r.drop _)) ?_
  · exact splice_eq its its2 a' c'
  · rw [List.length_append, List.length_append, List.length_take, List.length_drop]
    omega
end
end L2

namespace L2
open PySem PySem.Spec PyProof.Rows

/-! ### lists of pairs as tables -/
section
variable {κ : Type} [DecidableEq κ]
def valV (kvs : List (κ × V)) (k : κ) : Option V := (kvs.find? fun kv => decide (kv.1 = k)).map (·.2)
/-- in its place, or at the end -/
def putK (kvs : List (κ × V)) (k : κ) (v : V) : List (κ × V) :=
  if (kvs.any fun kv => decide (kv.1 = k)) = true then kvs.map (fun kv => if kv.1 = k then (kv.1, v) else kv) else kvs ++ [(k, v)]
def dropK (kvs : List (κ × V)) (k : κ) : List (κ × V) := kvs.filter fun kv => decide (kv.1 ≠ k)

theorem valV_nil {k : κ} : valV ([] : List (κ × V)) k = none := rfl
theorem valV_pos {p : κ × V} {r : List (κ × V)} {k : κ} (e : p.1 = k) : valV (p :: r) k = some p.2 := by simp [valV, List.find?_cons, e]
theorem valV_neg {p : κ × V} {r : List (κ × V)} {k : κ} (e : ¬ p.1 = k) : valV (p :: r) k = valV r k := by simp [valV, List.find?_cons, e]
theorem valV_any (k : κ) : ∀ kvs : List (κ × V), (kvs.any fun kv => decide (kv.1 = k)) = (valV kvs k).isSome
  | [] => rfl
  | p :: r => by
    rw [List.any_cons]
    by_cases e : p.1 = k
    · simp only [valV_pos e, decide_eq_true e, Bool.true_or, Option.isSome_some]
    · rw [valV_neg e, decide_eq_false e, Bool.false_or]; exact valV_any k r
theorem valV_map (k j : κ) (y : V) : ∀ kvs : List (κ × V), valV (kvs.map fun kv => if kv.1 = k then (kv.1, y) else kv) j = (valV kvs j).map fun x => if j = k then y else x
  | [] => rfl
  | p :: r => by
    have ih := valV_map k j y r
    rw [List.map_cons]
    by_cases h : p.1 = k
    · rw [if_pos h]
      by_cases e : p.1 = j
      · rw [valV_pos (p := (p.1, y)) e, valV_pos e, Option.map_some, if_pos (e.symm.trans h)]
      · rw [valV_neg (p := (p.1, y)) e, valV_neg e, ih]
    · rw [if_neg h]
      by_cases e : p.1 = j
      · rw [valV_pos (p := p) e, valV_pos e, Option.map_some, if_neg (fun z => h (e.trans z))]
      · rw [valV_neg (p := p) e, valV_neg e, ih]
theorem valV_snoc (k j : κ) (y : V) : ∀ kvs : List (κ × V), valV kvs k = none → valV (kvs ++ [(k, y)]) j = if j = k then some y else valV kvs j
  | [], _ => by
    by_cases e : k = j
    · rw [if_pos e.symm]; exact valV_pos (p := (k, y)) e
    · rw [if_neg (fun z => e z.symm)]; exact valV_neg (p := (k, y)) e
  | p :: r, hn => by
    rw [List.cons_append]
    have hk : ¬ p.1 = k := fun z => by rw [valV_pos z] at hn; cases hn
    rw [valV_neg hk] at hn
    have ih := valV_snoc k j y r hn
    by_cases e : p.1 = j
    · rw [valV_pos e, valV_pos e, if_neg (fun z => hk (e.trans z))]
    · rw [valV_neg e, valV_neg e, ih]
theorem valV_put (kvs : List (κ × V)) (k j : κ) (y : V) : valV (putK kvs k y) j = if j = k then some y else valV kvs j := by
  unfold putK
  by_cases a : (kvs.any fun kv => decide (kv.1 = k)) = true
  · rw [if_pos a, valV_map]
    rw [valV_any] at a
    by_cases e : j = k
    · obtain ⟨x, hx⟩ := Option.isSome_iff_exists.mp a
      rw [if_pos e, e, hx, Option.map_some, if_pos rfl]
    · rw [if_neg e]
      cases valV kvs j with
      | none => rfl
      | some x => rw [Option.map_some, if_neg e]
  · rw [if_neg a]
    refine valV_snoc k j y kvs ?_
    rw [valV_any] at a
    cases q : valV kvs k with
    | none => rfl
    | some x => rw [q] at a; exact (a rfl).elim
theorem length_putK (kvs : List (κ × V)) (k : κ) (v : V) : (putK kvs k v).length ≤ kvs.length + 1 := by
  unfold putK
  split
  · rw [List.length_map]; omega
  · rw [List.length_append, List.length_cons, List.length_nil]; omega
theorem putK_new {kvs : List (κ × V)} {k : κ} (v : V) (h : valV kvs k = none) : putK kvs k v = kvs ++ [(k, v)] := by
  unfold putK
  rw [valV_any, h]
  exact if_neg (by decide)

theorem RelO.isSome_eq {o : Option V} {u : Option Value} (r : RelO o u) : o.isSome = u.isSome := by
  cases o with
  | none => cases u with
    | none => rfl
    | some _ => exact (show False from r).elim
  | some _ => cases u with
    | none => exact (show False from r).elim
    | some _ => rfl
theorem RelO.getD {o : Option V} {u : Option Value} {d : V} {d' : Value} (r : RelO o u) (rd : RelV d d') : RelV (o.getD d) (u.getD d') := by
  cases o with
  | none => cases u with
    | none => exact rd
    | some _ => exact (show False from r).elim
  | some _ => cases u with
    | none => exact (show False from r).elim
    | some _ => exact r

/-- raw tables of the same keys -/
theorem KV.val {kvs : List (κ × V)} {vs : List (κ × Value)} (r : KV kvs vs) (k : κ) : RelO (valV kvs k) (valueAt vs k) := by
  unfold KV at r
  induction r with
  | nil => exact True.intro
  | @cons p q ps qs h t ih =>
    obtain ⟨h1, h2⟩ := h
    by_cases e : p.1 = k
    · have e' : q.1 = k := h1.symm.trans e
      have b : valueAt (q :: qs) k = some q.2 := by simp [valueAt, List.find?_cons, e']
      rw [valV_pos e, b]; exact h2
    · have e' : ¬ q.1 = k := fun z => e (h1.trans z)
      have b : valueAt (q :: qs) k = valueAt qs k := by simp [valueAt, List.find?_cons, e']
      rw [valV_neg e, b]; exact ih
theorem KV.any {kvs : List (κ × V)} {vs : List (κ × Value)} (r : KV kvs vs) (k : κ) : (kvs.any fun kv => decide (kv.1 = k)) = vs.any fun kv => decide (kv.1 = k) := by
  unfold KV at r
  induction r with
  | nil => rfl
  | cons h t ih => rw [List.any_cons, List.any_cons, ih, h.1]
theorem KV.repl {kvs : List (κ × V)} {vs : List (κ × Value)} (r : KV kvs vs) (k : κ) {y : V} {u : Value} (ry : RelV y u) :
    KV (kvs.map fun kv => if kv.1 = k then (kv.1, y) else kv) (vs.map fun kv => if kv.1 = k then (kv.1, u) else kv) := by
  unfold KV at r ⊢
  induction r with
  | nil => exact .nil
  | @cons p q ps qs h t ih =>
    rw [List.map_cons, List.map_cons]
    refine .cons ?_ ih
    obtain ⟨h1, h2⟩ := h
    by_cases e : p.1 = k
    · rw [if_pos e, if_pos (h1.symm.trans e)]; exact ⟨h1, ry⟩
    · rw [if_neg e, if_neg (fun z => e (h1.trans z))]; exact ⟨h1, h2⟩
theorem KV.put {kvs : List (κ × V)} {vs : List (κ × Value)} (r : KV kvs vs) (k : κ) {y : V} {u : Value} (ry : RelV y u) : KV (putK kvs k y) (stored vs k u) := by
  unfold putK stored
  rw [r.any k]
  by_cases e : (vs.any fun kv => decide (kv.1 = k)) = true
  · rw [if_pos e, if_pos e]; exact r.repl k ry
  · rw [if_neg e, if_neg e]; exact Paired.snoc r ⟨rfl, ry⟩
theorem KV.drop {kvs : List (κ × V)} {vs : List (κ × Value)} (r : KV kvs vs) (k : κ) : KV (dropK kvs k) (without vs k) := by
  unfold KV at r ⊢
  unfold dropK without
  induction r with
  | nil => exact .nil
  | @cons p q ps qs h t ih =>
    obtain ⟨h1, h2⟩ := h
    rw [List.filter_cons, List.filter_cons]
    by_cases e : p.1 = k
    · have a : ¬ decide (p.1 ≠ k) = true := by simp [e]
      have b : ¬ decide (q.1 ≠ k) = true := by simp [h1.symm.trans e]
      rw [if_neg a, if_neg b]; exact ih
    · have e' : ¬ q.1 = k := fun z => e (h1.trans z)
      have a : decide (p.1 ≠ k) = true := by simp [e]
      have b : decide (q.1 ≠ k) = true := by simp [e']
      rw [if_pos a, if_pos b]; exact .cons ⟨h1, h2⟩ ih
theorem KV.keys {kvs : List (κ × V)} {vs : List (κ × Value)} (r : KV kvs vs) : kvs.map (·.1) = vs.map (·.1) := by
  unfold KV at r
  induction r with
  | nil => rfl
  | cons h t ih => rw [List.map_cons, List.map_cons, ih, h.1]
theorem KV.length {kvs : List (κ × V)} {vs : List (κ × Value)} (r : KV kvs vs) : kvs.length = vs.length := Paired.length r
theorem dropK_le (kvs : List (κ × V)) (k : κ) : (dropK kvs k).length ≤ kvs.length := List.length_filter_le _ _
end


/-! ### a tracked dict, its keys ints and texts or tuples of these -/
theorem kV_is {P : Program} {w : World} {k : Key} {u : Value} (r : RelV (kV k) u) : (mixKind P w).is k u = true := by
  cases k with
  | inl i => obtain ⟨t, e⟩ := (show ∃ t, u = Value.int i t from r); subst e; exact mixKind_int P w i t
  | inr x => obtain ⟨t, e⟩ := (show ∃ t, u = Value.str x t from r); subst e; exact mixKind_str P w x t
theorem kV_inj {a b : Key} (e : kV a = kV b) : a = b := by
  cases a with
  | inl i => cases b with
    | inl j => have e' : V.int i = V.int j := e; injection e' with e'; rw [e']
    | inr y => exact nomatch (show V.int i = V.str y from e)
  | inr x => cases b with
    | inl j => exact nomatch (show V.str x = V.int j from e)
    | inr y => have e' : V.str x = V.str y := e; injection e' with e'; rw [e']
theorem kVs_inj : ∀ {a b : List Key}, a.map kV = b.map kV → a = b
  | [], [], _ => rfl
  | [], _ :: _, e => by simp at e
  | _ :: _, [], e => by simp at e
  | x :: xs, y :: ys, e => by
    rw [List.map_cons, List.map_cons] at e
    injection e with e1 e2
    rw [kV_inj e1, kVs_inj e2]
theorem items_are {P : Program} {w : World} : ∀ {ks : List Key} {us : List Value}, Vals (ks.map kV) us → ItemsAre (mixKind P w) ks us
  | [], _, r => by rw [List.map_nil] at r; cases r; exact .nil
  | k :: ks, _, r => by
    rw [List.map_cons] at r
    cases r with
    | cons h t => exact .cons (kV_is h) (items_are t)

/-- raw entries of a dict with tuple keys -/
abbrev KT (H : Hp) : List (List Key × V) → List (List Key × Addr × Value) → Prop := Paired fun p q => p.1 = q.1 ∧ H q.2.1 = some (.tup (p.1.map kV)) ∧ RelV p.2 q.2.2
theorem KT.val {H : Hp} {kvs : List (List Key × V)} {xs : List (List Key × Addr × Value)} (r : KT H kvs xs) (k : List Key) : RelO (valV kvs k) ((atKey xs k).map (·.2)) := by
  induction r with
  | nil => exact True.intro
  | @cons p q ps qs h t ih =>
    obtain ⟨h1, _, h2⟩ := h
    by_cases e : p.1 = k
    · have e' : q.1 = k := h1.symm.trans e
      have b : atKey (q :: qs) k = some q.2 := by simp [atKey, List.find?_cons, e']
      rw [valV_pos e, b]; exact h2
    · have e' : ¬ q.1 = k := fun z => e (h1.trans z)
      have b : atKey (q :: qs) k = atKey qs k := by simp [atKey, List.find?_cons, e']
      rw [valV_neg e, b]; exact ih
theorem KT.repl {H : Hp} {kvs : List (List Key × V)} {xs : List (List Key × Addr × Value)} (r : KT H kvs xs) (k : List Key) {y : V} {u : Value} (ry : RelV y u) :
    KT H (kvs.map fun kv => if kv.1 = k then (kv.1, y) else kv) (xs.map (putAt k u)) := by
  induction r with
  | nil => exact .nil
  | @cons p q ps qs h t ih =>
    rw [List.map_cons, List.map_cons]
    refine .cons ?_ ih
    obtain ⟨h1, h2, h3⟩ := h
    unfold putAt
    by_cases e : p.1 = k
    · rw [if_pos e, if_pos (h1.symm.trans e)]; exact ⟨h1, h2, ry⟩
    · rw [if_neg e, if_neg (fun z => e (h1.trans z))]; exact ⟨h1, h2, h3⟩
theorem KT.put {H : Hp} {kvs : List (List Key × V)} {xs : List (List Key × Addr × Value)} (r : KT H kvs xs) (k : List Key) {b : Addr} {y : V} {u : Value} (hb : H b = some (.tup (k.map kV))) (ry : RelV y u) :
    KT H (putK kvs k y) (storedH xs k b u) := by
  have e : (kvs.any fun kv => decide (kv.1 = k)) = (atKey xs k).isSome := by
    rw [valV_any, (r.val k).isSome_eq, Option.isSome_map]
  unfold putK storedH
  rw [e]
  by_cases q : (atKey xs k).isSome = true
  · rw [if_pos q, if_pos q]; exact r.repl k ry
  · rw [if_neg q, if_neg q]; exact Paired.snoc r ⟨rfl, hb, ry⟩
theorem KT.keeps {H H' : Hp} {kvs : List (List Key × V)} {xs : List (List Key × Addr × Value)} (r : KT H kvs xs) (ht : ∀ b ys, H b = some (.tup ys) → H' b = some (.tup ys)) : KT H' kvs xs :=
  Paired.mapP r fun _ _ z => ⟨z.1, ht _ _ z.2.1, z.2.2⟩

section
variable {P : Program} {w : World} {H : Hp} {h : Heap} {a : Addr}
theorem rd_of {u : HO} (ok : HOk P w H h) (e : Rd H a u) : ObjOk P w H h a u := e.ok ok
theorem dk_rd {kvs : List (Key × V)} (ok : HOk P w H h) (e : Rd H a (.dK kvs)) : kvs.length ≤ sizeLine ∧ (a == sysModules) = false ∧ ∃ vs, KV kvs vs ∧ h.DictOf (mixKind P w) a vs :=
  show ObjOk P w H h a (.dK kvs) from rd_of ok e
theorem dk_of {kvs : List (Key × V)} (ok : HOk P w H h) (e : H a = some (.dK kvs)) : kvs.length ≤ sizeLine ∧ (a == sysModules) = false ∧ ∃ vs, KV kvs vs ∧ h.DictOf (mixKind P w) a vs := dk_rd ok (.inl e)
/-- a tracked tuple of ints and texts is a key -/
theorem key_of {ks : List Key} (ok : HOk P w H h) (e : H a = some (.tup (ks.map kV))) : (tupleKind (mixKind P w)).is h ks a := by
  obtain ⟨_, its, r, o, h1, h2, n, h3⟩ := (show ObjOk P w H h a (.tup (ks.map kV)) from ok a _ e)
  exact ⟨o, its.toArray, n, h1, h2, h3, by simpa using items_are r⟩
theorem dt_rd {kvs : List (List Key × V)} (ok : HOk P w H h) (e : Rd H a (.dT kvs)) : kvs.length ≤ sizeLine ∧ (a == sysModules) = false ∧
    ∃ xs, KT H kvs xs ∧ h.DictOfH (tupleKind (mixKind P w)) a xs := by
  obtain ⟨z, y, xs, r, o, es, ep, h1, h2, h3, h4, h5⟩ := (show ObjOk P w H h a (.dT kvs) from rd_of ok e)
  refine ⟨z, y, xs, r, o, es, ep, h1, h2, h3, h4, fun x hx => ?_, h5⟩
  have all : ∀ {l : List (List Key × V)} {m : List (List Key × Addr × Value)}, KT H l m → ∀ x ∈ m, (tupleKind (mixKind P w)).is h x.1 x.2.1 := by
    intro l m q
    induction q with
    | nil => intro x hx; exact nomatch hx
    | @cons p q ps qs hq t ih =>
      intro x hx
      rcases List.mem_cons.mp hx with e | hx
      · subst e
        exact key_of ok (by rw [← hq.1]; exact hq.2.1)
      · exact ih x hx
  exact all r x hx
theorem dt_of {kvs : List (List Key × V)} (ok : HOk P w H h) (e : H a = some (.dT kvs)) : kvs.length ≤ sizeLine ∧ (a == sysModules) = false ∧
    ∃ xs, KT H kvs xs ∧ h.DictOfH (tupleKind (mixKind P w)) a xs := dt_rd ok (.inl e)
end

/-- what the dict at a holds at the key y -/
def DGet (H : Hp) (a : Addr) (y : V) (r : Option V) : Prop :=
  (∃ kvs k, Rd H a (.dK kvs) ∧ y = kV k ∧ r = valV kvs k) ∨ ∃ kvs k b, Rd H a (.dT kvs) ∧ y = .ref b ∧ H b = some (.tup (k.map kV)) ∧ r = valV kvs k
/-- the heap behind a[y] = v -/
def DPut (H : Hp) (a : Addr) (y v : V) (H' : Hp) : Prop :=
  (∃ kvs k, H a = some (.dK kvs) ∧ y = kV k ∧ kvs.length < sizeLine ∧ H' = upd H a (.dK (putK kvs k v))) ∨
  ∃ kvs k b, H a = some (.dT kvs) ∧ y = .ref b ∧ H b = some (.tup (k.map kV)) ∧ kvs.length < sizeLine ∧ H' = upd H a (.dT (putK kvs k v))
theorem DGet.k {H : Hp} {a : Addr} {kvs : List (Key × V)} {k : Key} (e : H a = some (.dK kvs)) : DGet H a (kV k) (valV kvs k) := .inl ⟨kvs, k, .inl e, rfl, rfl⟩
theorem DGet.t {H : Hp} {a b : Addr} {kvs : List (List Key × V)} {k : List Key} (e : H a = some (.dT kvs)) (eb : H b = some (.tup (k.map kV))) : DGet H a (.ref b) (valV kvs k) := .inr ⟨kvs, k, b, .inl e, rfl, eb, rfl⟩
theorem DPut.k {H : Hp} {a : Addr} {kvs : List (Key × V)} {k : Key} {v : V} (e : H a = some (.dK kvs)) (hl : kvs.length < sizeLine) : DPut H a (kV k) v (upd H a (.dK (putK kvs k v))) := .inl ⟨kvs, k, e, rfl, hl, rfl⟩
theorem DPut.t {H : Hp} {a b : Addr} {kvs : List (List Key × V)} {k : List Key} {v : V} (e : H a = some (.dT kvs)) (eb : H b = some (.tup (k.map kV))) (hl : kvs.length < sizeLine) :
    DPut H a (.ref b) v (upd H a (.dT (putK kvs k v))) := .inr ⟨kvs, k, b, e, rfl, eb, hl, rfl⟩


section
variable {X : Cx} {pins : List (Addr × Obj)} {σ : St} {H : Hp} {s : Shared} {a : Addr} {y v : V} {u r : Value} {o : Option V} {A : Around} {E : Value → Shared → Prop}

theorem Inv.big (I : Inv X pins σ H s) : sysModules < s.heap.objs.size := by
  have h : mainGlobals < s.heap.objs.size := (I.mod.glob.keeps I.bk).lt
  exact Nat.lt_trans (by decide) h

/-- d[y], there -/
theorem d_getItem {Q : Value → Shared → Prop} (hu : A.units + 1 < cLine) (I : Inv X pins σ H s) (g : DGet H a y (some v)) (ry : RelV y u) (h : ∀ w' s', Inv X pins σ H s' → RelV v w' → Q w' s') :
    wpAny (model X.prog X.w) A (getItem (.ref a) u) Q E s := by
  rcases g with ⟨kvs, k, e, ey, l⟩ | ⟨kvs, k, b, e, ey, eb, l⟩
  · subst ey
    obtain ⟨z, hd, vs, rel, dd⟩ := dk_rd I.hok e
    obtain ⟨w', hw, rw'⟩ := RelO.some_of (v := v) (o := valueAt vs k) (by rw [l]; exact rel.val k)
    exact wpAny_getItem_of (kV_is ry) dd.mapOf hw (h w' _ (I.tok _) rw')
  · subst ey
    cases (show u = Value.ref b from ry)
    obtain ⟨z, hd, xs, rel, dd⟩ := dt_rd I.hok e
    obtain ⟨w', hw, rw'⟩ := RelO.some_of (v := v) (o := (atKey xs k).map (·.2)) (by rw [l]; exact rel.val k)
    obtain ⟨p, hp, hp2⟩ := Option.map_eq_some_iff.mp hw
    refine wpAny_getItem_heap (tupleKind_room_in1 hu) (key_of I.hok eb) dd hp ?_
    rw [hp2]
    exact h w' _ (I.tok _) rw'
/-- y in d -/
theorem d_in {Q : Value → Shared → Prop} (hu : A.units + 1 < cLine) (I : Inv X pins σ H s) (g : DGet H a y o) (ry : RelV y u) (h : ∀ s', Inv X pins σ H s' → Q (.bool o.isSome) s') :
    wpAny (model X.prog X.w) A (compareOp .In u (.ref a)) Q E s := by
  rcases g with ⟨kvs, k, e, ey, l⟩ | ⟨kvs, k, b, e, ey, eb, l⟩
  · subst ey
    obtain ⟨z, hd, vs, rel, dd⟩ := dk_rd I.hok e
    refine wpAny_in_of (kV_is ry) hd dd.mapOf ?_
    rw [← (rel.val k).isSome_eq, ← l]
    exact h _ (I.tok _)
  · subst ey
    cases (show u = Value.ref b from ry)
    obtain ⟨z, hd, xs, rel, dd⟩ := dt_rd I.hok e
    refine wpAny_in_heap (tupleKind_room_in1 hu) (key_of I.hok eb) hd dd ?_
    have q := (rel.val k).isSome_eq
    rw [Option.isSome_map] at q
    rw [← q, ← l]
    exact h _ (I.tok _)
theorem d_notIn {Q : Value → Shared → Prop} (hu : A.units + 1 < cLine) (I : Inv X pins σ H s) (g : DGet H a y o) (ry : RelV y u) (h : ∀ s', Inv X pins σ H s' → Q (.bool (!o.isSome)) s') :
    wpAny (model X.prog X.w) A (compareOp .NotIn u (.ref a)) Q E s := by
  rcases g with ⟨kvs, k, e, ey, l⟩ | ⟨kvs, k, b, e, ey, eb, l⟩
  · subst ey
    obtain ⟨z, hd, vs, rel, dd⟩ := dk_rd I.hok e
    refine wpAny_notIn_of (kV_is ry) hd dd.mapOf ?_
    rw [← (rel.val k).isSome_eq, ← l]
    exact h _ (I.tok _)
  · subst ey
    cases (show u = Value.ref b from ry)
    obtain ⟨z, hd, xs, rel, dd⟩ := dt_rd I.hok e
    refine wpAny_notIn_heap (tupleKind_room_in1 hu) (key_of I.hok eb) hd dd ?_
    have q := (rel.val k).isSome_eq
    rw [Option.isSome_map] at q
    rw [← q, ← l]
    exact h _ (I.tok _)
/-- a dict's object is replaced -/
theorem d_write {h' : Heap} {t' : Nat} {ob : HO} (I : Inv X pins σ H s) (mu : Mut (H a)) (hs : Heap.SameBut a s.heap h') (he : ∃ q, h'.get? a = some q) (new : ObjOk X.prog X.w (upd H a ob) h' a ob) :
    Inv X pins σ (upd H a ob) { s with heap := h', toks := t' } :=
  I.write (x := a) (e := a) mu (.inl rfl) (fun b q hb z => (hs.2 b hb).trans z) he new
theorem dk_new {P : Program} {w : World} {H' : Hp} {h' : Heap} {kvs : List (Key × V)} {vs : List (Key × Value)} (z : kvs.length ≤ sizeLine) (hd : (a == sysModules) = false) (rel : KV kvs vs) (dd : h'.DictOf (mixKind P w) a vs) :
    ObjOk P w H' h' a (.dK kvs) := ⟨z, hd, vs, rel, dd⟩
/-- d[y] = v -/
theorem d_setItem {H' : Hp} {Q : Unit → Shared → Prop} (hu : A.units + 1 < cLine) (I : Inv X pins σ H s) (g : DPut H a y v H') (ry : RelV y u) (rv : RelV v r) (h : ∀ s', Inv X pins σ H' s' → Q () s') :
    wpAny (model X.prog X.w) A (setItem (.ref a) u r) Q E s := by
  rcases g with ⟨kvs, k, e, ey, l, eH⟩ | ⟨kvs, k, b, e, ey, eb, l, eH⟩
  · subst ey eH
    obtain ⟨z, hd, vs, rel, dd⟩ := dk_of I.hok e
    have hz : vs.length ≤ sizeLine := by rw [← rel.length]; exact z
    have hl : (putK kvs k v).length ≤ sizeLine := by have := length_putK kvs k v; omega
    refine wpAny_setItem_pairs (hsz := hz) (kV_is ry) dd fun h' dd' hs => h _ ?_
    have he : ∃ q, h'.get? a = some q := let ⟨q, _, _, hq, _⟩ := dd'; ⟨q, hq⟩
    exact d_write I (by rw [e]; exact True.intro) hs he (dk_new hl hd (rel.put k rv) dd')
  · subst ey eH
    cases (show u = Value.ref b from ry)
    obtain ⟨z, hd, xs, rel, dd⟩ := dt_of I.hok e
    have hz : xs.length ≤ sizeLine := by rw [← Paired.length rel]; exact z
    have hl : (putK kvs k v).length ≤ sizeLine := by have := length_putK kvs k v; omega
    refine wpAny_setItem_heap (hsz := hz) (tupleKind_room_in1 hu) (key_of I.hok eb) dd fun h' dd' hs => h _ ?_
    obtain ⟨q, es, ep, hq, h2, h3, h4, _, h5⟩ := dd'
    refine d_write I (by rw [e]; exact True.intro) hs ⟨q, hq⟩ ⟨hl, hd, _, (rel.put k eb rv).keeps fun c ys ec => ?_, q, es, ep, hq, h2, h3, h4, h5⟩
    rw [upd_ne (ne_of ec e (fun z => nomatch z))]
    exact ec
end

section
variable {X : Cx} {pins : List (Addr × Obj)} {σ : St} {H : Hp} {s : Shared} {a : Addr} {kvs : List (Key × V)} {k : Key} {u : Value} {A : Around} {E : Value → Shared → Prop}
/-- del d[k] -/
theorem d_delItem {Q : Unit → Shared → Prop} (I : Inv X pins σ H s) (e : H a = some (.dK kvs)) (ry : RelV (kV k) u) (l : (valV kvs k).isSome = true) (h : ∀ s', Inv X pins σ (upd H a (.dK (dropK kvs k))) s' → Q () s') :
    wpAny (model X.prog X.w) A (delItem (.ref a) u) Q E s := by
  obtain ⟨z, hd, vs, rel, dd⟩ := dk_of I.hok e
  refine wpAny_delItem_slot dd.typeIs (by decide) PySem.F.slot_dict_delitem
    (call_meetsIn PySem.F.slot_dict_delitem dd.typeIs PySem.F.entry_dict_delitem (PySem.F.args_dict_delitem_2 _ _) (meets_dict_delitem_pairs (mixKind X.prog X.w) a (kV_is ry)) ⟨vs, dd, by rw [← rel.length]; exact z, by rw [← (rel.val k).isSome_eq]; exact l, fun h' dd' hs => h _ ?_⟩)
  have he : ∃ q, h'.get? a = some q := let ⟨q, _, _, hq, _⟩ := dd'; ⟨q, hq⟩
  exact d_write I (by rw [e]; exact True.intro) hs he (dk_new (Nat.le_trans (dropK_le kvs k) z) hd (rel.drop k) dd')
/-- d.pop(k[, x]), there -/
theorem d_pop {v : V} {more : List Value} {Q : Value → Shared → Prop} (I : Inv X pins σ H s) (e : H a = some (.dK kvs)) (ry : RelV (kV k) u) (l : valV kvs k = some v) (hm : more = [] ∨ ∃ x, more = [x])
    (h : ∀ w' s', Inv X pins σ (upd H a (.dK (dropK kvs k))) s' → RelV v w' → Q w' s') : wpAny (model X.prog X.w) A (call (.builtin "dict.pop") (.ref a :: u :: more)) Q E s := by
  obtain ⟨z, hd, vs, rel, dd⟩ := dk_of I.hok e
  obtain ⟨w', hw, rw'⟩ := RelO.some_of (v := v) (o := valueAt vs k) (by rw [← l]; exact rel.val k)
  have hp : (keyPart u).isSome = true := by
    cases k with
    | inl i => obtain ⟨t, q⟩ := (show ∃ t, u = Value.int i t from ry); subst q; rfl
    | inr x => obtain ⟨t, q⟩ := (show ∃ t, u = Value.str x t from ry); subst q; rfl
  have ha : argsOk "dict.pop" ⟨.ref a :: u :: more, []⟩ := by
    rcases hm with q | ⟨x, q⟩
    · subst q; exact PySem.F.args_dict_pop_2 _ _
    · subst q; exact PySem.F.args_dict_pop_3 _ _ _
  refine call_meetsIn PySem.F.slot_dict_pop dd.typeIs PySem.F.entry_dict_pop ha (meets_dict_pop_there (mixKind X.prog X.w) a (kV_is ry) more hm hp)
    ⟨vs, w', dd, by rw [← rel.length]; exact z, hw, fun h' dd' hs => h w' _ ?_ rw'⟩
  have he : ∃ q, h'.get? a = some q := let ⟨q, _, _, hq, _⟩ := dd'; ⟨q, hq⟩
  exact d_write I (by rw [e]; exact True.intro) hs he (dk_new (Nat.le_trans (dropK_le kvs k) z) hd (rel.drop k) dd')
/-- d.pop(k, x), not there -/
theorem d_popD {r : Value} {Q : Value → Shared → Prop} (I : Inv X pins σ H s) (e : H a = some (.dK kvs)) (ry : RelV (kV k) u) (l : valV kvs k = none) (h : ∀ s', Inv X pins σ H s' → Q r s') :
    wpAny (model X.prog X.w) A (call (.builtin "dict.pop") [.ref a, u, r]) Q E s := by
  obtain ⟨z, hd, vs, rel, dd⟩ := dk_of I.hok e
  have hn : valueAt vs k = none := RelO.none_of (by rw [← l]; exact rel.val k)
  have hp : (keyPart u).isSome = true := by
    cases k with
    | inl i => obtain ⟨t, q⟩ := (show ∃ t, u = Value.int i t from ry); subst q; rfl
    | inr x => obtain ⟨t, q⟩ := (show ∃ t, u = Value.str x t from ry); subst q; rfl
  exact call_meetsIn PySem.F.slot_dict_pop dd.typeIs PySem.F.entry_dict_pop (PySem.F.args_dict_pop_3 _ _ _) (meets_dict_pop_default (mixKind X.prog X.w) a (kV_is ry) hd hp r) ⟨vs, dd, hn, h _ (I.tok _)⟩
/-- d.clear() -/
theorem d_clear {Q : Value → Shared → Prop} (I : Inv X pins σ H s) (e : H a = some (.dK kvs)) (h : ∀ s', Inv X pins σ (upd H a (.dK [])) s' → Q .none s') : wpAny (model X.prog X.w) A (call (.builtin "dict.clear") [.ref a]) Q E s := by
  obtain ⟨z, hd, vs, rel, dd⟩ := dk_of I.hok e
  refine call_meetsIn PySem.F.slot_dict_clear dd.typeIs PySem.F.entry_dict_clear (PySem.F.args_dict_clear_1 _) (meets_dict_clear (mixKind X.prog X.w) a) ⟨vs, dd, by rw [← rel.length]; exact z, fun h' dd' hs => h _ ?_⟩
  have he : ∃ q, h'.get? a = some q := let ⟨q, _, _, hq, _⟩ := dd'; ⟨q, hq⟩
  exact d_write (t' := s.toks) I (by rw [e]; exact True.intro) hs he (dk_new (Nat.zero_le _) hd .nil dd')
/-- len(d) -/
theorem d_len {Q : Value → Shared → Prop} (I : Inv X pins σ H s) (e : Rd H a (.dK kvs)) (h : ∀ t s', Inv X pins σ H s' → Q (.int kvs.length t) s') : wpAny (model X.prog X.w) A (call (.builtin "len") [.ref a]) Q E s := by
  obtain ⟨z, hd, vs, rel, dd⟩ := dk_rd I.hok e
  refine call_len_dict hd dd (by rw [← rel.length]; rw [sizeLine_eq] at z; omega) ?_
  rw [← rel.length]
  exact h _ _ (I.tok _)
/-- if d -/
theorem d_truth {Q : Bool → Shared → Prop} (I : Inv X pins σ H s) (e : Rd H a (.dK kvs)) (h : ∀ s', Inv X pins σ H s' → Q (!kvs.isEmpty) s') : wpAny (model X.prog X.w) A (truthy (.ref a)) Q E s := by
  obtain ⟨z, hd, vs, rel, dd⟩ := dk_rd I.hok e
  refine wpAny_truthy_dict hd dd (by rw [← rel.length]; rw [sizeLine_eq] at z; omega) ?_
  have q : kvs.isEmpty = vs.isEmpty := by cases rel <;> rfl
  rw [← q]
  exact h _ (I.tok _)
end


/-! ### readings and rules -/
/-- the element of a subscription, not a slice -/
def NoSl (i : Expr) : Prop := ∀ ov iv, subscripted i false ov iv = operate [ov, iv] (getItem ov iv)
theorem subD_of {prog : Program} {w : World} {A : Around} {E : Value → Shared → Prop} {s : Shared} {env : Env} {value slice : Expr} {pos : Pos} {T id : String} {Q : Value → Shared → Prop}
    (hl : typeLookup (.type T) "__getitem__" = pure (some (.builtin id))) (hs : NoSl slice)
    (h : wpAny (model prog w) A (eval value env) (fun o s₁ => wpAny (model prog w) A (eval slice env) (fun i s₂ => s₂.TypeIs o T ∧ wpAny (model prog w) A (getItem o i) Q E s₂) E s₁) E s) :
    wpAny (model prog w) A (eval (.Subscript value slice pos) env) Q E s := by
  refine Subscript_ (wpAny_mono h (fun o s₁ h₁ => wpAny_mono h₁ (fun i s₂ h₂ => ?_) fun _ _ x => x) fun _ _ x => x)
  obtain ⟨hT, h₂⟩ := h₂
  unfold subscriptTail
  refine wpAny_bind ?_
  rw [getitemInPython_of_ne hT.not_modules]
  refine wpAny_bind (wpAny_specialOf hT hl ?_)
  have fin : wpAny (model prog w) A (subscripted slice false o i) (fun r s₃ => wpAny (model prog w) A (letTemporaryGo value o r >>= fun _ => pure r) Q E s₃) E s₂ := by
    rw [hs o i]
    exact wpAny_operating (wpAny_mono h₂ (fun r s₃ h₃ => wpAny_bind (wpAny_letTemporaryGo (wpAny_pure h₃))) fun _ _ x => x)
  first
    | exact wpAny_pure (wpAny_bind fin)
    | exact wpAny_bind (wpAny_pure (wpAny_bind fin))
    | exact wpAny_bind fin

theorem dict_typeIs {X : Cx} {pins : List (Addr × Obj)} {σ : St} {H : Hp} {s : Shared} {a : Addr} {y : V} {o : Option V} (I : Inv X pins σ H s) (g : DGet H a y o) : s.TypeIs (.ref a) "dict" := by
  rcases g with ⟨kvs, k, e, _, _⟩ | ⟨kvs, k, b, e, _, _, _⟩
  · obtain ⟨_, _, vs, _, dd⟩ := dk_rd I.hok e
    exact dd.typeIs
  · obtain ⟨_, _, xs, _, dd⟩ := dt_rd I.hok e
    exact dd.typeIs
theorem dict_noDict {X : Cx} {pins : List (Addr × Obj)} {σ : St} {H : Hp} {s : Shared} {a : Addr} {y : V} {o : Option V} (I : Inv X pins σ H s) (g : DGet H a y o) :
    ∀ b, Value.ref a = .ref b → ∃ ob, s.heap.get? b = some ob ∧ ob.dict = none := fun b q => by
  cases q
  rcases g with ⟨kvs, k, e, _, _⟩ | ⟨kvs, k, b, e, _, _, _⟩
  · obtain ⟨_, _, vs, _, ob, _, _, h1, h2, _⟩ := dk_rd I.hok e
    exact ⟨ob, h1, h2.2.1⟩
  · obtain ⟨_, _, xs, _, ob, _, _, h1, h2, _⟩ := dt_rd I.hok e
    exact ⟨ob, h1, h2.2.1⟩

/-- d[y] -/
def tDGet (td ty : TE) : TE := fun σ H Q => td σ H fun x H1 => ty σ H1 fun y H2 => ∃ a v, x = .ref a ∧ DGet H2 a y (some v) ∧ Q v H2
/-- y in d, y not in d -/
def tDIn (ty td : TE) : TE := fun σ H Q => ty σ H fun y H1 => td σ H1 fun x H2 => ∃ a o, x = .ref a ∧ DGet H2 a y o ∧ Q (.bl o.isSome) H2
def tDNotIn (ty td : TE) : TE := fun σ H Q => ty σ H fun y H1 => td σ H1 fun x H2 => ∃ a o, x = .ref a ∧ DGet H2 a y o ∧ Q (.bl (!o.isSome)) H2
/-- d[y] = v -/
def sDPut (td ty tv : TE) : TS := fun D σ H => tv σ H fun v H1 => td σ H1 fun x H2 => ty σ H2 fun y H3 => ∃ a H4, x = .ref a ∧ DPut H3 a y v H4 ∧ D.nx σ H4
/-- d[y] op= v -/
def sDAug (td ty tv : TE) (rd : V → V → Hp → VK → Prop) : TS := fun D σ H => td σ H fun x H1 => ty σ H1 fun y H2 => ∃ a v, x = .ref a ∧ DGet H2 a y (some v) ∧
  tv σ H2 fun y2 H3 => rd v y2 H3 fun z H4 => ∃ H5, DPut H4 a y z H5 ∧ D.nx σ H5
/-- del d[y] -/
def sDDel (td ty : TE) : TS := fun D σ H => td σ H fun x H1 => ty σ H1 fun y H2 => ∃ a kvs k, x = .ref a ∧ H2 a = some (.dK kvs) ∧ y = kV k ∧ (valV kvs k).isSome = true ∧ D.nx σ (upd H2 a (.dK (dropK kvs k)))

section
variable {X : Cx} {o i e value : Expr} {pos pos' tpos : Pos} {td ty tv : TE}
theorem pe_dget (hu : X.A.units + 1 < cLine) (ho : PE X o td) (hi : PE X i ty) (hs : NoSl i) : PE X (.Subscript o i pos) (tDGet td ty) := by
  intro pins s σ H Q I h
  refine subD_of PySem.F.slot_dict_getitem.lookup hs (thn (ho pins s σ H _ I h) fun u s1 ⟨x, H1, I1, rx, q1⟩ => thn (hi pins s1 σ H1 _ I1 q1) fun iv s2 ⟨y, H2, I2, ry, a, v, ex, g, q2⟩ => ?_)
  subst ex
  obtain rfl : u = Value.ref a := rx
  exact ⟨dict_typeIs I2 g, d_getItem hu I2 g ry fun w' s3 I3 rw' => ⟨v, H2, I3, rw', q2⟩⟩
theorem pc_din (hu : X.A.units + 1 < cLine) (hi : PE X i ty) (ho : PE X o td) : PC X .In i o (tDIn ty td) := by
  intro pins s σ H Q I h
  refine thn (hi pins s σ H _ I h) fun iv s1 ⟨y, H1, I1, ry, q1⟩ => thn (ho pins s1 σ H1 _ I1 q1) fun u s2 ⟨x, H2, I2, rx, a, ov, ex, g, q2⟩ => ?_
  subst ex
  obtain rfl : u = Value.ref a := rx
  exact d_in hu I2 g ry fun s3 I3 => ⟨.bl ov.isSome, H2, I3, rfl, q2⟩
theorem pc_dnotin (hu : X.A.units + 1 < cLine) (hi : PE X i ty) (ho : PE X o td) : PC X .NotIn i o (tDNotIn ty td) := by
  intro pins s σ H Q I h
  refine thn (hi pins s σ H _ I h) fun iv s1 ⟨y, H1, I1, ry, q1⟩ => thn (ho pins s1 σ H1 _ I1 q1) fun u s2 ⟨x, H2, I2, rx, a, ov, ex, g, q2⟩ => ?_
  subst ex
  obtain rfl : u = Value.ref a := rx
  exact d_notIn hu I2 g ry fun s3 I3 => ⟨.bl (!ov.isSome), H2, I3, rfl, q2⟩
theorem ps_dput (hu : X.A.units + 1 < cLine) (ho : PE X o td) (hi : PE X i ty) (hv : PE X value tv) (hs : swapsWith value (some (.Subscript o i pos')) pos.line X.env = pure false) :
    PS X (.Assign [.Subscript o i pos'] value pos) (sDPut td ty tv) := by
  intro pins s σ H D I h
  refine wpAny_Assign_Subscript (thn (hv pins s σ H _ I h) fun r s1 ⟨v, H1, I1, rv, q1⟩ => thn (ho pins s1 σ H1 _ I1 q1) fun u s2 ⟨x, H2, I2, rx, q2⟩ => thn (hi pins s2 σ H2 _ I2 q2) fun iv s3 ⟨y, H3, I3, ry, a, H4, ex, g, q3⟩ => ?_) hs
  subst ex
  obtain rfl : u = Value.ref a := rx
  exact d_setItem hu I3 g ry rv fun s4 I4 => ⟨σ, H4, I4, q3⟩
theorem ps_daug {op : Operator} {rd : V → V → Hp → VK → Prop} (hu : X.A.units + 1 < cLine) (ho : PE X o td) (hi : PE X i ty) (hv : PE X value tv) (hop : InOp X op rd)
    (ha : ∀ ov iv new, augStore i ov iv new = (do holding [new, ov, iv] (setItem ov iv new); release [new, ov, iv] []; pure .next)) : PS X (.AugAssign (.Subscript o i tpos) op value pos) (sDAug td ty tv rd) := by
  intro pins s σ H D I h
  refine wpAny_AugAssign_SubscriptAny (thn (ho pins s σ H _ I h) fun u s1 ⟨x, H1, I1, rx, q1⟩ => thn (hi pins s1 σ H1 _ I1 q1) fun iv s2 ⟨y, H2, I2, ry, a, v, ex, g, q2⟩ => ?_) ha
  subst ex
  obtain rfl : u = Value.ref a := rx
  refine d_getItem hu I2 g ry fun w' s3 I3 rw' => thn (hv pins s3 σ H2 _ I3 q2) fun w2 s4 ⟨y2, H3, I4, ry2, q3⟩ => thn (hop pins s4 σ H3 v y2 w' w2 _ I4 rw' ry2 q3) fun w3 s5 ⟨z, H4, I5, rz, H5, g5, q4⟩ => ?_
  exact d_setItem hu I5 g5 ry rz fun s6 I6 => ⟨σ, H5, I6, q4⟩
theorem ps_ddel (ho : PE X o td) (hi : PE X i ty) : PS X (.Delete [.Subscript o i tpos] pos) (sDDel td ty) := by
  intro pins s σ H D I h
  refine wpAny_Delete (wpAny_deleteEach_cons (wpAny_delete_Subscript (thn (ho pins s σ H _ I h) fun u s1 ⟨x, H1, I1, rx, q1⟩ => thn (hi pins s1 σ H1 _ I1 q1) fun iv s2 ⟨y, H2, I2, ry, a, kvs, k, ex, e, ey, l, q2⟩ => ?_)))
  subst ex ey
  obtain rfl : u = Value.ref a := rx
  exact d_delItem I2 e ry l fun s3 I3 => wpAny_deleteEach_nil ⟨σ, _, I3, q2⟩
end


/-! ### displays -/
theorem dk_empty {P : Program} {w : World} {H : Hp} (h : Heap) (hb : sysModules < h.objs.size) : ObjOk P w H (h.push { cls := .type "dict", data := .dict #[] }) h.objs.size (.dK []) :=
  ⟨Nat.zero_le _, beq_eq_false_iff_ne.mpr (Ne.symm (Nat.ne_of_lt hb)), [], .nil, Heap.DictOf.new h⟩
theorem dt_empty {P : Program} {w : World} {H : Hp} (h : Heap) (hb : sysModules < h.objs.size) : ObjOk P w H (h.push { cls := .type "dict", data := .dict #[] }) h.objs.size (.dT []) :=
  ⟨Nat.zero_le _, beq_eq_false_iff_ne.mpr (Ne.symm (Nat.ne_of_lt hb)), [], .nil, _, #[], 0, Heap.get?_push_size _ rfl, ⟨rfl, rfl, rfl⟩, rfl, rfl, List.nodup_nil⟩
/-- {}, to be a dict of the kind that is wanted -/
def tDNewK : TE := fun _ H Q => ∀ p, H p = none → Q (.ref p) (upd H p (.dK []))
def tDNewT : TE := fun _ H Q => ∀ p, H p = none → Q (.ref p) (upd H p (.dT []))
section
variable {X : Cx} {pos : Pos}
theorem pe_dnewK : PE X (.Dict [] [] pos) tDNewK := fun pins s σ H Q I h =>
  wpAny_Dict_empty ⟨.ref s.heap.objs.size, _, I.laid (a := s.heap.objs.size) (o := .dK []) (t' := s.toks) (fun _ _ q => Heap.get?_push_of_some _ q) (Nat.le_refl _) (dk_empty s.heap I.big), rfl, h _ (I.hok.fresh (Nat.le_refl _))⟩
theorem pe_dnewT : PE X (.Dict [] [] pos) tDNewT := fun pins s σ H Q I h =>
  wpAny_Dict_empty ⟨.ref s.heap.objs.size, _, I.laid (a := s.heap.objs.size) (o := .dT []) (t' := s.toks) (fun _ _ q => Heap.get?_push_of_some _ q) (Nat.le_refl _) (dt_empty s.heap I.big), rfl, h _ (I.hok.fresh (Nat.le_refl _))⟩
end

/-- the pairs of a display, from the left -/
def tPairs : List (TE × TE) → St → Hp → (List (V × V) → Hp → Prop) → Prop
  | [], _, H, Q => Q [] H
  | (tk, tv) :: r, σ, H, Q => tk σ H fun x H1 => tv σ H1 fun y H2 => tPairs r σ H2 fun ps H3 => Q ((x, y) :: ps) H3
abbrev VV : List (V × V) → List (Value × Value) → Prop := Paired fun p q => RelV p.1 q.1 ∧ RelV p.2 q.2
def PPs (X : Cx) (pos : Pos) (keys : List (Option Expr)) (values : List Expr) (trs : List (TE × TE)) : Prop :=
  ∀ (pins : List (Addr × Obj)) (s : Shared) (σ : St) (H : Hp) (Q : List (V × V) → Hp → Prop), Inv X pins σ H s → tPairs trs σ H Q →
    wpAny (model X.prog X.w) X.A (evalPairs (pairTrees keys values X.env pos)) (fun vs s' => ∃ ps H', Inv X pins σ H' s' ∧ VV ps vs ∧ Q ps H') X.xe s
theorem pps_nil {X : Cx} {pos : Pos} : PPs X pos [] [] [] := fun pins s σ H Q I h => pairTrees_nil_walk ⟨[], H, I, .nil, h⟩
theorem pps_cons {X : Cx} {pos : Pos} {k v : Expr} {ks : List (Option Expr)} {vs : List Expr} {tk tv : TE} {trs : List (TE × TE)} (hk : PE X k tk) (hv : PE X v tv) (hr : PPs X pos ks vs trs) :
    PPs X pos (some k :: ks) (v :: vs) ((tk, tv) :: trs) := fun pins s σ H Q I h =>
  pairTrees_cons_walk (thn (hk pins s σ H _ I h) fun u s1 ⟨x, H1, I1, rx, q1⟩ => thn (hv pins s1 σ H1 _ I1 q1) fun w2 s2 ⟨y, H2, I2, ry, q2⟩ =>
    thn (hr pins s2 σ H2 _ I2 q2) fun ws s3 ⟨ps, H3, I3, rel, q3⟩ => ⟨(x, y) :: ps, H3, I3, .cons ⟨rx, ry⟩ rel, q3⟩)

def mergeK (kvs more : List (Key × V)) : List (Key × V) := more.foldl (fun acc kv => putK acc kv.1 kv.2) kvs
theorem KV.merge : ∀ {more : List (Key × V)} {rs : List (Key × Value)} {kvs : List (Key × V)} {vs : List (Key × Value)}, KV more rs → KV kvs vs → KV (mergeK kvs more) (merged vs rs) := by
  intro more rs kvs vs r
  unfold KV at r
  induction r generalizing kvs vs with
  | nil => intro q; exact q
  | @cons p q ps qs h t ih =>
    intro r0
    have e : KV (putK kvs p.1 p.2) (stored vs q.1 q.2) := by
      have := r0.put p.1 h.2
      rw [← h.1]; exact this
    exact ih e
theorem length_mergeK : ∀ (more kvs : List (Key × V)), (mergeK kvs more).length ≤ kvs.length + more.length
  | [], kvs => by show kvs.length ≤ kvs.length + 0; omega
  | p :: r, kvs => by
    have h1 := length_mergeK r (putK kvs p.1 p.2)
    have h2 := length_putK kvs p.1 p.2
    show (mergeK (putK kvs p.1 p.2) r).length ≤ _
    rw [List.length_cons]; omega
theorem carries_of {P : Program} {w : World} : ∀ {kvs : List (Key × V)} {ws : List (Value × Value)}, VV (kvs.map fun kv => (kV kv.1, kv.2)) ws → ∃ rs, Carries (mixKind P w) ws rs ∧ KV kvs rs
  | [], _, r => by rw [List.map_nil] at r; cases r; exact ⟨[], True.intro, .nil⟩
  | p :: kvs, _, r => by
    rw [List.map_cons] at r
    cases r with
    | @cons a b as bs h t =>
      obtain ⟨rs, c, q⟩ := carries_of (P := P) (w := w) t
      obtain ⟨b1, b2⟩ := b
      exact ⟨(p.1, b2) :: rs, ⟨kV_is h.1, rfl, c⟩, .cons ⟨rfl, h.2⟩ q⟩
/-- {k: v, ..} with keys ints and texts; the new dict stands empty while the pairs are made -/
def tDisp (trs : List (TE × TE)) : TE := fun σ H Q => ∀ p, H p = none → tPairs trs σ (upd H p (.dK [])) fun ps H2 => H2 p = some (.dK []) ∧ ∃ kvs : List (Key × V), ps = kvs.map (fun kv => (kV kv.1, kv.2)) ∧ kvs.length ≤ 15 ∧ Q (.ref p) (upd H2 p (.dK (mergeK [] kvs)))
theorem pe_disp {X : Cx} {pos : Pos} {keys : List (Option Expr)} {values : List Expr} {trs : List (TE × TE)} (h : PPs X pos keys values trs) (hall : keys.all (·.isSome) = true) (hl : keys.length = values.length) (h0 : keys ≠ [])
    (h15 : keys.length ≤ 15) : PE X (.Dict keys values pos) (tDisp trs) := by
  intro pins s σ H Q I q
  have hn := I.hok.fresh (Nat.le_refl s.heap.objs.size)
  have I1 := I.laid (a := s.heap.objs.size) (o := .dK []) (h' := s.heap.push { cls := .type "dict", data := .dict #[] }) (t' := s.toks) (fun _ _ q => Heap.get?_push_of_some _ q) (Nat.le_refl _) (dk_empty s.heap I.big)
  refine wpAny_Dict_walk (knd := mixKind X.prog X.w) hall hl h0 h15 (thn (h pins _ σ _ _ I1 (q _ hn)) fun ws s2 ⟨ps, H2, I2, rel, e, kvs, ep, lk, q2⟩ => ?_)
  subst ep
  obtain ⟨rs, c, rk⟩ := carries_of (P := X.prog) (w := X.w) rel
  obtain ⟨z, hd, vs0, r0, dd⟩ := dk_of I2.hok e
  cases r0
  refine ⟨rs, c, dd, fun h' dd' hs => ⟨.ref s.heap.objs.size, _, ?_, rfl, q2⟩⟩
  have hz : (mergeK [] kvs).length ≤ sizeLine := by
    have h1 := length_mergeK kvs []
    rw [List.length_nil] at h1
    rw [sizeLine_eq]; omega
  have he : ∃ q, h'.get? s.heap.objs.size = some q := let ⟨q, _, _, hq, _⟩ := dd'; ⟨q, hq⟩
  exact d_write I2 (by rw [e]; exact True.intro) hs he (dk_new hz hd (rk.merge .nil) dd')


/-! ### methods -/
/-- a method call o.m(e) of a built-in, with one argument: what must be seen of the text -/
structure M1 (X : Cx) (o : Expr) (m : Str) (apos : Pos) (e : Expr) (cpos : Pos) : Prop where
  base : attributeBase o m X.env (eval o X.env) = eval o X.env
  few : ((backTo cpos (starEach [e] X.env)).all (fun x => !x.1) && (backToKw cpos (keywordEach [] X.env)).all (fun x => x.1.isSome)
    && decide (([e] : List Expr).length + ([] : List Keyword).length + (if ([] : List Keyword).isEmpty then 0 else 1) < 30)) = true
  line : (apos.endLine == cpos.line) = true
  trees : backTo cpos (starEach [e] X.env) = [(false, eval e X.env)]
structure M2 (X : Cx) (o : Expr) (m : Str) (apos : Pos) (e f : Expr) (cpos : Pos) : Prop where
  base : attributeBase o m X.env (eval o X.env) = eval o X.env
  few : ((backTo cpos (starEach [e, f] X.env)).all (fun x => !x.1) && (backToKw cpos (keywordEach [] X.env)).all (fun x => x.1.isSome)
    && decide (([e, f] : List Expr).length + ([] : List Keyword).length + (if ([] : List Keyword).isEmpty then 0 else 1) < 30)) = true
  line : (apos.endLine == cpos.line) = true
  trees : backTo cpos (starEach [e, f] X.env) = [(false, eval e X.env), (false, eval f X.env)]

/-- a is a dict, whatever its keys -/
def IsD (H : Hp) (a : Addr) : Prop := (∃ kvs, Rd H a (.dK kvs)) ∨ ∃ kvs, Rd H a (.dT kvs)
theorem isD_at {X : Cx} {pins : List (Addr × Obj)} {σ : St} {H : Hp} {s : Shared} {a : Addr} (I : Inv X pins σ H s) (d : IsD H a) :
    s.TypeIs (.ref a) "dict" ∧ (∀ b, Value.ref a = .ref b → ∃ ob, s.heap.get? b = some ob ∧ ob.dict = none) ∧ (a == sysModules) = false := by
  rcases d with ⟨kvs, e⟩ | ⟨kvs, e⟩
  · obtain ⟨_, hd, vs, _, dd⟩ := dk_rd I.hok e
    refine ⟨dd.typeIs, fun b q => ?_, hd⟩
    cases q
    obtain ⟨ob, _, _, h1, h2, _⟩ := dd
    exact ⟨ob, h1, h2.2.1⟩
  · obtain ⟨_, hd, xs, _, dd⟩ := dt_rd I.hok e
    refine ⟨dd.typeIs, fun b q => ?_, hd⟩
    cases q
    obtain ⟨ob, _, _, h1, h2, _⟩ := dd
    exact ⟨ob, h1, h2.2.1⟩

section
variable {X : Cx} {pins : List (Addr × Obj)} {σ : St} {H : Hp} {s : Shared} {a : Addr} {y d : V} {u r : Value} {o : Option V} {A : Around} {E : Value → Shared → Prop}
/-- d.get(y) -/
theorem d_get1 {Q : Value → Shared → Prop} (hu : A.units + 1 < cLine) (I : Inv X pins σ H s) (g : DGet H a y o) (ry : RelV y u) (h : ∀ w' s', Inv X pins σ H s' → RelV (o.getD .non) w' → Q w' s') :
    wpAny (model X.prog X.w) A (call (.builtin "dict.get") [.ref a, u]) Q E s := by
  rcases g with ⟨kvs, k, e, ey, l⟩ | ⟨kvs, k, b, e, ey, eb, l⟩
  · subst ey
    obtain ⟨z, hd, vs, rel, dd⟩ := dk_rd I.hok e
    refine call_meetsIn PySem.F.slot_dict_get dd.typeIs PySem.F.entry_dict_get (PySem.F.args_dict_get_2 _ _) (meets_dict_get (mixKind X.prog X.w) a (kV_is ry) hd) ⟨_, dd.mapOf, h _ _ (I.tok _) ?_⟩
    rw [l]
    exact (rel.val k).getD rfl
  · subst ey
    cases (show u = Value.ref b from ry)
    obtain ⟨z, hd, xs, rel, dd⟩ := dt_rd I.hok e
    refine call_meetsIn PySem.F.slot_dict_get dd.typeIs PySem.F.entry_dict_get (PySem.F.args_dict_get_2 _ _) (meetsH_dict_get (tupleKind (mixKind X.prog X.w)) a b hd) ⟨tupleKind_room_in1 hu, k, xs, key_of I.hok eb, dd, h _ _ (I.tok _) ?_⟩
    rw [l]
    exact (rel.val k).getD rfl
/-- d.get(y, x) -/
theorem d_get2 {Q : Value → Shared → Prop} (hu : A.units + 1 < cLine) (I : Inv X pins σ H s) (g : DGet H a y o) (ry : RelV y u) (rd : RelV d r) (h : ∀ w' s', Inv X pins σ H s' → RelV (o.getD d) w' → Q w' s') :
    wpAny (model X.prog X.w) A (call (.builtin "dict.get") [.ref a, u, r]) Q E s := by
  rcases g with ⟨kvs, k, e, ey, l⟩ | ⟨kvs, k, b, e, ey, eb, l⟩
  · subst ey
    obtain ⟨z, hd, vs, rel, dd⟩ := dk_rd I.hok e
    refine call_meetsIn PySem.F.slot_dict_get dd.typeIs PySem.F.entry_dict_get (PySem.F.args_dict_get_3 _ _ _) (meets_dict_get_default (mixKind X.prog X.w) a (kV_is ry) hd r) ⟨_, dd.mapOf, h _ _ (I.tok _) ?_⟩
    rw [l]
    exact (rel.val k).getD rd
  · subst ey
    cases (show u = Value.ref b from ry)
    obtain ⟨z, hd, xs, rel, dd⟩ := dt_rd I.hok e
    refine call_meetsIn PySem.F.slot_dict_get dd.typeIs PySem.F.entry_dict_get (PySem.F.args_dict_get_3 _ _ _) (meetsH_dict_get_default (tupleKind (mixKind X.prog X.w)) a b hd r) ⟨tupleKind_room_in1 hu, k, xs, key_of I.hok eb, dd, h _ _ (I.tok _) ?_⟩
    rw [l]
    exact (rel.val k).getD rd
end

def tDGet1 (td ty : TE) : TE := fun σ H Q => td σ H fun x H1 => ∃ a, x = .ref a ∧ IsD H1 a ∧ ty σ H1 fun y H2 => ∃ o, DGet H2 a y o ∧ Q (o.getD .non) H2
def tDGet2 (td ty tx : TE) : TE := fun σ H Q => td σ H fun x H1 => ∃ a, x = .ref a ∧ IsD H1 a ∧ ty σ H1 fun y H2 => tx σ H2 fun z H3 => ∃ o, DGet H3 a y o ∧ Q (o.getD z) H3
/-- d.pop(k): there; d.pop(k, x): there or not -/
def tDPop1 (td ty : TE) : TE := fun σ H Q => td σ H fun x H1 => ∃ a, x = .ref a ∧ IsD H1 a ∧ ty σ H1 fun y H2 => ∃ kvs k v, H2 a = some (.dK kvs) ∧ y = kV k ∧ valV kvs k = some v ∧ Q v (upd H2 a (.dK (dropK kvs k)))
def tDPop2 (td ty tx : TE) : TE := fun σ H Q => td σ H fun x H1 => ∃ a, x = .ref a ∧ IsD H1 a ∧ ty σ H1 fun y H2 => tx σ H2 fun z H3 => ∃ kvs k, H3 a = some (.dK kvs) ∧ y = kV k ∧
  (∀ v, valV kvs k = some v → Q v (upd H3 a (.dK (dropK kvs k)))) ∧ (valV kvs k = none → Q z H3)
section
variable {X : Cx} {o e f : Expr} {apos cpos : Pos} {td ty tx : TE}
theorem pe_dget1 (hu : X.A.units + 1 < cLine) (ho : PE X o td) (he : PE X e ty) (m : M1 X o "get" apos e cpos) : PE X (.Call (.Attribute o "get" apos) [e] [] cpos) (tDGet1 td ty) := by
  intro pins s σ H Q I h
  refine wpAny_Call_method m.base m.few m.line PySem.F.plainAttrs_dict PySem.F.slot_dict_get PySem.F.type_dict_get (thn (ho pins s σ H _ I h) fun u s1 ⟨x, H1, I1, rx, a, ex, d, q1⟩ => ?_)
  subst ex
  obtain rfl : u = Value.ref a := rx
  obtain ⟨t1, t2, _⟩ := isD_at I1 d
  refine ⟨t1, t2, ?_⟩
  rw [m.trees]
  refine Calls.callWith_builtin rfl (Calls.evalArgs_plain (Calls.spliced_cons (thn (he pins s1 σ H1 _ I1 q1) fun iv s2 ⟨y, H2, I2, ry, ov, g, q2⟩ => Calls.spliced_nil ?_)))
  exact d_get1 hu I2 g ry fun w' s3 I3 rw' => ⟨_, H2, I3, rw', q2⟩
theorem pe_dget2 (hu : X.A.units + 1 < cLine) (ho : PE X o td) (he : PE X e ty) (hf : PE X f tx) (m : M2 X o "get" apos e f cpos) : PE X (.Call (.Attribute o "get" apos) [e, f] [] cpos) (tDGet2 td ty tx) := by
  intro pins s σ H Q I h
  refine wpAny_Call_method m.base m.few m.line PySem.F.plainAttrs_dict PySem.F.slot_dict_get PySem.F.type_dict_get (thn (ho pins s σ H _ I h) fun u s1 ⟨x, H1, I1, rx, a, ex, d, q1⟩ => ?_)
  subst ex
  obtain rfl : u = Value.ref a := rx
  obtain ⟨t1, t2, _⟩ := isD_at I1 d
  refine ⟨t1, t2, ?_⟩
  rw [m.trees]
  refine Calls.callWith_builtin rfl (Calls.evalArgs_plain (Calls.spliced_cons (thn (he pins s1 σ H1 _ I1 q1) fun iv s2 ⟨y, H2, I2, ry, q2⟩ =>
    Calls.spliced_cons (thn (hf pins s2 σ H2 _ I2 q2) fun fv s3 ⟨z, H3, I3, rz, ov, g, q3⟩ => Calls.spliced_nil ?_))))
  exact d_get2 hu I3 g ry rz fun w' s4 I4 rw' => ⟨_, H3, I4, rw', q3⟩
theorem pe_dpop1 (ho : PE X o td) (he : PE X e ty) (m : M1 X o "pop" apos e cpos) : PE X (.Call (.Attribute o "pop" apos) [e] [] cpos) (tDPop1 td ty) := by
  intro pins s σ H Q I h
  refine wpAny_Call_method m.base m.few m.line PySem.F.plainAttrs_dict PySem.F.slot_dict_pop PySem.F.type_dict_pop (thn (ho pins s σ H _ I h) fun u s1 ⟨x, H1, I1, rx, a, ex, d, q1⟩ => ?_)
  subst ex
  obtain rfl : u = Value.ref a := rx
  obtain ⟨t1, t2, _⟩ := isD_at I1 d
  refine ⟨t1, t2, ?_⟩
  rw [m.trees]
  refine Calls.callWith_builtin rfl (Calls.evalArgs_plain (Calls.spliced_cons (thn (he pins s1 σ H1 _ I1 q1) fun iv s2 ⟨y, H2, I2, ry, kvs, k, v, ea, ey, l, q2⟩ => Calls.spliced_nil ?_)))
  subst ey
  exact d_pop I2 ea ry l (.inl rfl) fun w' s3 I3 rw' => ⟨v, _, I3, rw', q2⟩
theorem pe_dpop2 (ho : PE X o td) (he : PE X e ty) (hf : PE X f tx) (m : M2 X o "pop" apos e f cpos) : PE X (.Call (.Attribute o "pop" apos) [e, f] [] cpos) (tDPop2 td ty tx) := by
  intro pins s σ H Q I h
  refine wpAny_Call_method m.base m.few m.line PySem.F.plainAttrs_dict PySem.F.slot_dict_pop PySem.F.type_dict_pop (thn (ho pins s σ H _ I h) fun u s1 ⟨x, H1, I1, rx, a, ex, d, q1⟩ => ?_)
  subst ex
  obtain rfl : u = Value.ref a := rx
  obtain ⟨t1, t2, _⟩ := isD_at I1 d
  refine ⟨t1, t2, ?_⟩
  rw [m.trees]
  refine Calls.callWith_builtin rfl (Calls.evalArgs_plain (Calls.spliced_cons (thn (he pins s1 σ H1 _ I1 q1) fun iv s2 ⟨y, H2, I2, ry, q2⟩ =>
    Calls.spliced_cons (thn (hf pins s2 σ H2 _ I2 q2) fun fv s3 ⟨z, H3, I3, rz, kvs, k, ea, ey, q3, q4⟩ => Calls.spliced_nil ?_))))
  subst ey
  cases l : valV kvs k with
  | some v => exact d_pop I3 ea ry l (.inr ⟨fv, rfl⟩) fun w' s4 I4 rw' => ⟨v, _, I4, rw', q3 v l⟩
  | none => exact d_popD I3 ea ry l fun s4 I4 => ⟨z, H3, I4, rz, q4 l⟩
end

/-! ### dict(d): a copy -/
section
variable {X : Cx} {pins : List (Addr × Obj)} {σ : St} {H : Hp} {s : Shared} {a : Addr} {kvs : List (Key × V)} {A : Around} {E : Value → Shared → Prop}
theorem d_copyOf {Q : Value → Shared → Prop} (I : Inv X pins σ H s) (e : Rd H a (.dK kvs)) (h : ∀ p s', H p = none → Inv X pins σ (upd H p (.dK kvs)) s' → Q (.ref p) s') : wpAny (model X.prog X.w) A (call (.type "dict") [.ref a]) Q E s := by
  obtain ⟨z, hd, vs, rel, dd⟩ := dk_rd I.hok e
  refine kt_call_dict hd dd (by rw [← rel.length]; exact z) fun h' dd' hs => ?_
  refine h _ _ (I.hok.fresh (Nat.le_refl _)) (I.laid (a := s.heap.objs.size) (o := .dK kvs) (t' := s.toks) (fun b q hq => ?_) (Nat.le_refl _) (dk_new z (beq_eq_false_iff_ne.mpr (Ne.symm (Nat.ne_of_lt I.big))) rel dd'))
  exact (hs.2 b (Nat.ne_of_lt (Heap.lt_size hq))).trans (Heap.get?_push_of_some _ hq)
end


section
variable {X : Cx} {pins : List (Addr × Obj)} {σ : St} {H : Hp} {s : Shared} {a : Addr} {y : V} {u : Value} {A : Around} {E : Value → Shared → Prop}
/-- d[y], not there: a KeyError -/
theorem d_missing {Q : Value → Shared → Prop} (hu : A.units + 1 < cLine) (hh : A.handled = none) (I : Inv X pins σ H s) (g : DGet H a y none) (ry : RelV y u)
    (h : ∀ h' e t', Heap.NewExc s.heap h' e "KeyError" → E (.ref e) { s with heap := h', toks := t' }) : wpAny (model X.prog X.w) A (getItem (.ref a) u) Q E s := by
  rcases g with ⟨kvs, k, e, ey, l⟩ | ⟨kvs, k, b, e, ey, eb, l⟩
  · subst ey
    obtain ⟨z, hd, vs, rel, dd⟩ := dk_rd I.hok e
    have hn : valueAt vs k = none := RelO.none_of (by rw [l]; exact rel.val k)
    exact wpAny_getItem_missing_of (kV_is ry) hd hh dd.mapOf hn fun h' ex ne => h h' ex _ ne
  · subst ey
    cases (show u = Value.ref b from ry)
    obtain ⟨z, hd, xs, rel, dd⟩ := dt_rd I.hok e
    have hn : (atKey xs k).map (·.2) = none := RelO.none_of (by rw [l]; exact rel.val k)
    exact wpAny_getItem_missing_heap (tupleKind_room_in1 hu) (key_of I.hok eb) hd hh dd (Option.map_eq_none_iff.mp hn) fun h' ex ne => h h' ex _ ne
end
end L2

namespace Att
open PySem PySem.W PySem.Calls PyProof.Rows

/-! ### the script -/
theorem ints_of_wellAll {P : Params} {h : Heap} : ∀ (ns : List Int) (vs : List Value), WellAll P h vs (ns.map WData.int) → IntsAre vs ns := by
  intro ns
  induction ns with
  | nil =>
    intro vs w
    rw [List.map_nil] at w
    cases w
    exact .nil
  | cons n ns ih =>
    intro vs w
    rw [List.map_cons] at w
    cases w with
    | cons a b =>
      cases a
      exact .cons _ _ (ih _ b)

theorem script_of {l : OpenLaw} {n : Nat} (hn : l.most = some n) {P : Params} {h : Heap} {args : List WData} {vals : List Value}
    (hpre : l.row.toRowW.claim.pre args = true) (hwl : WellAll P h vals args) :
    ∃ a vs ns, vals = [Value.ref a] ∧ args = [WData.list (ns.map WData.int)] ∧ h.get? a = some { cls := .type "list", data := .seq vs.toArray } ∧ IntsAre vs ns ∧ ns.length ≤ n := by
  have hsh : WShape.hasAll [] args [.list .int] = true := (pre_splitW hpre).1
  have hc : l.pre.holds [] { args := args } = true := (pre_splitW hpre).2
  obtain ⟨d, r, rfl, h1, h2⟩ := hasAllW_cons hsh
  obtain rfl := hasAllW_nil h2
  obtain ⟨xs, rfl, h3⟩ := hasW_list h1
  obtain ⟨ns, rfl⟩ := items_int h3
  have hlen : ns.length ≤ n := by
    unfold OpenLaw.pre at hc
    have h4 : (WTm.not (.lt (.lit (.int (n : Int))) (.len (.arg 0)))).holds [] { args := [.list (ns.map .int)] } = true := by
      have h4 := (holds_andW hc).1
      rw [hn] at h4
      exact h4
    have h5 := condW_of h4 (w_not (w_lt w_lit (w_len_list (w_arg rfl))))
    rw [List.length_map] at h5
    refine Nat.le_of_not_lt fun q => ?_
    have q' : (n : Int) < ((ns.length : Nat) : Int) := by omega
    first
      | (rw [decide_eq_true q'] at h5; exact absurd h5 (by decide))
      | (simp at h5; omega)
  cases hwl with
  | cons w1 w2 =>
    cases w2
    cases w1 with
    | list ho hall => exact ⟨_, _, ns, rfl, rfl, ho, ints_of_wellAll ns _ hall, hlen⟩

theorem post_true (l : OpenLaw) (args : List WData) : l.row.toRowW.claim.post args (.bool true) args = true :=
  postW_of (r := l.row.toRowW) (X := (true == true))
    (show WShape.has [] (.bool true) .bool = true by first | rfl | decide | simp [WShape.has, WShape.arms, WShape.armsAll])
    (show (WTm.eq .res (.lit (.bool true))).value [] { args := args, res := some (.bool true), after := args } = some (.bool (true == true)) from w_eq_bool (w_res rfl) w_lit) rfl

/-! ### the attachment: holds_open's last premise (the goal 'hc' behind k_head) from a wpAny of the law's body -/
theorem attach {l : OpenLaw} {n : Nat} {q : Program} {loose : List Str} {XP : (Str → Option Value) → Heap → Prop} {YP : World → Heap → Prop} {d : DefRec} {x : Str}
    (hn : l.most = some n) (hdf : d.params.defaults = [])
    (hbind : ∀ pm cd doc v : Value, bindArgs (docDef d.name d.params d.body d.scope pm cd doc) ⟨[v], []⟩ = pure [(x, v)])
    (hx : d.scope.names.lookup x = some .local ∨ d.scope.names.lookup x = some .cell)
    (hk : d.scope.kind = .function) (hco : d.scope.isCoroutine = false) (hgen : d.scope.isGenerator = false)
    (body : ∀ (w : World) (s₀ s₁ s : Shared) (mg mb : Str → Option Value) (fa : Addr) (o : Obj) (pm cd doc : Value) (a : Addr) (vs : List Value) (ns : List Int),
      Ground q loose [] XP w s₀ mg mb s₁.heap → YP w s₁.heap →
      s₁.heap.get? fa = some o → o.data = .func (docDef d.name d.params d.body d.scope pm cd doc) → s₁.heap.CodeRec cd d.name → mg d.name = some (.ref fa) →
      s₁.heap.get? a = some { cls := .type "list", data := .seq vs.toArray } → IntsAre vs ns → ns.length ≤ n →
      s.gens = #[] → s.os = s₁.os →
      Fr s₁.heap s₁.heap.objs.size s.heap (bindL (envOfC d.name d.scope s₁.heap.objs.size fa cd).kindOf [(x, .ref a)] fun _ => none) →
      Cl s₁.heap.objs.size (cellsFrom (s₁.heap.objs.size + 1) d.scope.names []) s.heap (bindC (envOfC d.name d.scope s₁.heap.objs.size fa cd).kindOf [(x, .ref a)] fun _ => none) →
      wpAny (model l.prog w) (callerA.deeper (envOfC d.name d.scope s₁.heap.objs.size fa cd)) (execs d.body (envOfC d.name d.scope s₁.heap.objs.size fa cd))
        (fun f s' => f = .ret (.bool true) ∧ OldK s₁.heap s'.heap ∧ s'.os = s₁.os ∧ AllBare s'.gens) (fun _ _ => False) s) :
    WalkO q loose XP YP l.row.toRowW d [] (fun f vs => PySem.call f vs) := by
  intro w s₀ s₁ mg mb G Y fa o pm cd doc dV kV ho hd hcd hD hmg hg args vals as hpre hlay hrd hwl hlo
  obtain rfl : dV = .none := Dflts.none hD hdf
  obtain rfl : kV = .none := Dflts.noKw hD
  obtain ⟨a, vs, ns, rfl, rfl, hobj, hints, hlen⟩ := script_of hn hpre hwl
  refine enter_call ?_
  refine call_cells_ret (o := o) (by rw [depth_caller]; decide) ho (fd_plain hd) G.T.nolimit hcd (hbind pm cd doc (.ref a)) (fun y hy => ?_) (fun h₁ tk F X => ?_) hco hgen hk
  · obtain rfl : y = (x, Value.ref a) := List.mem_singleton.mp hy
    rcases hx with e | e
    · exact .inl e
    · exact .inr ⟨e, cellsFrom_some _ _ _ (.inl e)⟩
  · refine wpAny_mono (body w s₀ s₁ { s₁ with heap := h₁, toks := tk } mg mb fa o pm cd doc a vs ns G Y ho (fd_plain hd) hcd hmg hobj hints hlen hg rfl F X) (fun f s' hq => ?_) (fun _ _ hq => hq)
    obtain ⟨rfl, h2, h3, h4⟩ := hq
    exact ⟨.inl ⟨.bool true, .bool true, [], rfl, fun _ => rfl, .bool true, post_true l _, fun _ => ⟨List.Pairwise.nil, fun _ hm => (nomatch hm)⟩⟩, h2, h3, h4⟩

/-- the same from a codeAny of the CALL (for a layer whose function contracts speak of calls) -/
theorem attach_call {l : OpenLaw} {n : Nat} {q : Program} {loose : List Str} {XP : (Str → Option Value) → Heap → Prop} {YP : World → Heap → Prop} {d : DefRec}
    (hn : l.most = some n) (hdf : d.params.defaults = [])
    (call : ∀ (w : World) (s₀ s₁ : Shared) (mg mb : Str → Option Value) (fa : Addr) (o : Obj) (pm cd doc : Value) (a : Addr) (vs : List Value) (ns : List Int),
      Ground q loose [] XP w s₀ mg mb s₁.heap → YP w s₁.heap →
      s₁.heap.get? fa = some o → o.data = .func (docDef d.name d.params d.body d.scope pm cd doc) → s₁.heap.CodeRec cd d.name → mg d.name = some (.ref fa) →
      s₁.heap.get? a = some { cls := .type "list", data := .seq vs.toArray } → IntsAre vs ns → ns.length ≤ n → s₁.gens = #[] →
      codeAny (model l.prog w) callerA (.call (.ref fa) ⟨[.ref a], []⟩) (fun r s' => r = .ok (.ret (.bool true)) ∧ OldK s₁.heap s'.heap ∧ s'.os = s₁.os ∧ AllBare s'.gens) s₁) :
    WalkO q loose XP YP l.row.toRowW d [] (fun f vs => PySem.call f vs) := by
  intro w s₀ s₁ mg mb G Y fa o pm cd doc dV kV ho hd hcd hD hmg hg args vals as hpre hlay hrd hwl hlo
  obtain rfl : dV = .none := Dflts.none hD hdf
  obtain rfl : kV = .none := Dflts.noKw hD
  obtain ⟨a, vs, ns, rfl, rfl, hobj, hints, hlen⟩ := script_of hn hpre hwl
  refine enter_call (codeAny_mono (call w s₀ s₁ mg mb fa o pm cd doc a vs ns G Y ho (fd_plain hd) hcd hmg hobj hints hlen hg) fun r s' hq => ?_)
  obtain ⟨rfl, h2, h3, h4⟩ := hq
  exact ⟨.inl ⟨.bool true, .bool true, [], rfl, fun _ => rfl, .bool true, post_true l _, fun _ => ⟨List.Pairwise.nil, fun _ hm => (nomatch hm)⟩⟩, h2, h3, h4⟩

/-- the same where the top left finished generators (o_head chose holds_openN): nothing may have changed at all and no generator may be left -/
theorem attachN {l : OpenLaw} {n : Nat} {q : Program} {loose : List Str} {XP : (Str → Option Value) → Heap → Prop} {YP : World → Heap → Prop} {d : DefRec} {x : Str}
    (hn : l.most = some n) (hdf : d.params.defaults = [])
    (hbind : ∀ pm cd doc v : Value, bindArgs (docDef d.name d.params d.body d.scope pm cd doc) ⟨[v], []⟩ = pure [(x, v)])
    (hx : d.scope.names.lookup x = some .local ∨ d.scope.names.lookup x = some .cell)
    (hk : d.scope.kind = .function) (hco : d.scope.isCoroutine = false) (hgen : d.scope.isGenerator = false)
    (body : ∀ (w : World) (s₀ s₁ s : Shared) (mg mb : Str → Option Value) (fa : Addr) (o : Obj) (pm cd doc : Value) (a : Addr) (vs : List Value) (ns : List Int),
      Ground q loose [] XP w s₀ mg mb s₁.heap → YP w s₁.heap →
      s₁.heap.get? fa = some o → o.data = .func (docDef d.name d.params d.body d.scope pm cd doc) → s₁.heap.CodeRec cd d.name → mg d.name = some (.ref fa) →
      s₁.heap.get? a = some { cls := .type "list", data := .seq vs.toArray } → IntsAre vs ns → ns.length ≤ n →
      s.gens = #[] → s.os = s₁.os →
      Fr s₁.heap s₁.heap.objs.size s.heap (bindL (envOfC d.name d.scope s₁.heap.objs.size fa cd).kindOf [(x, .ref a)] fun _ => none) →
      Cl s₁.heap.objs.size (cellsFrom (s₁.heap.objs.size + 1) d.scope.names []) s.heap (bindC (envOfC d.name d.scope s₁.heap.objs.size fa cd).kindOf [(x, .ref a)] fun _ => none) →
      wpAny (model l.prog w) (callerA.deeper (envOfC d.name d.scope s₁.heap.objs.size fa cd)) (execs d.body (envOfC d.name d.scope s₁.heap.objs.size fa cd))
        (fun f s' => f = .ret (.bool true) ∧ (∀ b o, s₁.heap.get? b = some o → s'.heap.get? b = some o) ∧ s'.os = s₁.os ∧ s'.gens = #[]) (fun _ _ => False) s) :
    WalkN q loose XP YP l.row.toRowW d [] (fun f vs => PySem.call f vs) := by
  intro w s₀ s₁ mg mb G Y fa o pm cd doc dV kV ho hd hcd hD hmg hg args vals as hpre hlay hrd hwl hlo
  obtain rfl : dV = .none := Dflts.none hD hdf
  obtain rfl : kV = .none := Dflts.noKw hD
  obtain ⟨a, vs, ns, rfl, rfl, hobj, hints, hlen⟩ := script_of hn hpre hwl
  refine enter_callW ?_
  refine call_cells_ret (o := o) (by rw [depth_caller]; decide) ho (fd_plain hd) G.T.nolimit hcd (hbind pm cd doc (.ref a)) (fun y hy => ?_) (fun h₁ tk F X => ?_) hco hgen hk
  · obtain rfl : y = (x, Value.ref a) := List.mem_singleton.mp hy
    rcases hx with e | e
    · exact .inl e
    · exact .inr ⟨e, cellsFrom_some _ _ _ (.inl e)⟩
  · refine wpAny_mono (body w s₀ s₁ { s₁ with heap := h₁, toks := tk } mg mb fa o pm cd doc a vs ns G Y ho (fd_plain hd) hcd hmg hobj hints hlen hg rfl F X) (fun f s' hq => ?_) (fun _ _ hq => hq)
    obtain ⟨rfl, h2, h3, h4⟩ := hq
    exact ⟨.inl ⟨.bool true, .bool true, [], rfl, fun _ => rfl, .bool true, post_true l _, fun _ => ⟨List.Pairwise.nil, fun _ hm => (nomatch hm)⟩⟩, h2, h3, h4⟩

/-! ### rules over ANY heap (no ledger) from facts about the written part K: the library's own take a ledger (News) for what they write -/
section
variable {prog : Program} {w : World} {A : Around} {E : Value → Shared → Prop} {s : Shared} {K : Frag}

/-- a def of the module, or a method (qual 'C.m'), entered: the frame is the next address; cells behind it -/
theorem call_fn {R : Result → Shared → Prop} {name qual : Str} {params : Arguments} {body : List Stmt} {scope : Scope} {dV kV doc pm cdv ct oc : Value} {an od : Option Addr} {osl : Array (Option Value)} {f : Addr} {args : Args} {binds : List (Str × Value)}
    (X : K.In s.heap) (hlim : s.heap.NoLimit) (ho : K.lookup f = some ⟨oc, od, .func (fnOf name qual params body scope dV kV doc pm an cdv ct), osl⟩) (hcd : codeIn K cdv qual = true) (hroom : A.depth < recursionLimit)
    (hbind : BindsTo s (fnOf name qual params body scope dV kV doc pm an cdv ct) args binds)
    (hkind : (binds.all fun y => scope.names.lookup y.1 == some .local || scope.names.lookup y.1 == some .cell) = true)
    (h : ∀ s₁, InCallC s s.heap.objs.size (bindL (envOfC qual scope s.heap.objs.size f cdv).kindOf binds fun _ => none) (cellsFrom (s.heap.objs.size + 1) scope.names [])
        (bindC (envOfC qual scope s.heap.objs.size f cdv).kindOf binds fun _ => none) s₁ →
      wpAny (model prog w) (A.deeper (envOfC qual scope s.heap.objs.size f cdv)) (execs body (envOfC qual scope s.heap.objs.size f cdv))
        (fun fl s' => R (.ok (.ret (match fl with | .ret v => v | _ => .none))) s')
        (fun e s' => wpAny (model prog w) (A.deeper (envOfC qual scope s.heap.objs.size f cdv)) (leaving (envOfC qual scope s.heap.objs.size f cdv) e) (fun _ s'' => R (.error e) s'') (fun e' s'' => R (.error e') s'') s') s₁)
    (hco : scope.isCoroutine = false) (hgen : scope.isGenerator = false) (hk : scope.kind = .function) : codeAny (model prog w) A (.call (.ref f) args) R s := by
  refine codeAny_call_function hroom (X _ _ ho) rfl hco hgen rfl (codeRec_of X hcd) (hbind _ _ _ _ ?_)
  refine wpAny_newFunctionEnv_cells hk (kindsX hkind _) fun env he s₁ x => ?_
  subst he
  exact ⟨hlim.keeps x.toInCall.keep, codeAny_func (h s₁ x)⟩

/-- C(..): dict at size, instance at size + 1, then __init__ -/
theorem make_obj {R : Result → Shared → Prop} {C fI : Addr} {rest : List Value} {kw : List (Str × Value)}
    (X : K.In s.heap) (hm : makesIn K C = true) (hi : findIn K (.ref C) "__init__" = some (some (.ref fI))) (hf : isFn K (.ref fI) = true)
    (h : codeAny (model prog w) (A.under (.builtin "type.__call__" ⟨.ref C :: rest, kw⟩)) (.call (.ref fI) ⟨.ref (s.heap.objs.size + 1) :: rest, kw⟩) (InitBack (s.heap.objs.size + 1) R)
      { s with heap := (s.heap.push emptyDict).push (instObj C s.heap.objs.size) }) : codeAny (model prog w) A (.call (.ref C) ⟨rest, kw⟩) R s := by
  obtain ⟨hh, g, d, t, os⟩ := s
  exact make_core (makes_of X hm) (looks_findIn X hi) (fun self => bind_fn X self (beq_iff_eq.mp hf)) (.inl rfl) h

/-- x.name where the instance's dict holds the name and the class does not -/
theorem get_field {x C : Addr} {ox : Obj} {es : List DictEntry} {n : Nat} {name : Str} {expr : Bool} {v : Value} {Q : Value → Shared → Prop}
    (X : K.In s.heap) (I : PySem.W.InstAt s.heap x ox C (some (dictOf es n))) (hg : plainGet K C name = true) (hh : hasDictIn K C = true) (ha : findIn K (.ref C) name = some none)
    (hl : getL name es = some (some v)) (hv : handedIn v = true) (h : Q v { s with toks := s.toks + 1 }) : wpAny (model prog w) A (getAttr (.ref x) name expr) Q E s :=
  get_value X I (plainGet_of hg).1 (findObj_own hh ha rfl hl) hv h

/-- x.m(..): the method found in the class -/
theorem get_method {x C f : Addr} {ox : Obj} {es : List DictEntry} {n : Nat} {name : Str} {pl : Sem Bool} {Q : Value × List Value → Shared → Prop}
    (X : K.In s.heap) (I : PySem.W.InstAt s.heap x ox C (some (dictOf es n))) (hg : plainGet K C name = true) (hf : findIn K (.ref C) name = some (some (.ref f))) (ht : isFn K (.ref f) = true)
    (hl : getL name es = some none) (h : Q (.ref f, [.ref x]) s) : wpAny (model prog w) A (getMethod (.ref x) name pl) Q E s :=
  method_fn X I (plainGet_of hg).1 (plainGet_of hg).2 hf (beq_iff_eq.mp ht) (by show (lookIn name (dictOf es n)).map _ = _; rw [lookIn_dict, hl]; rfl) h

/-! the whole heap as the ledger: makes every rule that writes through a ledger a rule over any heap -/
def noObjs (h : Heap) : Heap := { h with objs := #[] }
theorem noObjs_get (h : Heap) (b : Addr) : (noObjs h).get? b = none := by
  cases e : (noObjs h).get? b with
  | none => rfl
  | some o => exact absurd (Heap.lt_size e) (Nat.not_lt_zero _)
def ledger (h : Heap) (L d : Addr) : List (Addr × Obj) := (List.range h.objs.size).filterMap fun a => if a = L ∨ a = d then none else (h.get? a).map fun o => (a, o)
theorem mem_ledger {h : Heap} {L d a : Addr} {o : Obj} : (a, o) ∈ ledger h L d ↔ a ≠ L ∧ a ≠ d ∧ h.get? a = some o := by
  unfold ledger
  rw [List.mem_filterMap]
  constructor
  · rintro ⟨b, _, e⟩
    split at e
    · cases e
    · rename_i hb
      obtain ⟨o', ho, e'⟩ := Option.map_eq_some_iff.mp e
      cases e'
      exact ⟨fun q => hb (.inl q), fun q => hb (.inr q), ho⟩
  · rintro ⟨n1, n2, ho⟩
    refine ⟨a, List.mem_range.mpr (Heap.lt_size ho), ?_⟩
    rw [if_neg (show ¬ (a = L ∨ a = d) from fun q => q.elim n1 n2), ho] <;> rfl
theorem news_ledger {h : Heap} {L d : Addr} {od : Obj} (hne : d ≠ L) (ho : h.get? d = some od) : News (noObjs h) L h ([] ++ (d, od) :: ledger h L d) := by
  rintro ⟨a, o⟩ hp
  rcases List.mem_cons.mp hp with e | hp
  · cases e
    exact ⟨ho, hne, noObjs_get _ _⟩
  · obtain ⟨n1, n2, e⟩ := mem_ledger.mp hp
    exact ⟨e, n1, noObjs_get _ _⟩
theorem fr_all {h : Heap} {L : Addr} {m : Str → Option Value} (n : h.Ns L m) : Fr (noObjs h) L h m :=
  ⟨n, fun b o e => (by rw [noObjs_get] at e; cases e), Nat.zero_le _⟩
/-- Upd of the head entry (for append_K, setItem_K ..) -/
theorem upd_ledger {h : Heap} {L d : Addr} {o o' : Obj} : Upd d o o' ((d, o) :: ledger h L d) ((d, o') :: ledger h L d) :=
  .head fun ⟨_, _⟩ hp => (mem_ledger.mp hp).2.1

/-- x.name = v over any heap: L is any namespace of the heap (the frame's, say): its map stays, its object is not told; all else but the dict stays -/
theorem set_field {x C dx L : Addr} {ox : Obj} {m : Str → Option Value} {es es' : List DictEntry} {n n' : Nat} {name : Str} {v : Value} {Q : Unit → Shared → Prop}
    (X : K.In s.heap) (I : PySem.W.InstAt s.heap x ox C (some (dictOf es n))) (hd : ox.dict = some dx) (hL : s.heap.Ns L m) (hne : dx ≠ L)
    (hs : findIn K (.ref C) "__setattr__" = some (some (.builtin "object.__setattr__"))) (hp : plainOver K C = true) (ht : takerIn K C name = some none) (hh : hasDictIn K C = true) (hl : (getL name es).isSome = true)
    (e : (putL name (PyData.keyHash w.params name) (.str name (s.toks + 1)) v es, putN name es n) = (es', n')) (hz : es'.length ≤ 1000)
    (h : ∀ h' : Heap, h'.Ns L m → h'.get? dx = some (dictOf es' n') → (∀ b o, b ≠ dx → b ≠ L → s.heap.get? b = some o → h'.get? b = some o) → Q () { s with heap := h', toks := s.toks + 2 }) :
    wpAny (model prog w) A (setAttr (.ref x) name v) Q E s := by
  obtain ⟨e1, e2⟩ := Prod.mk.inj e
  have hdx : s.heap.get? dx = some (dictOf es n) := by
    have := I.dict
    rw [hd] at this
    exact this
  refine set_plain X I hs (osa_dict (s := { s with toks := s.toks + 1 }) (h₀ := noObjs s.heap) (L := L) (m := m) (od := dictOf es n) (od' := dictOf es' n') (es := es') (n := n') (pre := []) (post := ledger s.heap L dx)
    (fr_all hL) (news_ledger hne hdx) X I hd hp ht hh hl (fun _ q => nomatch q) (fun ⟨_, _⟩ q => (mem_ledger.mp q).2.1) (by rw [putName_dict, e1, e2]) rfl hz fun h' F' N' => ?_)
  exact h h' F'.ns (N'.get (List.Mem.head _)) fun b o n1 n2 ho => N'.get (List.Mem.tail _ (mem_ledger.mpr ⟨n2, n1, ho⟩))
end
end Att

namespace L2
open PySem PySem.Spec PyProof.Rows

theorem vals_ints : ∀ {vs : List Value} {ns : List Int}, IntsAre vs ns → Vals (ns.map V.int) vs
  | _, _, .nil => .nil
  | _, _, .cons n t h => .cons ⟨t, rfl⟩ (vals_ints h)

/-- nothing is tracked but the script, known to the object (or it is an object of the module) -/
def Only (H : Hp) : Prop := ∀ b, H b = none ∨ ∃ o xs, H b = some (.frz o (.lst xs))

/-- THE HEAD: the law's promise, at the heap behind the top. F, the promise of the law's def, may use that base is part of the heap (so K.In base, base.Ns mainGlobals mg stand in Mod) -/
theorem law_call {P : Program} {w : World} {K : PySem.W.Frag} {mg mb : Str → Option Value} {CX : CXT} {k : Nat} {fa a : Addr} {fd : FuncData} {x : Str} {sp : Sp} {s₁ : Shared} {vs : List Value} {ns : List Int}
    (KX : K.In s₁.heap) (hns : s₁.heap.Ns mainGlobals mg) (hb : s₁.heap.Ns builtinsNs mb) (hbb : ∀ x : Str, x ≠ "__name__" → mb x = bootBuiltins x) (hlim : s₁.heap.NoLimit) (hg : s₁.gens = #[])
    (ha : s₁.heap.get? a = some { cls := .type "list", data := .seq vs.toArray }) (hi : IntsAre vs ns) (hl : ns.length ≤ sizeLine) (hr : Room k callerA)
    (F : ∀ base : Heap, K.In base → base.Ns mainGlobals mg → FnOk P w K mg base CX k fa fd [x] sp) (hbind : ∀ (s : Shared) (u : Value), BindsTo s fd ⟨[u], []⟩ [(x, u)])
    (hsp : ∀ H : Hp, Only H → SqL K H a (ns.map V.int) → sp [.ref a] H (fun v _ => v = .bl true) fun _ _ _ => False)
    (hCX : ∀ H e s', CX [] H s₁ (fun _ _ _ => False) e s' → False) :
    codeAny (model P w) callerA (.call (.ref fa) ⟨[.ref a], []⟩) (fun r s' => r = .ok (.ret (.bool true)) ∧ OldK s₁.heap s'.heap ∧ s'.os = s₁.os ∧ AllBare s'.gens) s₁ := by
  have rv := vals_ints hi
  have lenV := hi.length
  -- from an abstract heap in which nothing but the script may be tracked
  have core : ∀ H : Hp, Only H → SqL K H a (ns.map V.int) → HOk P w H s₁.heap → (∀ b, H b ≠ none → b = a) → (H a ≠ none → K.lookup a = none) →
      codeAny (model P w) callerA (.call (.ref fa) ⟨[.ref a], []⟩) (fun r s' => r = .ok (.ret (.bool true)) ∧ OldK s₁.heap s'.heap ∧ s'.os = s₁.os ∧ AllBare s'.gens) s₁ := by
    intro H hO hS hok hA hK
    have base_of : ∀ {b : Addr} {o : Obj}, s₁.heap.get? b = some o → H b = none → (hidT s₁.heap H).get? b = some o := fun e n => hidT_get e n
    have noA : ∀ {b : Addr} {o : Obj} {es : Array DictEntry} {ep : Nat}, s₁.heap.get? b = some o → o.data = .dict es ep → H b = none := fun {b o es ep} e d => by
      cases q : H b with
      | none => rfl
      | some u =>
        have e' : b = a := hA b (by rw [q]; simp)
        subst e'
        rw [ha] at e; cases e
        have d' : Data.seq vs.toArray _ = Data.dict es ep := d
        cases d'
    have nsK : ∀ {b : Addr} {m : Str → Option Value}, s₁.heap.Ns b m → (hidT s₁.heap H).Ns b m := fun {b m} ⟨o, es, ep, e, d, r⟩ => ⟨o, es, ep, base_of e (noA e d), d, r⟩
    have hKb : K.In (hidT s₁.heap H) := fun b o e => base_of (KX b o e) (by
      cases q : H b with
      | none => rfl
      | some u =>
        have e' : b = a := hA b (by rw [q]; simp)
        subst e'
        rw [hK (by rw [q]; simp)] at e; cases e)
    have hM : Mod K mg (hidT s₁.heap H) := ⟨hKb, nsK hns, ⟨mb, nsK hb, hbb⟩, let ⟨mc, h1, h2⟩ := hlim; ⟨mc, nsK h1, h2⟩⟩
    have e0 : Env0 P w K mg (hidT s₁.heap H) callerA [] s₁ H := ⟨rfl, hM, fun b o e => of_hidT e, Nat.le_of_eq (hidT_size _ _), trivial, fun b hb => absurd (show b ∈ ([] : List Addr) from hb) (by simp), hok, .of_eq hg⟩
    refine codeAny_mono ((F _ hKb (nsK hns)).run callerA [] s₁ H ⟨[.ref a], []⟩ [.ref a] [.ref a] _ _ hr e0 (hbind s₁ (.ref a)) (.cons rfl .nil) (hsp H hO hS)) fun r s' h => ?_
    cases r with
    | error e => exact (hCX H e s' h).elim
    | ok fl =>
      cases fl with
      | next => exact False.elim h
      | brk => exact False.elim h
      | cont => exact False.elim h
      | ret u =>
        obtain ⟨v, H', os, bare, un, hok', r', q⟩ := h
        have q' : v = .bl true := q
        subst q'
        obtain rfl : u = Value.bool true := r'
        refine ⟨rfl, OldK.of_keep fun b o e => ?_, os, bare⟩
        cases q : H b with
        | none => exact un.keep b o e q (by intro z; exact absurd (show b ∈ ([] : List Addr) from z) (by simp)) (by simp)
        | some u =>
          rcases hO b with z | ⟨ob, xs, z⟩
          · rw [q] at z; cases z
          · have z2 := un.frzs b ob _ z
            obtain ⟨e1, _⟩ := hok b _ z
            obtain ⟨e2, _⟩ := hok' b _ z2
            rw [e] at e1; cases e1
            exact e2
  cases hk : K.lookup a with
  | some o =>
    -- the script is one of the module's own objects
    have e := KX a o hk
    rw [ha] at e
    cases e
    refine core (fun _ => none) (fun _ => .inl rfl) (.inr ⟨_, vs.toArray, _, hk, rfl, rfl, rfl, by rw [List.size_toArray, lenV]; exact hl, by simpa using rv⟩) (fun b u z => by have z' : (none : Option HO) = some u := z; cases z') (fun b z => absurd rfl z) fun z => absurd rfl z
  | none =>
    refine core (fun b => if b = a then some (.frz { cls := .type "list", data := .seq vs.toArray } (.lst (ns.map V.int))) else none) (fun b => ?_) (.inl (.inr ⟨{ cls := .type "list", data := .seq vs.toArray }, if_pos rfl⟩)) (fun b u z => ?_) (fun b z => ?_) fun _ => hk
    · by_cases hb : b = a
      · exact .inr ⟨_, _, if_pos hb⟩
      · exact .inl (if_neg hb)
    · by_cases hb : b = a
      · have z' := (if_pos hb).symm.trans z
        cases z'
        subst hb
        exact ⟨ha, by rw [List.length_map]; exact hl, vs, _, rv, ha⟩
      · have z' := (if_neg hb).symm.trans z
        cases z'
    · by_cases hb : b = a
      · exact hb
      · exact absurd (if_neg hb) z
end L2

namespace L2
open PySem PySem.Spec PyProof.Rows

abbrev KOf {K : PySem.W.Frag} {h : Heap} (_ : K.In h) : PySem.W.Frag := K

/-- the goal that k_head leaves (case hc), from the law's promise. F gives the function object fd (K's own) once, then the promise over every base -/
theorem walk_of {l : PySem.W.OpenLaw} {n k : Nat} {q : Program} {loose : List Str} {XP : (Str → Option Value) → Heap → Prop} {YP : World → Heap → Prop} {d : DefRec} {K : Params → PySem.W.Frag} {CX : World → CXT} {sp : World → Sp} {x : Str}
    (hn : l.most = some n) (hn2 : n ≤ sizeLine) (hdf : d.params.defaults = []) (hr : Room k callerA)
    (hY : ∀ (w : World) (h : Heap), YP w h → (K w.params).In h)
    (F : ∀ (w : World) (mg : Str → Option Value) (fa : Addr) (h : Heap), (K w.params).In h → h.Ns mainGlobals mg → mg d.name = some (.ref fa) →
      ∃ fd : FuncData, (∀ (s : Shared) (u : Value), BindsTo s fd ⟨[u], []⟩ [(x, u)]) ∧
        ∀ base : Heap, (K w.params).In base → base.Ns mainGlobals mg → FnOk l.prog w (K w.params) mg base (CX w) k fa fd [x] (sp w))
    (hsp : ∀ (w : World) (H : Hp) (a : Addr) (ns : List Int), ns.length ≤ n → Only H → SqL (K w.params) H a (ns.map V.int) → sp w [.ref a] H (fun v _ => v = .bl true) fun _ _ _ => False)
    (hCX : ∀ (w : World) (H : Hp) (s : Shared) (e : Value) (s' : Shared), CX w [] H s (fun _ _ _ => False) e s' → False) :
    PySem.W.WalkO q loose XP YP l.row.toRowW d [] (fun f vs => PySem.call f vs) := by
  refine Att.attach_call hn hdf fun w s₀ s₁ mg mb fa o pm cd doc a vs ns G Y ho hd hcd hmg hobj hints hlen hg => ?_
  have KX := hY w _ Y
  obtain ⟨fd, hb, hF⟩ := F w mg fa _ KX G.T.g hmg
  exact law_call KX G.T.g G.T.b G.T.builtins G.T.nolimit hg hobj hints (Nat.le_trans hlen hn2) hr hF hb (fun H hO hS => hsp w H a ns hlen hO hS) fun H e s' => hCX w H s₁ e s'
/-- the same where the promise hangs on the written part alone: (sp := My.sp_law), no hole under a binder -/
theorem walk_ofK {l : PySem.W.OpenLaw} {n k : Nat} {q : Program} {loose : List Str} {XP : (Str → Option Value) → Heap → Prop} {YP : World → Heap → Prop} {d : DefRec} {K : Params → PySem.W.Frag} {CX : CXT} {sp : PySem.W.Frag → Sp} {x : Str}
    (hn : l.most = some n) (hn2 : n ≤ sizeLine) (hdf : d.params.defaults = []) (hr : Room k callerA)
    (hY : ∀ (w : World) (h : Heap), YP w h → (K w.params).In h)
    (F : ∀ (w : World) (mg : Str → Option Value) (fa : Addr) (h : Heap), (K w.params).In h → h.Ns mainGlobals mg → mg d.name = some (.ref fa) →
      ∃ fd : FuncData, (∀ (s : Shared) (u : Value), BindsTo s fd ⟨[u], []⟩ [(x, u)]) ∧
        ∀ base : Heap, (K w.params).In base → base.Ns mainGlobals mg → FnOk l.prog w (K w.params) mg base CX k fa fd [x] (sp (K w.params)))
    (hsp : ∀ (K : PySem.W.Frag) (H : Hp) (a : Addr) (ns : List Int), ns.length ≤ n → Only H → SqL K H a (ns.map V.int) → sp K [.ref a] H (fun v _ => v = .bl true) fun _ _ _ => False)
    (hCX : ∀ (H : Hp) (s : Shared) (e : Value) (s' : Shared), CX [] H s (fun _ _ _ => False) e s' → False) :
    PySem.W.WalkO q loose XP YP l.row.toRowW d [] (fun f vs => PySem.call f vs) :=
  walk_of (K := K) (CX := fun _ => CX) (sp := fun w => sp (K w.params)) hn hn2 hdf hr hY F (fun w H a ns h1 h2 h3 => hsp (K w.params) H a ns h1 h2 h3) fun _ H s e s' => hCX H s e s'
end L2


/-! SHORT WORDS over the layer: a def of the text, its body, what a loop and a test want. -/
namespace L2
open PySem PySem.Spec PyProof.Rows

/-! ### the text by places -/
/-- the j-th statement of a class's body -/
def inClass (s : Stmt) (j : Nat) : Stmt := match s with
  | .ClassDef _ _ _ body _ _ _ _ _ _ _ => body.getD j (.Pass ⟨0, 0, 0, 0⟩)
  | _ => .Pass ⟨0, 0, 0, 0⟩
def defArgs (s : Stmt) : Arguments := match s with
  | .FunctionDef _ a _ _ _ _ _ _ _ _ => a
  | _ => { posonlyargs := [], args := [], vararg := none, kwonlyargs := [], kw_defaults := [], kwarg := none, defaults := [] }
def defBody (s : Stmt) : List Stmt := match s with
  | .FunctionDef _ _ b _ _ _ _ _ _ _ => b
  | _ => []
def defScope (s : Stmt) : Scope := match s with
  | .FunctionDef _ _ _ _ _ _ sc _ _ _ => sc
  | _ => { kind := .function, names := [], isGenerator := false, isCoroutine := false }

/-! ### no exception leaves a def -/
abbrev CX0 : CXT := fun _ _ _ _ _ _ => False
abbrev E0 : XK := fun _ _ _ => False
theorem pass0 {X : Cx} : Passes CX0 X E0 := fun _ _ _ _ _ _ _ h => h.elim

/-! ### a def (or method) of the text as it stands behind the top -/
structure Fun (K : PySem.W.Frag) (x qual : Str) (st : Stmt) (f : Addr) (fd : FuncData) : Prop where
  ex : ∃ (oc : Value) (od : Option Addr) (kV doc pm : Value) (an : Option Addr) (cdv ct : Value) (osl : Array (Option Value)),
    fd = PySem.W.fnOf x qual (defArgs st) (defBody st) (defScope st) .none kV doc pm an cdv ct ∧ K.lookup f = some ⟨oc, od, .func fd, osl⟩ ∧ PySem.W.codeIn K cdv qual = true
  kp : PySem.W.keepIn K (.ref f) = true
section
variable {P : Program} {w : World} {K : PySem.W.Frag} {mg : Str → Option Value} {base : Heap}
/-- THE RULE for a def: its body as a term of rules, and the reading of that term -/
theorem Fun.ok {x qual : Str} {st : Stmt} {f : Addr} {fd : FuncData} {N ps : List Str} {k : Nat} {sp : Sp} (F : Fun K x qual st f fd) (S : FnScope N ps (defScope st)) (len : ∀ vs H Q E, sp vs H Q E → vs.length = ps.length)
    (hbody : ∀ (cdv : Value) (A : Around) (outer : List Env) (s : Shared) (H : Hp) (vs : List V) (Q : VK) (E : XK), Room k (A.deeper (envOfC qual (defScope st) s.heap.objs.size f cdv)) → sp vs H Q E →
      ∃ t, PSs (cxOf CX0 P w K mg base N qual (defScope st) f cdv A outer s H E).nox (defBody st) t ∧ t { nx := fun _ H' => Q .non H', rt := Q } (start N vs) H) : FnOk P w K mg base CX0 (k + 1) f fd ps sp := by
  obtain ⟨oc, od, kV, doc, pm, an, cdv, ct, osl, rfl, lk, hcd⟩ := F.ex
  refine fn_of lk hcd S len fun A outer s H vs Q E hr hsp => ?_
  obtain ⟨t, h, q⟩ := hbody cdv A outer s H vs Q E hr hsp
  exact ⟨t, h.nox, q⟩
/-- how its arguments bind (no defaults): h is «fun _ _ _ _ _ _ us hl => match us, hl with | [_, _], _ => rfl», one _ a parameter -/
theorem Fun.binds {x qual : Str} {st : Stmt} {f : Addr} {fd : FuncData} {ps : List Str} (F : Fun K x qual st f fd)
    (h : ∀ (kV doc pm : Value) (an : Option Addr) (cdv ct : Value) (us : List Value), us.length = ps.length → bindArgs (PySem.W.fnOf x qual (defArgs st) (defBody st) (defScope st) .none kV doc pm an cdv ct) ⟨us, []⟩ = pure (ps.zip us)) : Binds K fd ps [] := by
  obtain ⟨oc, od, kV, doc, pm, an, cdv, ct, osl, rfl, lk, hcd⟩ := F.ex
  exact .all (h kV doc pm an cdv ct)
theorem fun_mk {x qual : Str} {st : Stmt} {f : Addr} {oc : Value} {od an : Option Addr} {osl : Array (Option Value)} {kV doc pm cdv ct : Value} (l : K.lookup f = some ⟨oc, od, .func (PySem.W.fnOf x qual (defArgs st) (defBody st) (defScope st) .none kV doc pm an cdv ct), osl⟩)
    (c : PySem.W.codeIn K cdv qual = true) (k : PySem.W.keepIn K (.ref f) = true) : Fun K x qual st f (PySem.W.fnOf x qual (defArgs st) (defBody st) (defScope st) .none kV doc pm an cdv ct) := ⟨⟨oc, od, kV, doc, pm, an, cdv, ct, osl, rfl, l, c⟩, k⟩
end
theorem hu_of {A : Around} {k : Nat} (hr : Room k A) : A.units + 1 < cLine := Nat.lt_of_le_of_lt (Nat.add_le_add_left (by decide : 1 ≤ 64) _) hr.units
theorem small1000 {n : Nat} (h : n ≤ 1000) : n < sizeLine := Nat.lt_of_le_of_lt h (by decide)

/-! ### expressions in short: the name that stands in the i-th slot -/
section
variable {X : Cx}
theorem pv (i : Nat) {x : Str} {pos : Pos} (hN : X.N[i]? = some x := by rfl) (hv : Vis X.env.scope x := by first | exact Or.inl rfl | exact Or.inr (Or.inl rfl) | exact Or.inr (Or.inr rfl)) (hd : (x == ("__debug__" : Str)) = false := by decide)
    (hcd : (x == ("__classdict__" : Str)) = false := by decide) : PE X (.Name x pos) (tVar i) := pe_var hN hv hd hcd
/-- len of a dict -/
theorem call_lenD : CallR X (.builtin "len") (fun xs H Q => ∃ a kvs, xs = [V.ref a] ∧ H a = some (.dK kvs) ∧ Q (.int kvs.length) H) := by
  intro pins s σ H xs us Q I r h
  obtain ⟨a, kvs, rfl, ha, q⟩ := h
  obtain ⟨u, rfl, ru⟩ := vals1 r
  cases ru
  exact d_len I (.inl ha) fun t s' I' => ⟨.int kvs.length, H, I', ⟨t, rfl⟩, q⟩
end

/-! ### tests -/
theorem iteF {A B : Prop} (h : B) : if false = true then A else B := by
  rw [if_neg Bool.false_ne_true]
  exact h
theorem iteT {A B : Prop} (h : A) : if true = true then A else B := by
  rw [if_pos rfl]
  exact h
theorem ite2 {c A B : Prop} [Decidable c] (h1 : c → A) (h2 : ¬ c → B) : if c then A else B := by
  by_cases h : c
  · rw [if_pos h]
    exact h1 h
  · rw [if_neg h]
    exact h2 h
theorem iteNS {c A B : Prop} [Decidable c] (hc : c) (h : B) : if (!decide c) = true then A else B := by
  rw [decide_eq_true hc]
  exact iteF h

/-! ### heaps -/
/-- all that was tracked is as it was -/
def Same (H H' : Hp) : Prop := ∀ b o, H b = some o → H' b = some o
theorem Same.refl (H : Hp) : Same H H := fun _ _ h => h
theorem Same.trans {H H1 H2 : Hp} (a : Same H H1) (b : Same H1 H2) : Same H H2 := fun c o h => b c o (a c o h)
theorem Same.free {H H' : Hp} (e : Same H H') {l : Addr} (h : H' l = Option.none) : H l = Option.none := by
  cases q : H l with
  | none => rfl
  | some o =>
    rw [e l o q] at h
    cases h
theorem Same.seq {K : PySem.W.Frag} {H H' : Hp} {a : Addr} {xs : List V} (e : Same H H') (h : SqL K H a xs) : SqL K H' a xs := by
  rcases h with (h | ⟨o, h⟩) | h
  · exact .inl (.inl (e _ _ h))
  · exact .inl (.inr ⟨o, e _ _ h⟩)
  · exact .inr h

/-! ### a dict's pairs: keys that differ -/
section
variable {κ : Type} [DecidableEq κ]
theorem valV_not {kvs : List (κ × V)} {k : κ} (h : valV kvs k = none) : ¬ k ∈ kvs.map (·.1) := by
  intro m
  obtain ⟨p, hp, e⟩ := List.mem_map.mp m
  have q : (kvs.any fun kv => decide (kv.1 = k)) = true := List.any_eq_true.mpr ⟨p, hp, decide_eq_true e⟩
  rw [valV_any, h] at q
  exact absurd q (by simp)
theorem valV_in {kvs : List (κ × V)} {k : κ} {v : V} (h : valV kvs k = some v) : k ∈ kvs.map (·.1) := by
  have q : (kvs.any fun kv => decide (kv.1 = k)) = true := by
    rw [valV_any, h]
    all_goals rfl
  obtain ⟨p, hp, e⟩ := List.any_eq_true.mp q
  exact List.mem_map.mpr ⟨p, hp, of_decide_eq_true e⟩
theorem nd_snoc : ∀ {l : List κ} {k : κ}, l.Nodup → ¬ k ∈ l → (l ++ [k]).Nodup
  | [], k, _, _ => by simp
  | a :: r, k, h, hk => by
    obtain ⟨h1, h2⟩ := List.nodup_cons.mp h
    show (a :: (r ++ [k])).Nodup
    refine List.nodup_cons.mpr ⟨fun m => ?_, nd_snoc h2 fun m => hk (List.mem_cons.mpr (Or.inr m))⟩
    rcases List.mem_append.mp m with q | q
    · exact h1 q
    · exact hk (List.mem_cons.mpr (Or.inl (List.mem_singleton.mp q).symm))
theorem nd_putK {kvs : List (κ × V)} {k : κ} (v : V) (hn : (kvs.map (·.1)).Nodup) (h : valV kvs k = none) : ((putK kvs k v).map (·.1)).Nodup := by
  rw [putK_new v h, List.map_append]
  exact nd_snoc hn (valV_not h)
theorem dropK_pos {p : κ × V} {r : List (κ × V)} {k : κ} (e : p.1 = k) : dropK (p :: r) k = dropK r k := by
  unfold dropK
  rw [List.filter_cons, if_neg (by simp [e])]
theorem dropK_neg {p : κ × V} {r : List (κ × V)} {k : κ} (e : ¬ p.1 = k) : dropK (p :: r) k = p :: dropK r k := by
  unfold dropK
  rw [List.filter_cons, if_pos (by simp [e])]
theorem dropK_no : ∀ {kvs : List (κ × V)} {k : κ}, ¬ k ∈ kvs.map (·.1) → dropK kvs k = kvs
  | [], _, _ => rfl
  | p :: r, k, h => by
    have h' : ¬ k ∈ r.map (·.1) := fun m => by
      obtain ⟨q, hq, e⟩ := List.mem_map.mp m
      exact h (List.mem_map.mpr ⟨q, List.mem_cons.mpr (Or.inr hq), e⟩)
    rw [dropK_neg fun e => h (List.mem_map.mpr ⟨p, List.mem_cons.mpr (Or.inl rfl), e⟩), dropK_no h']
theorem dropK_mem {kvs : List (κ × V)} {k : κ} {p : κ × V} (h : p ∈ dropK kvs k) : p ∈ kvs := (List.mem_filter.mp h).1
theorem nd_dropK : ∀ {kvs : List (κ × V)} {k : κ}, (kvs.map (·.1)).Nodup → ((dropK kvs k).map (·.1)).Nodup
  | [], _, _ => List.nodup_nil
  | p :: r, k, h => by
    have h : (p.1 :: r.map (·.1)).Nodup := h
    obtain ⟨h1, h2⟩ := List.nodup_cons.mp h
    by_cases e : p.1 = k
    · rw [dropK_pos e]
      exact nd_dropK h2
    · rw [dropK_neg e]
      show (p.1 :: (dropK r k).map (·.1)).Nodup
      refine List.nodup_cons.mpr ⟨fun m => h1 ?_, nd_dropK h2⟩
      obtain ⟨q, hq, eq⟩ := List.mem_map.mp m
      exact List.mem_map.mpr ⟨q, dropK_mem hq, eq⟩
theorem dropK_len : ∀ {kvs : List (κ × V)} {k : κ}, (kvs.map (·.1)).Nodup → k ∈ kvs.map (·.1) → (dropK kvs k).length + 1 = kvs.length
  | [], _, _, m => by simp at m
  | p :: r, k, h, m => by
    have h : (p.1 :: r.map (·.1)).Nodup := h
    have m : k = p.1 ∨ k ∈ r.map (·.1) := List.mem_cons.mp m
    obtain ⟨h1, h2⟩ := List.nodup_cons.mp h
    by_cases e : p.1 = k
    · subst e
      rw [dropK_pos rfl, dropK_no h1]
      all_goals rfl
    · have m' : k ∈ r.map (·.1) := m.resolve_left fun z => e z.symm
      have q := dropK_len h2 m'
      rw [dropK_neg e, List.length_cons, List.length_cons]
      omega
end
end L2

set_option Elab.async false
set_option linter.all false
set_option maxRecDepth 100000
set_option maxHeartbeats 4000000
namespace L2
open PySem PySem.Spec PyProof.Rows PySem.W
open PySem.Builtin.ObjectAttr (find dataDescriptor? getOf)
open PySem.Builtin.Getset_descriptor (descrGet descrGetter descrCheckInstance descrNameAndClass)

section
variable {prog : Program} {w : World} {A : Around} {E : Value → Shared → Prop} {h : Heap} {g : Array GenState} {d : Drawn} {t : Nat} {os : OsState} {K : Frag} {x C : Addr}

/-- what of the text an own error class must have -/
structure XCls (K : Frag) (C : Addr) : Prop where
  ga : findIn K (.ref C) "__getattribute__" = some (some (.builtin "BaseException.__getattribute__"))
  gt : findIn K (.ref C) "__getattr__" = some none
  cl : findIn K (.ref C) "__class__" = some (some (.builtin "object.__class__"))
  gg : specialIn K (.builtin "object.__class__") "__get__" = some (some (.builtin "getset_descriptor.__get__"))
  tk : takesIn K (.builtin "object.__class__") = some true
  ob : mroIn K C (.type "object") = some true
  be : mroIn K C (.type "BaseException") = some true

/-- the object at a is an instance of the class at C -/
def ExcAt (a C : Addr) (h : Heap) : Prop := ∃ oa, h.get? a = some oa ∧ oa.cls = .ref C
theorem ExcAt.type {M : Model} (I : ExcAt x C h) : Looks M h (typeOf (.ref x)) (.ref C) := by
  obtain ⟨oa, e1, e2⟩ := I
  exact e2 ▸ (Looks.ld e1).andThen .now

theorem xcheck {M : Model} {nameV : Value} {Q : Unit → Shared → Prop} (X : K.In h) (T : XCls K C) (I : ExcAt x C h) (hq : Q () ⟨h, g, d, t, os⟩) :
    wpAny M A (checkBuiltinCall "BaseException.__getattribute__" ⟨[.ref x, nameV], []⟩) Q E ⟨h, g, d, t, os⟩ := by
  have k1 : builtinKind "BaseException.__getattribute__" = some .slot := by decide +kernel
  have k2 : splitId "BaseException.__getattribute__" = some ("BaseException", "__getattribute__") := by decide +kernel
  have k3 := F.args_bexc_ga (.ref x) nameV
  have L2 : Looks M h (isInstance (.ref x) (.type "BaseException")) true := I.type.andThen (looks_mroIn (M := M) X T.be)
  simp only [checkBuiltinCall, k1, k2]
  refine wpAny_bind (L2.at ?_)
  repeat (first | exact hq | wp_step)

theorem xfind {M : Model} (X : K.In h) (T : XCls K C) : Looks M h (find (.ref x) (.ref C) "__class__") (.bind (.builtin "getset_descriptor.__get__") (.builtin "object.__class__")) := by
  have l1 := looks_findIn (M := M) X T.cl
  have l2 : Looks M h (getOf (some (.builtin "object.__class__"))) (some (.builtin "getset_descriptor.__get__")) := looks_specialIn X T.gg
  have l3 : Looks M h (dataDescriptor? (some (.builtin "object.__class__")) (some (.builtin "getset_descriptor.__get__"))) (some (.builtin "getset_descriptor.__get__", .builtin "object.__class__")) := (looks_takesIn (M := M) X T.tk).andThen .now
  exact l1.andThen (l2.andThen (l3.andThen (Looks.tag .now)))

theorem xget {tp : Value} {R : Result → Shared → Prop} (X : K.In h) (T : XCls K C) (I : ExcAt x C h) (q : R (.ok (.ret (.ref C))) ⟨h, g, d, t, os⟩) :
    codeAny (model prog w) A (.call (.builtin "getset_descriptor.__get__") ⟨[.builtin "object.__class__", .ref x, tp], []⟩) R ⟨h, g, d, t, os⟩ := by
  have l0 := I.type (M := model prog w)
  have l1 := looks_mroIn (M := model prog w) X T.ob
  refine codeAny_call_builtin (KF.slot_gs).plain (KF.entry_gs) ((KF.slot_gs).check _ _ _ _ _ _ _ _ (KF.type_class) (KF.args_gs _ _ _) ?_)
  unfold Builtin.«getset_descriptor.__get__»
  unfold descrGet
  rw [dga_obj _ tp x]
  refine wpAny_bind (wpAny_pure ?_)
  unfold descrGetter descrCheckInstance
  unfold descrNameAndClass isInstance
  simp only [KF.owner_class, id]
  repeat (first | lk)
  refine ⟨Code.quiet_builtin _ (by decide +kernel), codeAny_builtin (KF.entry_class) ?_⟩
  unfold Builtin.«object.__class__»
  unfold shownTypeOf
  repeat (first | lk)
  exact q

theorem xentry {tk : Tok} {Q : Fin → Shared → Prop} (X : K.In h) (T : XCls K C) (I : ExcAt x C h) (hq : Q (.done (.ret (.ref C))) ⟨h, g, d, t, os⟩) :
    wpAny (model prog w) A (Builtin.«object.__getattribute__» ⟨[.ref x, .str "__class__" tk], []⟩) Q E ⟨h, g, d, t, os⟩ := by
  have L0 := I.type (M := model prog w)
  have L1 := xfind (x := x) (M := model prog w) X T
  unfold Builtin.«object.__getattribute__»
  refine wpAny_bind (wpAny_pure ?_)
  refine wpAny_bind (wpAny_pure ?_)
  refine wpAny_bind (L0.at ?_)
  refine wpAny_bind (L1.at ?_)
  unfold Builtin.ObjectAttr.bindTo
  refine wpAny_bind (wpAny_call ?_)
  refine xget X T I ?_
  exact wpAny_pure hq

theorem xcall {tk : Tok} {R : Result → Shared → Prop} (X : K.In h) (T : XCls K C) (I : ExcAt x C h) (hq : R (.ok (.ret (.ref C))) ⟨h, g, d, t, os⟩) :
    codeAny (model prog w) A (.call (.builtin "BaseException.__getattribute__") ⟨[.ref x, .str "__class__" tk], []⟩) R ⟨h, g, d, t, os⟩ :=
  codeAny_call_builtin F.excAttr_ValueError.ga.plain F.entry_bexc_ga (xcheck X T I (xentry X T I hq))

theorem xby {tk : Tok} {Q : Value → Shared → Prop} (X : K.In h) (T : XCls K C) (I : ExcAt x C h) (hq : Q (.ref C) ⟨h, g, d, t, os⟩) :
    wpAny (model prog w) A (getAttrBy (.ref x) (.str "__class__" tk) false) Q E ⟨h, g, d, t, os⟩ := by
  have f3 := F.excAttr_ValueError.ga.bind (.ref x)
  have z2 : (Value.builtin "BaseException.__getattribute__" == Value.builtin "object.__getattribute__") = false := by decide +kernel
  have z1 : (onTheHeap (Value.ref C) && Value.builtin "BaseException.__getattribute__" == Value.builtin "object.__getattribute__") = false := by rw [z2]; rfl
  have L0 := I.type (M := model prog w)
  have L1 := looks_findIn (M := model prog w) X T.ga
  have L2 := looks_findIn (M := model prog w) X T.gt
  unfold getAttrBy
  refine wpAny_holding (wpAny_bind (L0.at (wpAny_bind (L1.at ?_))))
  dsimp only
  rw [if_neg (by rw [z1]; exact Bool.false_ne_true)]
  unfold getAttrByItsOwn hookBefore
  repeat (any_goals (first | assumption | with_reducible refine wpAny_bind (L2.at ?_) | with_reducible refine wpAny_bind (L1.at ?_) | wp_step))
  refine xcall X T I ?_
  repeat (any_goals (first | assumption | wp_step))

theorem xattr {Q : Option Value → Shared → Prop} (X : K.In h) (T : XCls K C) (I : ExcAt x C h) (hq : Q (some (.ref C)) ⟨h, g, d, t + 1, os⟩) :
    wpAny (model prog w) A (getAttr? (.ref x) "__class__") Q E ⟨h, g, d, t, os⟩ := by
  unfold getAttr? getAttrBy?
  repeat (any_goals (first | assumption | with_reducible apply xby X T I | wp_step))
end

theorem XCls.there {K : Frag} {C : Addr} (T : XCls K C) : ∃ oc od cd sl, K.lookup C = some ⟨oc, od, .cls cd, sl⟩ := by
  have q := T.ob
  unfold mroIn clsIn at q
  split at q
  · rename_i a b c e f
    exact ⟨a, b, c, e, f⟩
  · cases q
theorem kitx_exc {K : Frag} {a C : Addr} (T : XCls K C) : KitX K (.ref a) (.ref C) (ExcAt a C) where
  ty := fun _ _ _ I => I.type
  it := fun _ _ X _ => by
    obtain ⟨_, _, _, _, lk⟩ := T.there
    intro A1 Q1 E1 s1 k1 q1
    unfold isType loadHead
    exact wpAny_bind (wpAny_loadPart (k1 _ _ (X _ _ lk)) (wpAny_pure q1))
  ne := fun h tp dd its n sl X htp => by
    obtain ⟨_, _, _, _, lk⟩ := T.there
    refine Bool.eq_false_iff.mpr fun q => ?_
    cases Value.ref.inj (beq_iff_eq.mp q)
    cases (X _ _ lk).symm.trans htp
  ca := fun {_ _ _ _ _ s} X I k => by
    obtain ⟨h, g, d, t, os⟩ := s
    exact xattr X T I k
end L2

set_option Elab.async false
set_option linter.all false
set_option maxRecDepth 100000
set_option maxHeartbeats 4000000
namespace L2
open PySem PySem.Spec PyProof.Rows

/-! ### an exception on its way through the frames -/
abbrev veMro : List Value := [.type "ValueError", .type "Exception", .type "BaseException", .type "object"]
theorem own_obj {K : PySem.W.Frag} {h : Heap} {C : Addr} {bmB : List Value} {newId : String} (X : K.In h) (q : PySem.W.excIn K C bmB newId = true) :
    ∃ bm N nm qn bs hdct sn sub ab col dd k0 k1 k2 k3 k5 mN, h.get? C = some (excClassObj nm qn C N bs bm hdct sn sub ab col dd k0 k1 k2 k3 k5 newId) ∧ h.Ns N mN ∧ mN "__init__" = none ∧ OwnTail h bmB bm := by
  unfold PySem.W.excIn at q
  split at q
  case h_2 => cases q
  rename_i dd cd sl lk
  split at q
  case h_2 => cases q
  rename_i C1 bm k0 k1 k2 k3 n k5 em es
  rw [Bool.and_eq_true, Bool.and_eq_true, Bool.and_eq_true, Bool.and_eq_true, Bool.and_eq_true, beq_iff_eq, beq_iff_eq, beq_iff_eq, Bool.not_eq_true'] at q
  obtain ⟨⟨⟨⟨⟨rfl, rfl⟩, nd⟩, tl⟩, ok⟩, ni⟩ := q
  obtain ⟨nm, bs, mro, ns, qn, hd, sn, sub, ab, col, del⟩ := cd
  have em : mro = .ref C1 :: bm := em
  have nd : del = false := nd
  subst em nd
  have esl : sl = #[k0, k1, k2, k3, some (.builtin n), k5] := by
    obtain ⟨l⟩ := sl
    have es : l = [k0, k1, k2, k3, some (.builtin n), k5] := es
    rw [es]
  subst esl
  exact ⟨bm, ns, nm, qn, bs, hd, sn, sub, ab, col, dd, k0, k1, k2, k3, k5, _, X _ _ lk, .of_isNs (PySem.W.isNs_of_in X ok), PySem.W.nsMap_none_of_in X ok ni, PySem.W.tail_of_in X tl⟩

/-- what is described is there -/
theorem ObjOk.is {P : Program} {w : World} {H : Hp} {h : Heap} {a : Addr} {o : HO} (x : ObjOk P w H h a o) : ∃ ob, h.get? a = some ob := by
  cases o with
  | lst xs => obtain ⟨_, _, _, _, e⟩ := x; exact ⟨_, e⟩
  | tup xs => obtain ⟨_, _, _, ob, e, _⟩ := x; exact ⟨_, e⟩
  | dK kvs => obtain ⟨_, _, _, _, ob, _, _, e, _⟩ := x; exact ⟨_, e⟩
  | dT kvs => obtain ⟨_, _, _, _, ob, _, _, e, _⟩ := x; exact ⟨_, e⟩
  | set S n => obtain ⟨ob, _, _, _, e, _⟩ := x; exact ⟨_, e⟩
  | ins C dx fs => obtain ⟨_, _, _, e, _⟩ := x; exact ⟨_, e⟩
  | own y => obtain ⟨_, e⟩ := x; exact ⟨_, e⟩
  | xd fs => obtain ⟨_, ⟨_, _, _, e, _⟩, _⟩ := x; exact ⟨_, e⟩
  | rng lo hi => obtain ⟨_, _, _, e⟩ := x; exact ⟨_, e⟩
  | frz ob u => obtain ⟨e, _⟩ := x; exact ⟨_, e⟩
  | tbl ps => exact ⟨_, x⟩
  | met f y => exact ⟨_, x⟩
  | ext φ => obtain ⟨_, ⟨_, e⟩, _⟩ := x; exact ⟨_, e⟩
theorem ObjOk.none_no {P : Program} {w : World} {H : Hp} {h : Heap} {a : Addr} {o : HO} {A : Prop} (x : ObjOk P w H h a o) (g : h.get? a = none) : A := by
  obtain ⟨ob, e⟩ := x.is
  rw [g] at e; cases e
structure Fly (P : Program) (w : World) (outer : List Env) (H : Hp) (s : Shared) (a C : Addr) (H' : Hp) (s' : Shared) : Prop where
  os : s'.os = s.os
  bare : AllBare s'.gens
  un : Un (frs outer) [] H H' s.heap s'.heap
  hok : HOk P w H' s'.heap
  new : s.heap.get? a = none
  free : H' a = none
  fl : ∃ (base : Heap) (a0 : Value), Heap.FlyingW base outer a (.ref C) a0 s'.heap ∧
    ∀ b o, s'.heap.get? b = some o → (H' b ≠ none ∨ ((∃ ob, s.heap.get? b = some ob) ∧ b ∉ frs outer)) → base.get? b = some o
def CXE (P : Program) (w : World) : CXT := fun outer H s E ev s' => ∃ (a C : Addr) (H' : Hp), ev = .ref a ∧ Fly P w outer H s a C H' s' ∧ E (.ref C) none H'

section
variable {P : Program} {w : World} {outer : List Env} {H H' : Hp} {s s' : Shared} {a C : Addr}
/-- the state of a heap that keeps what base holds -/
theorem hok_base {h h' base : Heap} (x : HOk P w H h) (hb : ∀ b o, h.get? b = some o → H b ≠ none → base.get? b = some o) (st : base.StaysIn h') : HOk P w H h' := fun b u e => by
  refine (x b u e).stay (fun c v hc q => st c v (hb c v q ?_)) (fun _ q => q) fun _ _ q => q
  rcases hc with z | z
  · rw [z, e]; intro k; cases k
  · rw [z]; intro k; cases k

theorem frs_mem {l : List Env} {h base : Heap} (f : h.FunFrames base l) {b : Addr} (hb : b ∈ frs l) : base.get? b = none ∧ ∃ o, h.get? b = some o ∧ ∀ vs, o.data ≠ .fields vs := f.mem hb

/-- one frame is left: env, whose call began at H, s; the exception came at sc of its body -/
theorem fly_leave {M : Model} {A : Around} {E : Value → Shared → Prop} {Q : Unit → Shared → Prop} {env : Env} {L : Addr} {Hc : Hp} {sc : Shared}
    (hA : A.frames = some (env :: outer)) (hf : env.frame = some L) (hL : s.heap.get? L = none) (fF : ∀ b ∈ frs outer, H b = none) (fT : ∀ b ∈ frs outer, ∃ o, s.heap.get? b = some o)
    (u : Un (frs outer) [] H Hc s.heap sc.heap) (ho : sc.os = s.os) (x : Fly P w (env :: outer) Hc sc a C H' s')
    (q : ∀ s'', Fly P w outer H s a C H' s'' → Q () s'') : wpAny M A (leaving env (.ref a)) Q E s' := by
  obtain ⟨base, a0, fl, hb⟩ := x.fl
  have ef : frs (env :: outer) = L :: frs outer := by unfold frs; rw [List.filterMap_cons, hf]
  refine wpAny_leaves_onW hA hf fl fun h' fl' up => q _ ?_
  have old : ∀ b ob, s.heap.get? b = some ob → b ≠ L := fun b ob e z => by rw [z, hL] at e; cases e
  have inb : ∀ b ob o, s.heap.get? b = some ob → b ∉ frs outer → s'.heap.get? b = some o → base.get? b = some o := fun b ob o e n e' => by
    obtain ⟨oc, ec⟩ := u.there b ob e (fun z => nomatch z)
    refine hb b o e' (.inr ⟨⟨oc, ec⟩, ?_⟩)
    rw [ef]
    exact fun z => (List.mem_cons.mp z).elim (old b ob e) n
  have fdata : ∀ b o, b ∈ frs outer → s'.heap.get? b = some o → ∀ vs, o.data ≠ .fields vs := fun b o m e => by
    obtain ⟨_, o2, e2, nf⟩ := frs_mem fl.2.2.1 (show b ∈ frs (env :: outer) by rw [ef]; exact List.mem_cons_of_mem _ m)
    rw [e2] at e; cases e; exact nf
  refine ⟨x.os.trans ho, x.bare, ⟨fun b o e n nb nx => ?_, fun b o e n mb nx => ?_, fun b o e n nx => ?_, fun b o e nx => ?_, fun b xs e => x.un.tups b xs (u.tups b xs e), fun b o v e => x.un.frzs b o v (u.frzs b o v e), fun b ps e => ?_⟩, hok_base x.hok (fun b o e n => hb b o e (.inl n)) fl'.1, ?_, x.free, base, a0, fl', fun b o e r => ?_⟩
  · have e1 := x.un.keep b o (u.keep b o e n nb nx) (u.free b o e n nx) (by rw [ef]; exact fun z => (List.mem_cons.mp z).elim (old b o e) nb) nx
    exact fl'.1 b o (inb b o o e nb e1)
  · obtain ⟨sl, e1⟩ := u.slot b o e n mb nx
    obtain ⟨sl2, e2⟩ := x.un.slot b _ e1 (u.free b o e n nx) (by rw [ef]; exact List.mem_cons_of_mem _ mb) nx
    obtain ⟨sl3, e3⟩ := up b _ e2 (fdata b _ mb e2)
    exact ⟨sl3, e3⟩
  · obtain ⟨oc, ec⟩ := u.there b o e nx
    exact x.un.free b oc ec (u.free b o e n nx) nx
  · obtain ⟨oc, ec⟩ := u.there b o e nx
    obtain ⟨o2, e2⟩ := x.un.there b oc ec nx
    by_cases mb : b ∈ frs outer
    · obtain ⟨sl, e3⟩ := up b o2 e2 (fdata b o2 mb e2)
      exact ⟨_, e3⟩
    · exact ⟨o2, fl'.1 b o2 (inb b o o2 e mb e2)⟩
  · obtain ⟨m1, e1⟩ := u.tbls b ps e
    obtain ⟨m2, e2⟩ := x.un.tbls b _ e1
    exact ⟨m1 ++ m2, by rw [e2, Array.append_assoc]⟩
  · cases z : s.heap.get? a with
    | none => rfl
    | some oa =>
      obtain ⟨o1, e1⟩ := u.there a oa z (fun z => nomatch z)
      rw [x.new] at e1; cases e1
  · have e : h'.get? b = some o := e
    have key : ∀ o2, s'.heap.get? b = some o2 → base.get? b = some o2 → base.get? b = some o := fun o2 e2 e3 => by
      have := fl'.1 b o2 e3
      rw [e] at this; cases this; exact e3
    rcases r with r | ⟨⟨ob, eb⟩, nb⟩
    · cases z : H' b with
      | none => exact absurd z r
      | some v =>
        have lt := x.hok.lt z
        obtain ⟨o2, e2⟩ : ∃ o2, s'.heap.get? b = some o2 := by
          cases g : s'.heap.get? b with
          | some o2 => exact ⟨o2, rfl⟩
          | none => exact (x.hok b v z).none_no g
        exact key o2 e2 (hb b o2 e2 (.inl r))
    · obtain ⟨oc, ec⟩ := u.there b ob eb (fun z => nomatch z)
      obtain ⟨o2, e2⟩ := x.un.there b oc ec (fun z => nomatch z)
      exact key o2 e2 (inb b ob o2 eb nb e2)

theorem fly_made {M : Model} {A : Around} {E : Value → Shared → Prop} {Q : Unit → Shared → Prop} {env : Env} {L : Addr} {Hc : Hp} {sc : Shared} {h1 base0 : Heap} {vs : List Value}
    (hA : A.frames = some (env :: outer)) (hf : env.frame = some L) (hL : s.heap.get? L = none) (u : Un (frs outer) [] H Hc s.heap sc.heap) (ho : sc.os = s.os) (bare : AllBare sc.gens) (hok : HOk P w Hc sc.heap)
    (fr : sc.heap.FunFrames base0 (env :: outer)) (fU : ∀ b ∈ frs (env :: outer), Hc b = none) (hx : Heap.MadeExcOf sc.heap h1 a (.ref C) vs)
    (q : ∀ s'', Fly P w outer H s a C Hc s'' → Q () s'') : wpAny M A (leaving env (.ref a)) Q E { sc with heap := h1 } := by
  have ef : frs (env :: outer) = L :: frs outer := by unfold frs; rw [List.filterMap_cons, hf]
  have old : ∀ b ob, s.heap.get? b = some ob → b ≠ L := fun b ob e z => by rw [z, hL] at e; cases e
  have inb : ∀ b o, sc.heap.get? b = some o → b ∉ frs (env :: outer) → (PySem.W.hideAll sc.heap (frs (env :: outer))).get? b = some o := fun b o e n => PySem.W.hideAll_get _ e n
  have trk : ∀ b, Hc b ≠ none → b ∉ frs (env :: outer) := fun b n m => n (fU b m)
  have fdata : ∀ b o, b ∈ frs (env :: outer) → sc.heap.get? b = some o → ∀ vs, o.data ≠ .fields vs := fun b o m e => by
    obtain ⟨_, o2, e2, nf⟩ := frs_mem fr m
    rw [e2] at e; cases e; exact nf
  refine wpAny_leaves_madeW (base := PySem.W.hideAll sc.heap (frs (env :: outer))) hA hf (fun b o z => PySem.W.of_hideAll _ z) (PySem.W.funFrames_hide fr fun en he b hb => List.mem_filterMap.mpr ⟨en, he, hb⟩) hx fun h' t fl _ _ up => q _ ?_
  have notin : ∀ b ob, s.heap.get? b = some ob → b ∉ frs outer → b ∉ frs (env :: outer) := fun b ob e n => by rw [ef]; exact fun z => (List.mem_cons.mp z).elim (old b ob e) n
  refine ⟨ho, bare, ⟨fun b o e n nb nx => ?_, fun b o e n mb nx => ?_, fun b o e n nx => u.free b o e n nx, fun b o e nx => ?_, u.tups, u.frzs, u.tbls⟩, hok_base hok (fun b o e n => inb b o e (trk b n)) fl.1, ?_, ?_, _, _, fl, fun b o e r => ?_⟩
  · exact fl.1 b o (inb b o (u.keep b o e n nb nx) (notin b o e nb))
  · obtain ⟨sl, e1⟩ := u.slot b o e n mb nx
    obtain ⟨sl3, e3⟩ := up b _ (hx.keeps _ _ e1) (fdata b _ (by rw [ef]; exact List.mem_cons_of_mem _ mb) e1)
    exact ⟨sl3, e3⟩
  · obtain ⟨o2, e2⟩ := u.there b o e nx
    by_cases mb : b ∈ frs (env :: outer)
    · obtain ⟨sl, e3⟩ := up b o2 (hx.keeps _ _ e2) (fdata b o2 mb e2)
      exact ⟨_, e3⟩
    · exact ⟨o2, fl.1 b o2 (inb b o2 e2 mb)⟩
  · cases z : s.heap.get? a with
    | none => rfl
    | some oa =>
      obtain ⟨o1, e1⟩ := u.there a oa z (fun z => nomatch z)
      rw [hx.new] at e1; cases e1
  · cases z : Hc a with
    | none => rfl
    | some v => exact (hok a v z).none_no hx.new
  · have e : h'.get? b = some o := e
    have key : ∀ o2, sc.heap.get? b = some o2 → b ∉ frs (env :: outer) → (PySem.W.hideAll sc.heap (frs (env :: outer))).get? b = some o := fun o2 e2 n => by
      have e3 := inb b o2 e2 n
      have := fl.1 b o2 e3
      rw [e] at this; cases this; exact e3
    rcases r with r | ⟨⟨ob, eb⟩, nb⟩
    · cases z : Hc b with
      | none => exact absurd z r
      | some v =>
        obtain ⟨o2, e2⟩ := (hok b v z).is
        exact key o2 e2 (trk b r)
    · obtain ⟨o2, e2⟩ := u.there b ob eb (fun z => nomatch z)
      exact key o2 e2 (notin b ob eb nb)
end

/-! ### raise -/
/-- what the body's context does with exceptions: of a callee, of its own -/
structure Xc (X : Cx) (E : XK) : Prop where
  pass : Passes (CXE X.prog X.w) X E
  made : ∀ (pins : List (Addr × Obj)) (σ : St) (H : Hp) (s : Shared) (h' : Heap) (e C : Addr) (vs : List Value), Inv X pins σ H s → Heap.MadeExcOf s.heap h' e (.ref C) vs → E (.ref C) none H → X.xe (.ref e) { s with heap := h' }
theorem Inv.fresh0 {X : Cx} {pins : List (Addr × Obj)} {σ : St} {H : Hp} {s : Shared} (I : Inv X pins σ H s) : X.s₀.heap.get? X.env.locals = none := Heap.get?_none_of_le I.ok.above
theorem xc_of {P : Program} {w : World} {K : PySem.W.Frag} {mg : Str → Option Value} {base : Heap} {N : List Str} {qual : Str} {scope : Scope} {f : Addr} {cd : Value} {A : Around} {outer : List Env} {s : Shared} {H : Hp} {E : XK} :
    Xc (cxOf (CXE P w) P w K mg base N qual scope f cd A outer s H E) E := by
  refine ⟨fun pins σ Hc sc e s' I x => ?_, fun pins σ Hc sc h' e C vs I hx q => ?_⟩
  · obtain ⟨a, C, H', rfl, fl, q⟩ := x
    exact fly_leave (L := (envOfC qual scope s.heap.objs.size f cd).locals) I.ok.frames rfl I.fresh0 I.ok.frf (fun b hb => let ⟨_, o, ho, _⟩ := I.ok.funs.mem hb; ⟨o, ho⟩) I.base I.os fl fun s'' fl' => ⟨a, C, H', rfl, fl', q⟩
  · exact fly_made (L := (envOfC qual scope s.heap.objs.size f cd).locals) I.ok.frames rfl I.fresh0 I.base I.os I.bare I.hok I.stack I.stkFree hx fun s'' fl' => ⟨e, C, Hc, rfl, fl', q⟩

def tRaise (C : Addr) (E : XK) (t : TA) : TS := fun _ σ H => t σ H fun vs H1 => vs.length ≤ sizeLine ∧ E (.ref C) none H1
theorem ps_raise {X : Cx} {E : XK} {x : Str} {C : Addr} {e : Expr} {es : List Expr} {t : TA} {np cpos pos : Pos} (xc : Xc X E) (hc : X.calm = true) (hg : Gl X x) (hm : X.mg x = some (.ref C)) (hex : PySem.W.excIn X.K C veMro "ValueError.__new__" = true)
    (ha : PA X (e :: es) t) (hd : (x == ("__debug__" : Str)) = false := by decide) (he : starEach (e :: es) X.env = (false, eval e X.env) :: starEach es X.env := by rfl) (hpl : (backTo cpos (starEach es X.env)).any (·.1) = false := by rfl) :
    PS X (.Raise (some (.Call (.Name x np) (e :: es) [] cpos)) none pos) (tRaise C E t) := by
  intro pins s σ H D I h
  obtain ⟨tl, N, nm, q, bs, hdct, sn, sub, ab, col, dd, k0, k1, k2, k3, k5, mN, hC, hN, hni, T⟩ := own_obj I.ok.mod.kin hex
  refine wpAny_Raise_call_subT (nm := nm) (q := q) (N := N) (bs := bs) (hdct := hdct) (sn := sn) (sub := sub) (ab := ab) (col := col) (dd := dd) (k0 := k0) (k1 := k1) (k2 := k2) (k3 := k3) (k5 := k5) (bm := tl) (mN := mN) F.excBase_ValueError (T.hasType F.excBase_ValueError.hasBase) (I.ok.hd hc) (by rw [he]; show (false || (backTo cpos (starEach es X.env)).any (·.1)) = false; rw [hpl]; rfl) hni (ld_glob I hg hm ⟨rfl, ?_⟩ hd)
  have h1 := ha cpos pins s σ H _ I h
  rw [he] at h1 ⊢
  refine Calls.evalArgs_plain (wpAny_mono h1 (fun us s2 h2 => ?_) fun _ _ y => y)
  obtain ⟨vs, H2, I2, r2, hl, q2⟩ := h2
  exact ⟨rfl, by rw [← r2.length]; exact hl, I2.bk _ _ hC, hN.keeps I2.bk, T.keeps I2.bk, fun h' ex hx => xc.made pins σ H2 s2 h' ex C us I2 hx q2⟩
end L2

set_option Elab.async false
set_option linter.all false
set_option maxRecDepth 100000
set_option maxHeartbeats 4000000
namespace L2
open PySem PySem.Spec PyProof.Rows

/-- the flight goes on over the same frames -/
theorem fly_stay {P : Program} {w : World} {l : List Env} {Hc H' : Hp} {sc s' : Shared} {a C : Addr} {base h' : Heap} {a0 : Value} (x : Fly P w l Hc sc a C H' s') (fl : Heap.FlyingW base l a (.ref C) a0 s'.heap)
    (hb : ∀ b o, s'.heap.get? b = some o → (H' b ≠ none ∨ ((∃ ob, sc.heap.get? b = some ob) ∧ b ∉ frs l)) → base.get? b = some o)
    (fl' : Heap.FlyingW base l a (.ref C) a0 h') (up : s'.heap.UpToSlots h') : Fly P w l Hc sc a C H' { s' with heap := h' } := by
  have fdata : ∀ b o, b ∈ frs l → s'.heap.get? b = some o → ∀ vs, o.data ≠ .fields vs := fun b o m e => by
    obtain ⟨_, o2, e2, nf⟩ := frs_mem fl.2.2.1 m
    rw [e2] at e; cases e; exact nf
  refine ⟨x.os, x.bare, ⟨fun b o e n nb nx => ?_, fun b o e n mb nx => ?_, x.un.free, fun b o e nx => ?_, x.un.tups, x.un.frzs, x.un.tbls⟩, hok_base x.hok (fun b o e n => hb b o e (.inl n)) fl'.1, x.new, x.free, base, a0, fl', fun b o e r => ?_⟩
  · exact fl'.1 b o (hb b o (x.un.keep b o e n nb nx) (.inr ⟨⟨o, e⟩, nb⟩))
  · obtain ⟨sl2, e2⟩ := x.un.slot b o e n mb nx
    obtain ⟨sl3, e3⟩ := up b _ e2 (fdata b _ mb e2)
    exact ⟨sl3, e3⟩
  · obtain ⟨o2, e2⟩ := x.un.there b o e nx
    by_cases mb : b ∈ frs l
    · obtain ⟨sl, e3⟩ := up b o2 e2 (fdata b o2 mb e2)
      exact ⟨_, e3⟩
    · exact ⟨o2, fl'.1 b o2 (hb b o2 e2 (.inr ⟨⟨o, e⟩, mb⟩))⟩
  · have e : h'.get? b = some o := e
    have key : ∀ o2, base.get? b = some o2 → base.get? b = some o := fun o2 e3 => by
      have := fl'.1 b o2 e3
      rw [e] at this; cases this; exact e3
    rcases id r with q | ⟨⟨ob, eb⟩, nb⟩
    · cases z : H' b with
      | none => exact absurd z q
      | some v =>
        obtain ⟨o2, e2⟩ := (x.hok b v z).is
        exact key o2 (hb b o2 e2 r)
    · obtain ⟨o2, e2⟩ := x.un.there b ob eb (fun z => nomatch z)
      exact key o2 (hb b o2 e2 r)
theorem Fly.at {P : Program} {w : World} {l : List Env} {Hc H' : Hp} {sc s' : Shared} {a C : Addr} (x : Fly P w l Hc sc a C H' s') : ExcAt a C s'.heap := by
  obtain ⟨base, a0, fl, _⟩ := x.fl
  exact fl.there

/-! ### what may raise, within a try -/
abbrev XS := Value → St → Hp → Prop
/-- an exception of a callee has come to this body -/
def XP (X : Cx) (pins : List (Addr × Obj)) (E : XS) (ev : Value) (s' : Shared) : Prop :=
  ∃ (a C : Addr) (σ : St) (Hc : Hp) (sc : Shared) (H' : Hp), ev = .ref a ∧ Inv X pins σ Hc sc ∧ Fly X.prog X.w X.stack Hc sc a C H' s' ∧ E (.ref C) σ H'
/-- an expression that may raise -/
def PXE (X : Cx) (e : Expr) (t : St → Hp → VK → XK → Prop) : Prop :=
  ∀ (pins : List (Addr × Obj)) (s : Shared) (σ : St) (H : Hp) (Q : VK) (E : XK), Inv X pins σ H s → t σ H Q E →
    wpAny (model X.prog X.w) X.A (eval e X.env) (EP X pins σ Q) (XP X pins fun c σ' H' => σ' = σ ∧ E c none H') s
abbrev TX := Ends → XS → St → Hp → Prop
def PX (X : Cx) (st : Stmt) (t : TX) : Prop :=
  ∀ (pins : List (Addr × Obj)) (s : Shared) (σ : St) (H : Hp) (D : Ends) (E : XS), Inv X pins σ H s → t D E σ H → wpAny (model X.prog X.w) X.A (exec st X.env) (SP X pins D) (XP X pins E) s
def PXs (X : Cx) (st : List Stmt) (t : TX) : Prop :=
  ∀ (pins : List (Addr × Obj)) (s : Shared) (σ : St) (H : Hp) (D : Ends) (E : XS), Inv X pins σ H s → t D E σ H → wpAny (model X.prog X.w) X.A (execs st X.env) (SP X pins D) (XP X pins E) s

section
variable {X : Cx}
theorem XP.mono {pins : List (Addr × Obj)} {E E' : XS} {ev : Value} {s' : Shared} (h : XP X pins E ev s') (k : ∀ c σ H, E c σ H → E' c σ H) : XP X pins E' ev s' := by
  obtain ⟨a, C, σ, Hc, sc, H', e1, e2, e3, e4⟩ := h
  exact ⟨a, C, σ, Hc, sc, H', e1, e2, e3, k _ _ _ e4⟩
theorem EP.unwish {pins : List (Addr × Obj)} {σ : St} {Q : VK} {u : Value} {s : Shared} {E : Value → Shared → Prop} (h : EP (X.wish E) pins σ Q u s) : EP X pins σ Q u s := by
  obtain ⟨v, H', I, r, q⟩ := h
  exact ⟨v, H', I.unwish, r, q⟩
theorem AP.unwish {pins : List (Addr × Obj)} {σ : St} {Q : List V → Hp → Prop} {u : List Value} {s : Shared} {E : Value → Shared → Prop} (h : AP (X.wish E) pins σ Q u s) : AP X pins σ Q u s := by
  obtain ⟨v, H', I, r, q⟩ := h
  exact ⟨v, H', I.unwish, r, q⟩
theorem TP.unwish {pins : List (Addr × Obj)} {σ : St} {Q : Bool → Hp → Prop} {u : Bool} {s : Shared} {E : Value → Shared → Prop} (h : TP (X.wish E) pins σ Q u s) : TP X pins σ Q u s := by
  obtain ⟨H', I, q⟩ := h
  exact ⟨H', I.unwish, q⟩

variable {k : Nat} {f C : Addr} {fd : FuncData} {ps : List Str} {sp : Sp} {dvs : List V} {ds : List Value} {x m : Str} {p pos apos : Pos} {e o : Expr} {es : List Expr} {ta : TE} {t : TA}
theorem run_fnx {pins : List (Addr × Obj)} {σ : St} {H : Hp} {s : Shared} {Q : VK} {E : XK} {us : List Value} {vs : List V} (F : FnOk X.prog X.w X.K X.mg X.base (CXE X.prog X.w) k f fd ps sp) (hr : Room k X.A) (hb : Binds X.K fd ps ds) (hd : Vals dvs ds)
    (I : Inv X pins σ H s) (r : Vals vs us) (h : sp (vs ++ dvs) H Q E) : wpAny (model X.prog X.w) X.A (call (.ref f) us) (EP X pins σ Q) (XP X pins fun c σ' H' => σ' = σ ∧ E c none H') s := by
  have r2 : Vals (vs ++ dvs) (us ++ ds) := r.append hd
  have hl : (us ++ ds).length = ps.length := by rw [← r2.length]; exact F.len _ _ _ _ h
  refine wpAny_call (codeAny_mono (F.run X.A X.stack s H ⟨us, []⟩ (us ++ ds) (vs ++ dvs) Q E hr I.env0 (hb s us I.kIn hl) r2 h) fun res s' hq => ?_)
  cases res with
  | error ev =>
    obtain ⟨a, C, H', rfl, fl, q⟩ := hq
    exact ⟨a, C, σ, H, s, H', rfl, I, fl, rfl, q⟩
  | ok fl =>
    cases fl with
    | ret u => exact I.after hq
    | _ => exact False.elim hq

def txCall (sp : Sp) (dvs : List V) (t : TA) : St → Hp → VK → XK → Prop := fun σ H Q E => t σ H fun vs H1 => sp (vs ++ dvs) H1 Q E
theorem pxe_call (F : FnOk X.prog X.w X.K X.mg X.base (CXE X.prog X.w) k f fd ps sp) (hr : Room k X.A) (hg : Gl X x) (hm : X.mg x = some (.ref f)) (hk : PySem.W.keepIn X.K (.ref f) = true) (hb : Binds X.K fd ps ds) (hd : Vals dvs ds)
    (ha : PA X.nox (e :: es) t) (hdb : (x == ("__debug__" : Str)) = false := by decide) (he : starEach (e :: es) X.env = (false, eval e X.env) :: starEach es X.env := by rfl) (hpl : (backTo pos (starEach es X.env)).any (·.1) = false := by rfl) :
    PXE X (.Call (.Name x p) (e :: es) [] pos) (txCall sp dvs t) := by
  intro pins s σ H Q E I h
  refine wpAny_Call_Name_kw (ld_glob I hg hm ?_ hdb)
  refine PySem.W.callWith_K (h₀ := X.base) I.ok.mod.kin hk (wpAny_mono (ha pos pins s σ H _ (I.wish _) h) (fun us s1 z => ?_) (fun _ _ z => z.elim)) he hpl
  obtain ⟨vs, H1, I1, r, q⟩ := z
  exact ⟨I1.unwish.kIn, run_fnx F hr hb hd I1.unwish r q⟩

/-! statements -/
theorem px_of {st : Stmt} {t : TS} (h : PS X.nox st t) : PX X st (fun D _ σ H => t D σ H) := fun pins s σ H D E I q =>
  wpAny_mono (h pins s σ H D (I.wish _) q) (fun _ _ z => SP.unwish z) fun _ _ z => z.elim
theorem px_expr {t : St → Hp → VK → XK → Prop} (he : PXE X e t) (hs : swapsWith e none pos.line X.env = pure false := by rfl) :
    PX X (.Expr e pos) (fun D E σ H => t σ H (fun _ H1 => D.nx σ H1) (fun c _ H1 => E c σ H1)) := by
  intro pins s σ H D E I h
  refine wpAny_Expr_any (wpAny_mono (he pins s σ H _ _ I h) (fun u s1 z => ?_) fun ev s1 z => z.mono fun c σ' H' q => ?_) I.quiet hs
  · obtain ⟨v, H', I', _, q⟩ := z
    exact ⟨σ, H', I', q⟩
  · obtain ⟨rfl, q⟩ := q
    exact q
theorem px_set {i : Nat} {pos' : Pos} {t : St → Hp → VK → XK → Prop} (hN : X.N.Nodup) (hi : X.N[i]? = some x) (hx : Loc X.env.scope x) (he : PXE X e t) (hs : swapsWith e (some (.Name x pos')) pos.line X.env = pure false := by rfl)
    (hf : X.fn x = true ∨ X.env.scope.names.lookup x = some .local := by first | exact .inl rfl | exact .inr rfl | assumption) :
    PX X (.Assign [.Name x pos'] e pos) (fun D E σ H => t σ H (fun v H1 => D.nx (σ.set i (some v)) H1) (fun c _ H1 => E c σ H1)) := by
  intro pins s σ H D E I h
  refine wpAny_Assign_Name (wpAny_mono (he pins s σ H _ _ I h) (fun u s1 z => ?_) fun ev s1 z => z.mono fun c σ' H' q => ?_) hs
  · obtain ⟨v, H', I', r, q⟩ := z
    exact store_ok I' hN hi hx r (fun s2 I2 => ⟨_, H', I2, q⟩) hf
  · obtain ⟨rfl, q⟩ := q
    exact q
theorem pxs_one {st : Stmt} {t : TX} (h : PX X st t) : PXs X [st] t := by
  intro pins s σ H D E I q
  refine wpAny_execs_cons (wpAny_mono (h pins s σ H D E I q) (fun fl s1 z => ?_) fun _ _ z => z)
  cases fl with
  | next => exact wpAny_execs_nil z
  | _ => exact z

/-! ### except C as n -/
/-- the context of an except suite -/
abbrev Cx.marked (X : Cx) (a : Addr) : Cx := { X with A := X.A.mark (some (.ref a)), calm := false, xe := fun _ _ => False }
theorem Inv.mark {pins : List (Addr × Obj)} {σ : St} {H : Hp} {s : Shared} (I : Inv X pins σ H s) (a : Addr) : Inv (X.marked a) pins σ H s :=
  have k := I.ok
  ⟨⟨k.mod, k.kind, k.glob, k.blt, k.above, k.inj, k.has, k.cab, (fun z => nomatch z), k.frames, k.stk, k.exf, k.bs, k.bsz, k.noex, k.exfs, k.funs, k.frf⟩, I.os, I.bare, I.base, I.loc, I.cell, I.free, I.freeC, I.pin, I.hok, I.len⟩
theorem Inv.unmark {pins : List (Addr × Obj)} {σ : St} {H : Hp} {s : Shared} {a : Addr} (I : Inv (X.marked a) pins σ H s) (k0 : X.Ok) : Inv X pins σ H s :=
  ⟨k0, I.os, I.bare, I.base, I.loc, I.cell, I.free, I.freeC, I.pin, I.hok, I.len⟩
/-- an object that was made behind the entry becomes known -/
theorem Inv.track {pins : List (Addr × Obj)} {σ : St} {H : Hp} {s : Shared} {a : Addr} {ho : HO} (I : Inv X pins σ H s) (n0 : X.s₀.heap.get? a = none) (nL : a ≠ X.env.locals) (nC : ∀ x c, X.env.cells.lookup x = some c → c ≠ a) (nP : ∀ p ∈ X.pn ++ pins, p.1 ≠ a)
    (hn : H a = none) (ok : ObjOk X.prog X.w (upd H a ho) s.heap a ho) : Inv X pins σ (upd H a ho) s := by
  have ne : ∀ b u, H b = some u → b ≠ a := fun b u e z => by rw [z, hn] at e; cases e
  refine ⟨I.ok, I.os, I.bare, ⟨I.base.keep, I.base.slot, fun b o e n nx => ?_, I.base.there, fun b xs e => ?_, fun b o v e => ?_, fun b ps e => ?_⟩, I.loc, I.cell, by rw [upd_ne (Ne.symm nL)]; exact I.free, fun x c e => by rw [upd_ne (nC x c e)]; exact I.freeC x c e, fun p hp => ?_, fun b u e => ?_, I.len⟩
  · rw [upd_ne (fun z => by rw [z, n0] at e; cases e)]
    exact I.base.free b o e n nx
  · have q := I.base.tups b xs e
    rw [upd_ne (ne b _ q)]; exact q
  · have q := I.base.frzs b o v e
    rw [upd_ne (ne b _ q)]; exact q
  · obtain ⟨more, q⟩ := I.base.tbls b ps e
    exact ⟨more, by rw [upd_ne (ne b _ q)]; exact q⟩
  · obtain ⟨e1, e2, e3⟩ := I.pin p hp
    exact ⟨e1, by rw [upd_ne (nP p hp)]; exact e2, e3⟩
  · by_cases z : b = a
    · subst z
      rw [upd_same] at e; cases e
      exact ok
    · rw [upd_ne z] at e
      exact (I.hok b u e).stay (fun _ _ _ q => q) (fun c q => by rw [upd_ne (ne c _ q)]; exact q) fun c xs q => by rw [upd_ne (ne c _ q)]; exact q
/-- the name goes behind the suite -/
theorem unbind_ok {M : Model} {A : Around} {E : Value → Shared → Prop} {pins : List (Addr × Obj)} {σ : St} {H : Hp} {s : Shared} {i : Nat} {n : Str} {Q : Unit → Shared → Prop} (I : Inv X pins σ H s) (hN : X.N.Nodup) (hi : X.N[i]? = some n)
    (hn : X.env.scope.names.lookup n = some .local) (q : ∀ s', Inv X pins (σ.set i none) H s' → Q () s') : wpAny M A (do bindName X.env n .none; unbindBehindTheSuite X.env n pos) Q E s := by
  obtain ⟨m, nsm, hl⟩ := id I.loc
  refine wpAny_nameGoes_keeps hn nsm (by rw [I.ok.kind]; rfl) fun h' v ns' hs => q _ ?_
  obtain ⟨oL, _, _, hoL, _⟩ := id nsm
  have fl : ∀ b o, X.s₀.heap.get? b = some o → b ≠ X.env.locals := fun b o e => Nat.ne_of_lt (Nat.lt_of_lt_of_le (Heap.lt_size e) I.ok.above)
  refine ⟨I.ok, I.os, I.bare, ⟨fun b o e n hb hx => (hs.2 b (fl b o e)).trans (I.base.keep b o e n hb hx), fun b o e n hb hx => ?_, I.base.free, fun b o e hx => ?_, I.base.tups, I.base.frzs, I.base.tbls⟩, ⟨_, ns', fun j y w' e1 e2 e3 => ?_⟩, fun y c e => ?_, I.free, I.freeC, fun p hp => ?_, fun b u e => ?_, by simpa using I.len⟩
  · obtain ⟨sl, e1⟩ := I.base.slot b o e n hb hx
    exact ⟨sl, (hs.2 b (fl b o e)).trans e1⟩
  · obtain ⟨o1, e1⟩ := I.base.there b o e hx
    exact ⟨o1, (hs.2 b (fl b o e)).trans e1⟩
  · by_cases hj : j = i
    · subst hj
      have : j < σ.length := by rw [I.len]; exact (List.getElem?_eq_some_iff.mp hi).1
      rw [List.getElem?_set_self this] at e2
      cases e2
    · rw [List.getElem?_set_ne (Ne.symm hj)] at e2
      obtain ⟨u, r, z⟩ := hl j y w' e1 e2 e3
      refine ⟨u, r, ?_⟩
      rcases z with ⟨k, e⟩ | ⟨k, c, e, z⟩
      · refine .inl ⟨k, ?_⟩
        have : y ≠ n := fun e => hj (nodup_ix hN e1 (e ▸ hi))
        simp [this, e]
      · exact .inr ⟨k, c, e, z.sameBut hs (I.cne y c e)⟩
  · obtain ⟨w1, z⟩ := I.cell y c e
    exact ⟨w1, z.sameBut hs (I.cne y c e)⟩
  · obtain ⟨e, nn, ne, r⟩ := I.pin p hp
    exact ⟨(hs.2 p.1 ne).trans e, nn, ne, r⟩
  · refine (I.hok b u e).stay (fun c w1 hc z => (hs.2 c ?_).trans z) (fun _ z => z) fun _ _ z => z
    intro ec
    rcases hc with hc | hc
    · rw [← hc, ec, I.free] at e; cases e
    · rw [ec, I.free] at hc; cases hc

/-- a caught error -/
def excO (a C : Addr) : HO := .ext (ExcAt a C)
theorem excO_ok {P : Program} {w : World} {H : Hp} {h : Heap} {a C : Addr} (x : ExcAt a C h) : ObjOk P w H h a (excO a C) :=
  ⟨x, let ⟨o, e, _⟩ := x; ⟨o, e⟩, fun h1 h2 ⟨o, e, c⟩ k => ⟨o, k o e, c⟩⟩
def Ends.un (D : Ends) (i : Nat) : Ends := { nx := fun σ H => D.nx (σ.set i none) H, rt := D.rt, bk := fun σ H => D.bk (σ.set i none) H, ct := fun σ H => D.ct (σ.set i none) H }
def tTry (K : PySem.W.Frag) (T : Addr) (i : Nat) (tb : TX) (ts : TS) : TS := fun D σ H => tb D (fun c σ' H' => ∃ C, c = .ref C ∧ PySem.W.exmOne K (.ref C) (.ref T) = some true ∧ ∀ a, H' a = none → ts (D.un i) (σ'.set i (some (.ref a))) (upd H' a (excO a C))) σ H
theorem ps_try {T : Addr} {n : Str} {i : Nat} {body suite : List Stmt} {b0 : Stmt} {tb : TX} {ts : TS} {np hp : Pos} (hst : X.stack = X.env :: X.outer) (hfr : X.env.frame = some X.env.locals) (hex : X.ex = []) (hN : X.N.Nodup) (hi : X.N[i]? = some n) (hn : X.env.scope.names.lookup n = some .local)
    (hg : Gl X x) (hm : X.mg x = some (.ref T)) (hb : PXs X body tb) (hs : ∀ a, PSs (X.marked a) (b0 :: suite) ts) (hd : (x == ("__debug__" : Str)) = false := by decide) (hf : X.fn n = true ∨ X.env.scope.names.lookup n = some .local := by first | exact .inl rfl | exact .inr rfl | assumption) :
    PS X (.Try body [.ExceptHandler (some (.Name x np)) (some n) (b0 :: suite) hp] [] [] pos) (tTry X.K T i tb ts) := by
  intro pins s σ H D I h
  refine wpAny_Try_except (wpAny_mono (hb pins s σ H D _ I h) (fun f s1 z => ?_) fun ev s1 z => ?_)
  · cases f with
    | next => exact wpAny_execs_nil z
    | _ => exact z
  obtain ⟨a, C, σ', Hc, sc, H', rfl, Ic, fl, C', e', hx, q⟩ := z
  cases e'
  obtain ⟨base, a0, f0, hb0⟩ := fl.fl
  have hA : X.A.frames = some (X.env :: X.outer) := hst ▸ I.ok.frames
  rw [hst] at f0
  refine wpAny_looks_onW hA hfr f0 fun h1 held up1 => ?_
  refine wpAny_landsW held fun h2 fl2 up2 => ?_
  have fly2 : Fly X.prog X.w X.stack Hc sc a C H' { s1 with heap := h2 } := fly_stay fl (hst ▸ f0) hb0 (hst ▸ fl2) (up1.trans up2)
  have back : ∀ {s2 : Shared}, Fly X.prog X.w X.stack Hc sc a C H' s2 → Inv X pins σ' H' s2 := fun y => Ic.call' (ch := []) y.os y.un y.hok y.bare (fun b hb => nomatch hb)
  have I2 := back fly2
  refine wpAny_handleBy_cons (codeAny_handlers_test ?_) (by intro q; cases q)
  refine ld_glob (X := X.marked a) (I2.mark a) hg hm ?_ hd
  refine (PySem.W.exm_one (M := model X.prog X.w) I2.kIn fly2.at.type hx) _ _ _ _ (fun _ _ k => k) ?_
  refine codeAny_handlers_suite_as ?_
  obtain ⟨base2, a2, f2, hb2⟩ := fly2.fl
  refine lands_againW f2 fun h3 fl3 up3 => ?_
  have fly3 := fly_stay fly2 f2 hb2 fl3 up3
  have I3 := back fly3
  have n1 : ∀ b ob, sc.heap.get? b = some ob → b ≠ a := fun b ob e z => by rw [z, fl.new] at e; cases e
  have I4 : Inv X pins σ' (upd H' a (excO a C)) { s1 with heap := h3 } := by
    refine I3.track ?_ ?_ ?_ ?_ fly3.free (excO_ok fly3.at)
    · cases z : X.s₀.heap.get? a with
      | none => rfl
      | some oa =>
        obtain ⟨o1, e1⟩ := Ic.base.there a oa z (by rw [hex]; exact fun z => nomatch z)
        rw [fl.new] at e1; cases e1
    · obtain ⟨m, ⟨oL, _, _, eL, _⟩, _⟩ := Ic.loc
      exact (n1 _ _ eL).symm
    · intro y c e
      obtain ⟨v, oc, ec, _⟩ := Ic.cell y c e
      exact n1 c oc ec
    · intro p hp
      exact n1 _ _ (Ic.pin p hp).1
  refine store_ok I4 hN hi (.inl hn) (v := .ref a) rfl (fun s5 I5 => ?_) hf
  refine wpAny_mono (hs a pins s5 _ _ (D.un i) (I5.mark a) (q a fly3.free)) (fun f s6 z => ?_) fun _ _ z => z.elim
  cases f with
  | next =>
    obtain ⟨σ6, H6, I6, q6⟩ := z
    exact unbind_ok (I6.unmark I.ok) hN hi hn fun s7 I7 => ⟨_, _, I7, q6⟩
  | ret u =>
    obtain ⟨v, σ6, H6, I6, r6, q6⟩ := z
    exact unbind_ok (I6.unmark I.ok) hN hi hn fun s7 I7 => ⟨v, _, _, I7, r6, q6⟩
  | brk =>
    obtain ⟨σ6, H6, I6, q6⟩ := z
    exact unbind_ok (I6.unmark I.ok) hN hi hn fun s7 I7 => ⟨_, _, I7, q6⟩
  | cont =>
    obtain ⟨σ6, H6, I6, q6⟩ := z
    exact unbind_ok (I6.unmark I.ok) hN hi hn fun s7 I7 => ⟨_, _, I7, q6⟩
end
end L2

set_option Elab.async false
set_option linter.all false
set_option maxRecDepth 100000
set_option maxHeartbeats 4000000
namespace L2
open PySem PySem.Spec PyProof.Rows

/-! ### big numbers -/
def Bd (n : Nat) (x : Int) : Prop := x.natAbs < 2 ^ n
theorem Bd.mono {m n : Nat} {x : Int} (h : Bd m x) (k : m ≤ n) : Bd n x := Nat.lt_of_lt_of_le h (Nat.pow_le_pow_right (by decide) k)
theorem Bd.bits {n : Nat} {x : Int} (h : Bd n x) : Builtin.Int.intBits x ≤ n := by
  unfold Builtin.Int.intBits
  split
  · exact Nat.zero_le _
  · rename_i z
    have h0 : x.natAbs ≠ 0 := fun q => z (by simp [Int.natAbs_eq_zero.mp q])
    exact (Nat.log2_lt h0).mpr h
theorem Bd.mulOk {m n : Nat} {x y : Int} (h : Bd m x) (k : Bd n y) (hs : m + n ≤ 134217728) : IntMulOk x y := IntMulOk.of_le h.bits k.bits hs
theorem Bd.mul {m n : Nat} {x y : Int} (h : Bd m x) (k : Bd n y) : Bd (m + n) (x * y) := by
  unfold Bd at *
  rw [Int.natAbs_mul, Nat.pow_add]
  exact Nat.mul_lt_mul'' h k
theorem Bd.add {m n : Nat} {x y : Int} (h : Bd m x) (k : Bd n y) : Bd (max m n + 1) (x + y) := by
  have h1 := h.mono (Nat.le_max_left m n)
  have k1 := k.mono (Nat.le_max_right m n)
  unfold Bd at *
  have := Int.natAbs_add_le x y
  rw [Nat.pow_succ]
  omega
theorem Bd.neg {n : Nat} {x : Int} (h : Bd n x) : Bd n (-x) := by unfold Bd at *; rwa [Int.natAbs_neg]
theorem Bd.sub {m n : Nat} {x y : Int} (h : Bd m x) (k : Bd n y) : Bd (max m n + 1) (x - y) := by
  rw [Int.sub_eq_add_neg]; exact h.add k.neg
theorem Bd.log {n : Nat} {x : Int} (h : Bd n x) (hn : n ≤ 9000) : x.natAbs.log2 < 9000 := by
  by_cases z : x.natAbs = 0
  · rw [z]; decide
  · exact Nat.lt_of_lt_of_le ((Nat.log2_lt z).mpr h) hn
section
variable {X : Cx}
def CDv (_ j : Int) : Prop := j ≠ 0 ∧ Bd 9000 j
theorem op_mulB : OpR X (binaryOp .Mult) (rI IntMulOk fun i j => .int (i * j)) := opI fun _ _ _ _ _ _ _ hc q => mul_int q hc
theorem op_fdivB : OpR X (binaryOp .FloorDiv) (rI CDv fun i j => .int (i.fdiv j)) := opI fun _ _ _ _ _ _ _ hc q => floordiv_int hc.1 q (.inl (PyProof.noPylong_of_log2 (hc.2.log (Nat.le_refl _))))
end

/-! ### data -/
inductive D where
  | non | bl (b : Bool) | int (i : Int) | str (x : Str) | tup (ds : List D) | lst (ds : List D)
mutual
def D.eq : D → D → Bool
  | .non, .non => true
  | .bl a, .bl b => a == b
  | .bl a, .int b => (if a then 1 else 0) == b
  | .int a, .bl b => a == (if b then 1 else 0)
  | .int a, .int b => a == b
  | .str a, .str b => a == b
  | .tup xs, .tup ys => D.eqs xs ys
  | .lst xs, .lst ys => D.eqs xs ys
  | _, _ => false
def D.eqs : List D → List D → Bool
  | [], [] => true
  | x :: xs, y :: ys => D.eq x y && D.eqs xs ys
  | _, _ => false
end
mutual
def D.depth : D → Nat
  | .tup xs => D.depths xs + 1
  | .lst xs => D.depths xs + 1
  | _ => 0
def D.depths : List D → Nat
  | [] => 0
  | x :: xs => max (D.depth x) (D.depths xs)
end
mutual
theorem D.eq_refl : ∀ d : D, D.eq d d = true
  | .non => rfl
  | .bl b => by simp [D.eq]
  | .int i => by simp [D.eq]
  | .str x => by simp [D.eq]
  | .tup xs => by rw [D.eq]; exact D.eqs_refl xs
  | .lst xs => by rw [D.eq]; exact D.eqs_refl xs
theorem D.eqs_refl : ∀ ds : List D, D.eqs ds ds = true
  | [] => rfl
  | x :: xs => by rw [D.eqs, D.eq_refl x, D.eqs_refl xs]; rfl
end
mutual
inductive Den (K : PySem.W.Frag) (H : Hp) : V → D → Prop
  | non : Den K H .non .non
  | bl (b : Bool) : Den K H (.bl b) (.bl b)
  | int (i : Int) : Den K H (.int i) (.int i)
  | str (x : Str) : Den K H (.str x) (.str x)
  | tup {a : Addr} {xs : List V} {ds : List D} (e : SqT K H a xs) (r : Dens K H xs ds) : Den K H (.ref a) (.tup ds)
  | lst {a : Addr} {xs : List V} {ds : List D} (e : SqL K H a xs) (r : Dens K H xs ds) : Den K H (.ref a) (.lst ds)
inductive Dens (K : PySem.W.Frag) (H : Hp) : List V → List D → Prop
  | nil : Dens K H [] []
  | cons {x : V} {d : D} {xs : List V} {ds : List D} (h : Den K H x d) (r : Dens K H xs ds) : Dens K H (x :: xs) (d :: ds)
end
theorem Dens.len {K : PySem.W.Frag} {H : Hp} : ∀ {xs : List V} {ds : List D}, Dens K H xs ds → xs.length = ds.length
  | _, _, .nil => rfl
  | _, _, .cons _ r => by rw [List.length_cons, List.length_cons, r.len]
theorem SqL.keeps {K : PySem.W.Frag} {H H' : Hp} {a : Addr} {xs : List V} (s : Same H H') (h : SqL K H a xs) : SqL K H' a xs := s.seq h
theorem SqT.keeps {K : PySem.W.Frag} {H H' : Hp} {a : Addr} {xs : List V} (s : Same H H') (h : SqT K H a xs) : SqT K H' a xs := by
  rcases h with (h | ⟨o, h⟩) | h
  · exact .inl (.inl (s _ _ h))
  · exact .inl (.inr ⟨o, s _ _ h⟩)
  · exact .inr h
mutual
theorem Den.keeps {K : PySem.W.Frag} {H H' : Hp} (s : Same H H') : ∀ {v : V} {d : D}, Den K H v d → Den K H' v d
  | _, _, .non => .non
  | _, _, .bl b => .bl b
  | _, _, .int i => .int i
  | _, _, .str x => .str x
  | _, _, .tup e r => .tup (e.keeps s) (Dens.keeps s r)
  | _, _, .lst e r => .lst (e.keeps s) (Dens.keeps s r)
theorem Dens.keeps {K : PySem.W.Frag} {H H' : Hp} (s : Same H H') : ∀ {xs : List V} {ds : List D}, Dens K H xs ds → Dens K H' xs ds
  | _, _, .nil => .nil
  | _, _, .cons h r => .cons (Den.keeps s h) (Dens.keeps s r)
end
theorem Dens.at {K : PySem.W.Frag} {H : Hp} : ∀ {xs : List V} {ds : List D} (j : Nat) {x : V} {d : D}, Dens K H xs ds → xs[j]? = some x → ds[j]? = some d → Den K H x d
  | _, _, 0, _, _, .cons h _, e1, e2 => by cases e1; cases e2; exact h
  | _, _, j + 1, _, _, .cons _ r, e1, e2 => r.at j e1 e2
theorem D.depths_at : ∀ {ds : List D} (j : Nat) {d : D}, ds[j]? = some d → D.depth d ≤ D.depths ds
  | x :: xs, 0, _, e => by cases e; exact Nat.le_max_left _ _
  | x :: xs, j + 1, _, e => Nat.le_trans (D.depths_at (ds := xs) j e) (Nat.le_max_right _ _)
theorem D.eqs_all : ∀ (xs ys : List D), D.eqs xs ys = ((List.range (min xs.length ys.length)).all (fun j => D.eq (xs.getD j .non) (ys.getD j .non)) && xs.length == ys.length)
  | [], [] => rfl
  | [], _ :: _ => rfl
  | _ :: _, [] => rfl
  | x :: xs, y :: ys => by
    rw [D.eqs, D.eqs_all xs ys, List.length_cons, List.length_cons, Nat.succ_min_succ, List.range_succ_eq_map, List.all_cons, List.all_map]
    have e : (xs.length + 1 == ys.length + 1) = (xs.length == ys.length) := by
      rw [Bool.eq_iff_iff]; simp
    rw [e, Bool.and_assoc]
    rfl
section
variable {X : Cx} {pins : List (Addr × Obj)} {σ : St} {H : Hp} {s : Shared}
theorem seq_not {a : Addr} {xs ys : List V} (I : Inv X pins σ H s) (h1 : SqT X.K H a xs) (h2 : SqL X.K H a ys) : False := by
  obtain ⟨_, _, ⟨o, e, c, _⟩, _⟩ := I.tuple h1
  obtain ⟨_, _, ⟨o', n', e', c', _, d'⟩, _⟩ := I.list h2
  rw [e] at e'; cases e'
  rw [c] at c'
  injection c' with q
  exact absurd q (by decide)
mutual
theorem Den.inj (I : Inv X pins σ H s) : ∀ {v : V} {d e : D}, Den X.K H v d → Den X.K H v e → d = e
  | _, _, _, .non, h => by cases h; rfl
  | _, _, _, .bl b, h => by cases h; rfl
  | _, _, _, .int i, h => by cases h; rfl
  | _, _, _, .str x, h => by cases h; rfl
  | _, _, _, .tup e r, h => by
    cases h with
    | tup e' r' => cases I.tuple_inj e e'; rw [Dens.inj I r r']
    | lst e' r' => exact (seq_not I e e').elim
  | _, _, _, .lst e r, h => by
    cases h with
    | lst e' r' => cases I.list_inj e e'; rw [Dens.inj I r r']
    | tup e' r' => exact (seq_not I e' e).elim
theorem Dens.inj (I : Inv X pins σ H s) : ∀ {v : List V} {d e : List D}, Dens X.K H v d → Dens X.K H v e → d = e
  | _, _, _, .nil, h => by cases h; rfl
  | _, _, _, .cons a r, h => by
    cases h with
    | cons a' r' => rw [Den.inj I a a', Dens.inj I r r']
end

theorem eqAt_flat (I : Inv X pins σ H s) {A : Around} {x y : V} {d e : D} {u v : Value} (hu : A.units < cLine) (hf : flatV x = true) (hd : Den X.K H x d) (he : Den X.K H y e) (ru : RelV x u) (rv : RelV y v) : SeqAt.EqAt A s u v (D.eq d e) := by
  cases hd with
  | tup => cases hf
  | lst => cases hf
  | non  =>
    cases he with
    | tup q r => cases ru; cases rv; rw [D.eq.eq_def]; obtain ⟨_, _, p, _⟩ := I.tuple q; exact .none_tuple p hu
    | lst q r => cases ru; cases rv; rw [D.eq.eq_def]; obtain ⟨_, _, p, _⟩ := I.list q; exact .none_list p.isList hu
    | non  => exact eqAt_V ru rv rfl rfl
    | bl b1 => exact eqAt_V ru rv rfl rfl
    | int i1 => exact eqAt_V ru rv rfl rfl
    | str x1 => exact eqAt_V ru rv rfl rfl
  | bl b0 =>
    cases he with
    | tup q r => cases ru; cases rv; rw [D.eq.eq_def]; obtain ⟨_, _, p, _⟩ := I.tuple q; exact .bool_tuple _ p hu
    | lst q r => cases ru; cases rv; rw [D.eq.eq_def]; obtain ⟨_, _, p, _⟩ := I.list q; exact .bool_list _ p.isList hu
    | non  => exact eqAt_V ru rv rfl rfl
    | bl b1 => exact eqAt_V ru rv rfl rfl
    | int i1 => exact eqAt_V ru rv rfl rfl
    | str x1 => exact eqAt_V ru rv rfl rfl
  | int i0 =>
    cases he with
    | tup q r => obtain ⟨_, rfl⟩ := ru; cases rv; rw [D.eq.eq_def]; obtain ⟨_, _, p, _⟩ := I.tuple q; exact .int_tuple _ _ p hu
    | lst q r => obtain ⟨_, rfl⟩ := ru; cases rv; rw [D.eq.eq_def]; obtain ⟨_, _, p, _⟩ := I.list q; exact .int_list _ _ p.isList hu
    | non  => exact eqAt_V ru rv rfl rfl
    | bl b1 => exact eqAt_V ru rv rfl rfl
    | int i1 => exact eqAt_V ru rv rfl rfl
    | str x1 => exact eqAt_V ru rv rfl rfl
  | str x0 =>
    cases he with
    | tup q r => obtain ⟨_, rfl⟩ := ru; cases rv; rw [D.eq.eq_def]; obtain ⟨_, _, p, _⟩ := I.tuple q; exact .str_tuple _ _ p hu
    | lst q r => obtain ⟨_, rfl⟩ := ru; cases rv; rw [D.eq.eq_def]; obtain ⟨_, _, p, _⟩ := I.list q; exact .str_list _ _ p.isList hu
    | non  => exact eqAt_V ru rv rfl rfl
    | bl b1 => exact eqAt_V ru rv rfl rfl
    | int i1 => exact eqAt_V ru rv rfl rfl
    | str x1 => exact eqAt_V ru rv rfl rfl
theorem all_range_congr {n : Nat} {f g : Nat → Bool} (h : ∀ j, j < n → f j = g j) : (List.range n).all f = (List.range n).all g := by
  rw [Bool.eq_iff_iff, List.all_eq_true, List.all_eq_true]
  exact ⟨fun k j m => by rw [← h j (List.mem_range.mp m)]; exact k j m, fun k j m => by rw [h j (List.mem_range.mp m)]; exact k j m⟩
theorem Vals.getA {xs : List V} {us : List Value} (r : Vals xs us) {j : Nat} (hj : j < us.toArray.size) : ∃ x, xs[j]? = some x ∧ RelV x us.toArray[j] := by
  have hl := r.length
  have hj' : j < us.length := by simpa using hj
  have hx : j < xs.length := by omega
  obtain ⟨u, e, ru⟩ := r.get (List.getElem?_eq_getElem hx)
  rw [List.getElem?_eq_getElem hj'] at e
  cases e
  exact ⟨xs[j], List.getElem?_eq_getElem hx, by simpa using ru⟩
theorem Dens.getD {K : PySem.W.Frag} {H : Hp} {xs : List V} {ds : List D} (r : Dens K H xs ds) {j : Nat} {x : V} (e : xs[j]? = some x) : Den K H x (ds.getD j .non) ∧ D.depth (ds.getD j .non) ≤ D.depths ds := by
  have hj : j < ds.length := by rw [← r.len]; exact (List.getElem?_eq_some_iff.mp e).1
  have e2 : ds[j]? = some ds[j] := List.getElem?_eq_getElem hj
  have e3 : ds.getD j .non = ds[j] := by rw [List.getD_eq_getElem?_getD, e2]; rfl
  rw [e3]
  exact ⟨r.at j e e2, D.depths_at j e2⟩
theorem eqs_of (I : Inv X pins σ H s) {n : Nat} (ih : ∀ {A : Around} {x y : V} {d e : D} {u v : Value}, A.units + n < cLine → D.depth d ≤ n → Den X.K H x d → Den X.K H y e → RelV x u → RelV y v → SeqAt.EqAt A s u v (D.eq d e))
    {A : Around} (hu : A.units + (n + 1) < cLine) {xs ys : List V} {ds es : List D} {us vs : List Value} (hn : D.depths ds ≤ n) (r : Dens X.K H xs ds) (q : Dens X.K H ys es) (ru : Vals xs us) (rv : Vals ys vs) :
    ∀ j (h1 : j < us.toArray.size) (h2 : j < vs.toArray.size), SeqAt.EqAt A.in1 s us.toArray[j] vs.toArray[j] (D.eq (ds.getD j .non) (es.getD j .non)) := fun j h1 h2 => by
  obtain ⟨x, ex, rx⟩ := ru.getA h1
  obtain ⟨y, ey, ry⟩ := rv.getA h2
  obtain ⟨d1, d2⟩ := r.getD ex
  exact ih (by show A.units + 1 + n < cLine; omega) (Nat.le_trans d2 hn) d1 (q.getD ey).1 rx ry
theorem eqAt_den (I : Inv X pins σ H s) : ∀ (n : Nat) {A : Around} {x y : V} {d e : D} {u v : Value}, A.units + n < cLine → D.depth d ≤ n → Den X.K H x d → Den X.K H y e → RelV x u → RelV y v → SeqAt.EqAt A s u v (D.eq d e) := by
  intro n
  induction n with
  | zero =>
    intro A x y d e u v hu hn hd he ru rv
    cases id hd with
    | tup => simp [D.depth] at hn
    | lst => simp [D.depth] at hn
    | _ => exact eqAt_flat I hu rfl hd he ru rv
  | succ n ih =>
    intro A x y d e u v hu hn hd he ru rv
    have hu0 : A.units < cLine := by omega
    cases id hd with
    | @tup a xs ds ea r =>
      cases ru
      obtain ⟨us, rus, p, _⟩ := I.tuple ea
      cases id he with
      | @tup b ys es eb r2 =>
        cases rv
        obtain ⟨vs, rvs, p2, _⟩ := I.tuple eb
        by_cases hab : a = b
        · subst hab
          rw [hd.inj I he, D.eq_refl]
          exact .same _
        · refine .of_refs hab ?_
          rw [D.eq.eq_def]
          simp only []
          rw [D.eqs_all]
          have l1 : us.toArray.size = ds.length := by rw [List.size_toArray, ← rus.length, r.len]
          have l2 : vs.toArray.size = es.length := by rw [List.size_toArray, ← rvs.length, r2.len]
          rw [← l1, ← l2]
          exact .tuples p p2 hu0 (eqs_of I ih hu (by rw [D.depth] at hn; omega) r r2 rus rvs)
      | @lst b ys es eb r2 =>
        cases rv
        obtain ⟨vs, rvs, p2, _⟩ := I.list eb
        rw [D.eq.eq_def]
        exact .tuple_list p p2.isList hu0
      | non  => cases rv; rw [D.eq.eq_def]; exact .tuple_none p hu0
      | bl b0 => cases rv; rw [D.eq.eq_def]; exact .tuple_bool _ p hu0
      | int i0 => obtain ⟨_, rfl⟩ := rv; rw [D.eq.eq_def]; exact .tuple_int _ _ p hu0
      | str x0 => obtain ⟨_, rfl⟩ := rv; rw [D.eq.eq_def]; exact .tuple_str _ _ p hu0
    | @lst a xs ds ea r =>
      cases ru
      obtain ⟨us, rus, p, _⟩ := I.list ea
      cases id he with
      | @lst b ys es eb r2 =>
        cases rv
        obtain ⟨vs, rvs, p2, _⟩ := I.list eb
        by_cases hab : a = b
        · subst hab
          rw [hd.inj I he, D.eq_refl]
          exact .same _
        · refine .of_refs hab ?_
          rw [D.eq.eq_def]
          simp only []
          rw [D.eqs_all]
          have l1 : us.toArray.size = ds.length := by rw [List.size_toArray, ← rus.length, r.len]
          have l2 : vs.toArray.size = es.length := by rw [List.size_toArray, ← rvs.length, r2.len]
          rw [← l1, ← l2]
          by_cases hl : us.toArray.size = vs.toArray.size
          · have e1 : (us.toArray.size == vs.toArray.size) = true := beq_iff_eq.mpr hl
            rw [e1, Bool.and_true, ← hl, Nat.min_self]
            exact .lists p.isList p2.isList hl hu0 (eqs_of I ih hu (by rw [D.depth] at hn; omega) r r2 rus rvs)
          · have e1 : (us.toArray.size == vs.toArray.size) = false := beq_eq_false_iff_ne.mpr hl
            rw [e1, Bool.and_false]
            exact .lists_lengths p.isList p2.isList (by simpa using hl) hu0
      | @tup b ys es eb r2 =>
        cases rv
        obtain ⟨vs, rvs, p2, _⟩ := I.tuple eb
        rw [D.eq.eq_def]
        exact .list_tuple p.isList p2 hu0
      | non  => cases rv; rw [D.eq.eq_def]; exact .list_none p.isList hu0
      | bl b0 => cases rv; rw [D.eq.eq_def]; exact .list_bool _ p.isList hu0
      | int i0 => obtain ⟨_, rfl⟩ := rv; rw [D.eq.eq_def]; exact .list_int _ _ p.isList hu0
      | str x0 => obtain ⟨_, rfl⟩ := rv; rw [D.eq.eq_def]; exact .list_str _ _ p.isList hu0
    | _ => exact eqAt_flat I hu0 rfl hd he ru rv
end
end L2

set_option Elab.async false
set_option linter.all false
set_option maxRecDepth 100000
set_option maxHeartbeats 4000000
namespace L2
open PySem PySem.Spec PyProof.Rows
section
variable {X : Cx} {pins : List (Addr × Obj)} {σ : St} {H : Hp} {s : Shared}
theorem rcAt_den (I : Inv X pins σ H s) {n : Nat} {A : Around} {x y : V} {d e : D} {u v : Value} (hu : A.units + n < cLine) (hn : D.depth d ≤ n) (hd : Den X.K H x d) (he : Den X.K H y e) (ru : RelV x u) (rv : RelV y v) : SeqAt.RcAt A s u v (D.eq d e) := by
  have hu0 : A.units < cLine := by omega
  cases id hd with
  | non  =>
    cases ru
    cases id he with
    | non  => cases rv; rw [D.eq.eq_def]; exact .none_none
    | bl y1 => cases rv; rw [D.eq.eq_def]; exact .none_bool _
    | int y1 => obtain ⟨_, rfl⟩ := rv; rw [D.eq.eq_def]; exact .none_int _ _
    | str y1 => obtain ⟨_, rfl⟩ := rv; rw [D.eq.eq_def]; exact .none_str _ _
    | @tup b ys es eb r2 => cases rv; rw [D.eq.eq_def]; obtain ⟨_, _, p2, _⟩ := I.tuple eb; exact .none_tuple p2 hu0
    | @lst b ys es eb r2 => cases rv; rw [D.eq.eq_def]; obtain ⟨_, _, p2, _⟩ := I.list eb; exact .none_list p2.isList hu0
  | bl x1 =>
    cases ru
    cases id he with
    | non  => cases rv; rw [D.eq.eq_def]; exact .bool_none _
    | bl y1 => cases rv; rw [D.eq.eq_def]; exact .bool_bool _ _
    | int y1 => obtain ⟨_, rfl⟩ := rv; rw [D.eq.eq_def]; exact .bool_int _ _ _
    | str y1 => obtain ⟨_, rfl⟩ := rv; rw [D.eq.eq_def]; exact .bool_str _ _ _
    | @tup b ys es eb r2 => cases rv; rw [D.eq.eq_def]; obtain ⟨_, _, p2, _⟩ := I.tuple eb; exact .bool_tuple _ p2 hu0
    | @lst b ys es eb r2 => cases rv; rw [D.eq.eq_def]; obtain ⟨_, _, p2, _⟩ := I.list eb; exact .bool_list _ p2.isList hu0
  | int x1 =>
    obtain ⟨_, rfl⟩ := ru
    cases id he with
    | non  => cases rv; rw [D.eq.eq_def]; exact .int_none _ _
    | bl y1 => cases rv; rw [D.eq.eq_def]; exact .int_bool _ _ _
    | int y1 => obtain ⟨_, rfl⟩ := rv; rw [D.eq.eq_def]; exact .int_int _ _ _ _
    | str y1 => obtain ⟨_, rfl⟩ := rv; rw [D.eq.eq_def]; exact .int_str _ _ _ _
    | @tup b ys es eb r2 => cases rv; rw [D.eq.eq_def]; obtain ⟨_, _, p2, _⟩ := I.tuple eb; exact .int_tuple _ _ p2 hu0
    | @lst b ys es eb r2 => cases rv; rw [D.eq.eq_def]; obtain ⟨_, _, p2, _⟩ := I.list eb; exact .int_list _ _ p2.isList hu0
  | str x1 =>
    obtain ⟨_, rfl⟩ := ru
    cases id he with
    | non  => cases rv; rw [D.eq.eq_def]; exact .str_none _ _
    | bl y1 => cases rv; rw [D.eq.eq_def]; exact .str_bool _ _ _
    | int y1 => obtain ⟨_, rfl⟩ := rv; rw [D.eq.eq_def]; exact .str_int _ _ _ _
    | str y1 => obtain ⟨_, rfl⟩ := rv; rw [D.eq.eq_def]; exact .str_str _ _ _ _
    | @tup b ys es eb r2 => cases rv; rw [D.eq.eq_def]; obtain ⟨_, _, p2, _⟩ := I.tuple eb; exact .str_tuple _ _ p2 hu0
    | @lst b ys es eb r2 => cases rv; rw [D.eq.eq_def]; obtain ⟨_, _, p2, _⟩ := I.list eb; exact .str_list _ _ p2.isList hu0
  | @tup a xs ds ea r =>
    cases ru
    obtain ⟨us, rus, p, _⟩ := I.tuple ea
    cases id he with
    | non  => cases rv; rw [D.eq.eq_def]; exact .tuple_none p hu0
    | bl y1 => cases rv; rw [D.eq.eq_def]; exact .tuple_bool _ p hu0
    | int y1 => obtain ⟨_, rfl⟩ := rv; rw [D.eq.eq_def]; exact .tuple_int _ _ p hu0
    | str y1 => obtain ⟨_, rfl⟩ := rv; rw [D.eq.eq_def]; exact .tuple_str _ _ p hu0
    | @tup b ys es eb r2 =>
      cases rv
      obtain ⟨vs, rvs, p2, _⟩ := I.tuple eb
      rw [D.depth] at hn
      obtain ⟨n, rfl⟩ : ∃ m, n = m + 1 := ⟨n - 1, by omega⟩
      rw [D.eq.eq_def]
      simp only []
      rw [D.eqs_all]
      have l1 : us.toArray.size = ds.length := by rw [List.size_toArray, ← rus.length, r.len]
      have l2 : vs.toArray.size = es.length := by rw [List.size_toArray, ← rvs.length, r2.len]
      rw [← l1, ← l2]
      exact .tuples p p2 hu0 (eqs_of I (eqAt_den I n) hu (by omega) r r2 rus rvs)
    | @lst b ys es eb r2 => cases rv; rw [D.eq.eq_def]; obtain ⟨_, _, p2, _⟩ := I.list eb; exact .tuple_list p p2.isList hu0
  | @lst a xs ds ea r =>
    cases ru
    obtain ⟨us, rus, p, _⟩ := I.list ea
    cases id he with
    | non  => cases rv; rw [D.eq.eq_def]; exact .list_none p.isList hu0
    | bl y1 => cases rv; rw [D.eq.eq_def]; exact .list_bool _ p.isList hu0
    | int y1 => obtain ⟨_, rfl⟩ := rv; rw [D.eq.eq_def]; exact .list_int _ _ p.isList hu0
    | str y1 => obtain ⟨_, rfl⟩ := rv; rw [D.eq.eq_def]; exact .list_str _ _ p.isList hu0
    | @tup b ys es eb r2 => cases rv; rw [D.eq.eq_def]; obtain ⟨_, _, p2, _⟩ := I.tuple eb; exact .list_tuple p.isList p2 hu0
    | @lst b ys es eb r2 =>
      cases rv
      obtain ⟨vs, rvs, p2, _⟩ := I.list eb
      rw [D.depth] at hn
      obtain ⟨n, rfl⟩ : ∃ m, n = m + 1 := ⟨n - 1, by omega⟩
      rw [D.eq.eq_def]
      simp only []
      rw [D.eqs_all]
      have l1 : us.toArray.size = ds.length := by rw [List.size_toArray, ← rus.length, r.len]
      have l2 : vs.toArray.size = es.length := by rw [List.size_toArray, ← rvs.length, r2.len]
      rw [← l1, ← l2]
      by_cases hl : us.toArray.size = vs.toArray.size
      · have e1 : (us.toArray.size == vs.toArray.size) = true := beq_iff_eq.mpr hl
        rw [e1, Bool.and_true, ← hl, Nat.min_self]
        exact .lists p.isList p2.isList hl hu0 (eqs_of I (eqAt_den I n) hu (by omega) r r2 rus rvs)
      · have e1 : (us.toArray.size == vs.toArray.size) = false := beq_eq_false_iff_ne.mpr hl
        rw [e1, Bool.and_false]
        exact .lists_lengths p.isList p2.isList (by simpa using hl) hu0
theorem rcNeAt_den (I : Inv X pins σ H s) {n : Nat} {A : Around} {x y : V} {d e : D} {u v : Value} (hu : A.units + n < cLine) (hn : D.depth d ≤ n) (hd : Den X.K H x d) (he : Den X.K H y e) (ru : RelV x u) (rv : RelV y v) : SeqAt.RcNeAt A s u v (!D.eq d e) := by
  have hu0 : A.units < cLine := by omega
  cases id hd with
  | non  =>
    cases ru
    cases id he with
    | non  => cases rv; rw [D.eq.eq_def]; exact .none_none
    | bl y1 => cases rv; rw [D.eq.eq_def]; exact .none_bool _
    | int y1 => obtain ⟨_, rfl⟩ := rv; rw [D.eq.eq_def]; exact .none_int _ _
    | str y1 => obtain ⟨_, rfl⟩ := rv; rw [D.eq.eq_def]; exact .none_str _ _
    | @tup b ys es eb r2 => cases rv; rw [D.eq.eq_def]; obtain ⟨_, _, p2, _⟩ := I.tuple eb; exact .none_tuple p2 hu0
    | @lst b ys es eb r2 => cases rv; rw [D.eq.eq_def]; obtain ⟨_, _, p2, _⟩ := I.list eb; exact .none_list p2.isList hu0
  | bl x1 =>
    cases ru
    cases id he with
    | non  => cases rv; rw [D.eq.eq_def]; exact .bool_none _
    | bl y1 => cases rv; rw [D.eq.eq_def]; exact .bool_bool _ _
    | int y1 => obtain ⟨_, rfl⟩ := rv; rw [D.eq.eq_def]; exact .bool_int _ _ _
    | str y1 => obtain ⟨_, rfl⟩ := rv; rw [D.eq.eq_def]; exact .bool_str _ _ _
    | @tup b ys es eb r2 => cases rv; rw [D.eq.eq_def]; obtain ⟨_, _, p2, _⟩ := I.tuple eb; exact .bool_tuple _ p2 hu0
    | @lst b ys es eb r2 => cases rv; rw [D.eq.eq_def]; obtain ⟨_, _, p2, _⟩ := I.list eb; exact .bool_list _ p2.isList hu0
  | int x1 =>
    obtain ⟨_, rfl⟩ := ru
    cases id he with
    | non  => cases rv; rw [D.eq.eq_def]; exact .int_none _ _
    | bl y1 => cases rv; rw [D.eq.eq_def]; exact .int_bool _ _ _
    | int y1 => obtain ⟨_, rfl⟩ := rv; rw [D.eq.eq_def]; exact .int_int _ _ _ _
    | str y1 => obtain ⟨_, rfl⟩ := rv; rw [D.eq.eq_def]; exact .int_str _ _ _ _
    | @tup b ys es eb r2 => cases rv; rw [D.eq.eq_def]; obtain ⟨_, _, p2, _⟩ := I.tuple eb; exact .int_tuple _ _ p2 hu0
    | @lst b ys es eb r2 => cases rv; rw [D.eq.eq_def]; obtain ⟨_, _, p2, _⟩ := I.list eb; exact .int_list _ _ p2.isList hu0
  | str x1 =>
    obtain ⟨_, rfl⟩ := ru
    cases id he with
    | non  => cases rv; rw [D.eq.eq_def]; exact .str_none _ _
    | bl y1 => cases rv; rw [D.eq.eq_def]; exact .str_bool _ _ _
    | int y1 => obtain ⟨_, rfl⟩ := rv; rw [D.eq.eq_def]; exact .str_int _ _ _ _
    | str y1 => obtain ⟨_, rfl⟩ := rv; rw [D.eq.eq_def]; exact .str_str _ _ _ _
    | @tup b ys es eb r2 => cases rv; rw [D.eq.eq_def]; obtain ⟨_, _, p2, _⟩ := I.tuple eb; exact .str_tuple _ _ p2 hu0
    | @lst b ys es eb r2 => cases rv; rw [D.eq.eq_def]; obtain ⟨_, _, p2, _⟩ := I.list eb; exact .str_list _ _ p2.isList hu0
  | @tup a xs ds ea r =>
    cases ru
    obtain ⟨us, rus, p, _⟩ := I.tuple ea
    cases id he with
    | non  => cases rv; rw [D.eq.eq_def]; exact .tuple_none p hu0
    | bl y1 => cases rv; rw [D.eq.eq_def]; exact .tuple_bool _ p hu0
    | int y1 => obtain ⟨_, rfl⟩ := rv; rw [D.eq.eq_def]; exact .tuple_int _ _ p hu0
    | str y1 => obtain ⟨_, rfl⟩ := rv; rw [D.eq.eq_def]; exact .tuple_str _ _ p hu0
    | @tup b ys es eb r2 =>
      cases rv
      obtain ⟨vs, rvs, p2, _⟩ := I.tuple eb
      rw [D.depth] at hn
      obtain ⟨n, rfl⟩ : ∃ m, n = m + 1 := ⟨n - 1, by omega⟩
      rw [D.eq.eq_def]
      simp only []
      rw [D.eqs_all]
      have l1 : us.toArray.size = ds.length := by rw [List.size_toArray, ← rus.length, r.len]
      have l2 : vs.toArray.size = es.length := by rw [List.size_toArray, ← rvs.length, r2.len]
      rw [← l1, ← l2]
      exact .tuples p p2 hu0 (eqs_of I (eqAt_den I n) hu (by omega) r r2 rus rvs)
    | @lst b ys es eb r2 => cases rv; rw [D.eq.eq_def]; obtain ⟨_, _, p2, _⟩ := I.list eb; exact .tuple_list p p2.isList hu0
  | @lst a xs ds ea r =>
    cases ru
    obtain ⟨us, rus, p, _⟩ := I.list ea
    cases id he with
    | non  => cases rv; rw [D.eq.eq_def]; exact .list_none p.isList hu0
    | bl y1 => cases rv; rw [D.eq.eq_def]; exact .list_bool _ p.isList hu0
    | int y1 => obtain ⟨_, rfl⟩ := rv; rw [D.eq.eq_def]; exact .list_int _ _ p.isList hu0
    | str y1 => obtain ⟨_, rfl⟩ := rv; rw [D.eq.eq_def]; exact .list_str _ _ p.isList hu0
    | @tup b ys es eb r2 => cases rv; rw [D.eq.eq_def]; obtain ⟨_, _, p2, _⟩ := I.tuple eb; exact .list_tuple p.isList p2 hu0
    | @lst b ys es eb r2 =>
      cases rv
      obtain ⟨vs, rvs, p2, _⟩ := I.list eb
      rw [D.depth] at hn
      obtain ⟨n, rfl⟩ : ∃ m, n = m + 1 := ⟨n - 1, by omega⟩
      rw [D.eq.eq_def]
      simp only []
      rw [D.eqs_all]
      have l1 : us.toArray.size = ds.length := by rw [List.size_toArray, ← rus.length, r.len]
      have l2 : vs.toArray.size = es.length := by rw [List.size_toArray, ← rvs.length, r2.len]
      rw [← l1, ← l2]
      by_cases hl : us.toArray.size = vs.toArray.size
      · have e1 : (us.toArray.size == vs.toArray.size) = true := beq_iff_eq.mpr hl
        rw [e1, Bool.and_true, ← hl, Nat.min_self]
        exact .lists p.isList p2.isList hl hu0 (eqs_of I (eqAt_den I n) hu (by omega) r r2 rus rvs)
      · have e1 : (us.toArray.size == vs.toArray.size) = false := beq_eq_false_iff_ne.mpr hl
        rw [e1, Bool.and_false]
        exact .lists_lengths p.isList p2.isList (by simpa using hl) hu0

def rEqD (K : PySem.W.Frag) : R2 := fun x y H Q => ∃ d e, Den K H x d ∧ Den K H y e ∧ D.depth d ≤ 40 ∧ Q (.bl (D.eq d e)) H
def rNeD (K : PySem.W.Frag) : R2 := fun x y H Q => ∃ d e, Den K H x d ∧ Den K H y e ∧ D.depth d ≤ 40 ∧ Q (.bl (!D.eq d e)) H
theorem op_eqD (hu : X.A.units + 64 < cLine) : OpR X (compareOp .Eq) (rEqD X.K) := by
  intro pins s σ H x y v u Q I rx ry h
  obtain ⟨d, e, hd, he, dp, q⟩ := h
  exact rcAt_den I (n := 64) hu (by omega) hd he rx ry _ _ _ _ ⟨.bl _, H, I, rfl, q⟩
theorem op_neD (hu : X.A.units + 64 < cLine) : OpR X (compareOp .NotEq) (rNeD X.K) := by
  intro pins s σ H x y v u Q I rx ry h
  obtain ⟨d, e, hd, he, dp, q⟩ := h
  exact rcNeAt_den I (n := 64) hu (by omega) hd he rx ry _ _ _ _ ⟨.bl _, H, I, rfl, q⟩

/-! ### isinstance -/
/-- the kind of a value -/
inductive TyX (K : PySem.W.Frag) (H : Hp) : V → Value → Prop where
  | of {v : V} {t : Value} (h : TyOf K H v t) : TyX K H v t
  | tup {a : Addr} {xs : List V} (e : SqT K H a xs) : TyX K H (.ref a) (.type "tuple")
  | lst {a : Addr} {xs : List V} (e : SqL K H a xs) : TyX K H (.ref a) (.type "list")
  | exc {a C : Addr} (e : H a = some (excO a C)) (c : XCls K C) : TyX K H (.ref a) (.ref C)
def clsV : V → Value
  | .ref a => .ref a
  | .ty n => .type n
  | _ => .none
def isCls : V → Bool
  | .ref _ => true
  | .ty _ => true
  | _ => false
theorem clsV_of {x : V} {u : Value} (h : isCls x = true) (r : RelV x u) : u = clsV x := by
  cases x <;> first | exact r | cases h
theorem clsVs_of : ∀ {xs : List V} {us : List Value}, xs.all isCls = true → Vals xs us → us = xs.map clsV
  | _, _, _, .nil => rfl
  | _, _, h, .cons r t => by
    rw [List.all_cons, Bool.and_eq_true] at h
    rw [List.map_cons, clsV_of h.1 r, clsVs_of h.2 t]
theorem kitx_of_ty {pins : List (Addr × Obj)} {σ : St} {H : Hp} {s : Shared} {x : V} {u t : Value} (I : Inv X pins σ H s) (rx : RelV x u) (ty : TyX X.K H x t) : ∃ P, PySem.W.KitX X.K u t P ∧ P s.heap ∧ u ≠ .builtin "__main__.__loader__#opaque" := by
  cases ty with
  | tup e =>
    cases rx
    obtain ⟨_, _, ⟨o, h1, h2, _⟩, _⟩ := I.tuple e
    exact ⟨_, PySem.W.kitx_tuple, ⟨o, h1, h2⟩, fun z => nomatch z⟩
  | lst e =>
    cases rx
    obtain ⟨_, _, ⟨o, _, h1, h2, _⟩, _⟩ := I.list e
    exact ⟨_, PySem.W.kitx_list, ⟨o, h1, h2⟩, fun z => nomatch z⟩
  | exc e c =>
    cases rx
    obtain ⟨p, _⟩ := (show ObjOk X.prog X.w H s.heap _ (excO _ _) from I.hok _ _ e)
    exact ⟨_, kitx_exc c, p, fun z => nomatch z⟩
  | of h =>
    cases h with
    | non => cases rx; exact ⟨_, PySem.W.kitx_none, trivial, fun z => nomatch z⟩
    | bl y => cases rx; exact ⟨_, PySem.W.kitx_bool, trivial, fun z => nomatch z⟩
    | int i => obtain ⟨_, rfl⟩ := rx; exact ⟨_, PySem.W.kitx_int, trivial, fun z => nomatch z⟩
    | str i => obtain ⟨_, rfl⟩ := rx; exact ⟨_, PySem.W.kitx_str, trivial, fun z => nomatch z⟩
    | flt i => obtain ⟨_, rfl⟩ := rx; exact ⟨_, PySem.W.kitx_float, trivial, fun z => nomatch z⟩
    | @lst a xs ea =>
      cases rx
      obtain ⟨_, _, n, _, h1⟩ := (show ObjOk X.prog X.w H s.heap a (.lst xs) from I.hok a _ ea)
      exact ⟨_, PySem.W.kitx_list, ⟨_, h1, rfl⟩, fun z => nomatch z⟩
    | @frz a ob xs ea =>
      cases rx
      obtain ⟨_, _, _, n, _, h1⟩ := (show ObjOk X.prog X.w H s.heap a (.frz ob (.lst xs)) from I.hok a _ ea)
      exact ⟨_, PySem.W.kitx_list, ⟨_, h1, rfl⟩, fun z => nomatch z⟩
    | @tup a xs ea =>
      cases rx
      obtain ⟨_, _, _, o, h1, h2, _⟩ := (show ObjOk X.prog X.w H s.heap a (.tup xs) from I.hok a _ ea)
      exact ⟨_, PySem.W.kitx_tuple, ⟨o, h1, h2⟩, fun z => nomatch z⟩
    | @dK a kvs ea =>
      cases rx
      obtain ⟨_, _, vs, _, o, es, ep, h1, h2, _⟩ := (show ObjOk X.prog X.w H s.heap a (.dK kvs) from I.hok a _ ea)
      exact ⟨_, PySem.W.kitx_dict, ⟨o, h1, h2.1⟩, fun z => nomatch z⟩
    | @dT a kvs ea =>
      cases rx
      obtain ⟨_, _, xs, _, o, es, ep, h1, h2, _⟩ := (show ObjOk X.prog X.w H s.heap a (.dT kvs) from I.hok a _ ea)
      exact ⟨_, PySem.W.kitx_dict, ⟨o, h1, h2.1⟩, fun z => nomatch z⟩
    | @ins a C dx fs ea cl ha hn htk hm =>
      cases rx
      obtain ⟨mA, O, _⟩ := ins_get I.hok ea
      obtain ⟨od, J, _⟩ := O.look
      exact ⟨_, PySem.W.kitx_own (cl.get _) cl.hd ha hn htk hm, J, fun z => nomatch z⟩
/-- isinstance(x, c), isinstance(x, (c, ..)) -/
theorem call_isi : CallR X (.builtin "isinstance") (fun xs H Q => ∃ x c t b, xs = [x, c] ∧ TyX X.K H x t ∧ isCls c = true ∧ PySem.W.kitOne X.K t (clsV c) = some b ∧ Q (.bl b) H) := by
  intro pins s σ H xs us Q I r h
  obtain ⟨x, c, t, b, rfl, ty, hc, hk, q⟩ := h
  obtain ⟨u, w', rfl, ru, rw'⟩ := vals2 r
  rw [clsV_of hc rw']
  obtain ⟨P, Z, p, nb⟩ := kitx_of_ty I ru ty
  exact PySem.W.kia_one Z I.kIn p hk nb fun tk => ⟨.bl b, H, I.tok tk, rfl, q⟩
theorem call_isiK {K : PySem.W.Frag} (hK : X.K = K) : CallR X (.builtin "isinstance") (fun xs H Q => ∃ x c t b, xs = [x, c] ∧ TyX K H x t ∧ isCls c = true ∧ PySem.W.kitOne K t (clsV c) = some b ∧ Q (.bl b) H) := by
  subst hK
  exact call_isi
theorem call_isiT : CallR X (.builtin "isinstance") (fun xs H Q => ∃ x a cs t b, xs = [x, .ref a] ∧ H a = some (.tup cs) ∧ cs.all isCls = true ∧ TyX X.K H x t ∧ PySem.W.kitAny X.K t (cs.map clsV) = some b ∧ Q (.bl b) H) := by
  intro pins s σ H xs us Q I r h
  obtain ⟨x, a, cs, t, b, rfl, ha, hc, ty, hk, q⟩ := h
  obtain ⟨u, w', rfl, ru, rw'⟩ := vals2 r
  cases rw'
  obtain ⟨P, Z, p, nb⟩ := kitx_of_ty I ru ty
  obtain ⟨_, its, rv, o, e, c, n, dd⟩ := (show ObjOk X.prog X.w H s.heap a (.tup cs) from I.hok a _ ha)
  obtain ⟨oc, od, odt, osl⟩ := o
  simp only at c dd
  subst c dd
  rw [clsVs_of hc rv] at e
  exact PySem.W.kia_tup Z I.kIn p e hk nb fun tk => ⟨.bl b, H, I.tok tk, rfl, q⟩
end
end L2

set_option Elab.async false
set_option linter.all false
set_option maxRecDepth 100000
set_option maxHeartbeats 4000000
namespace L2
open PySem PySem.Spec PyProof.Rows
theorem bt_len : bootBuiltins "len" = some (.builtin "len") := by decide +kernel
theorem bt_isinstance : bootBuiltins "isinstance" = some (.builtin "isinstance") := by decide +kernel
theorem bt_abs : bootBuiltins "abs" = some (.builtin "abs") := by decide +kernel
theorem bt_max : bootBuiltins "max" = some (.builtin "max") := by decide +kernel
theorem bt_min : bootBuiltins "min" = some (.builtin "min") := by decide +kernel
theorem bt_sorted : bootBuiltins "sorted" = some (.builtin "sorted") := by decide +kernel
theorem bt_all : bootBuiltins "all" = some (.builtin "all") := by decide +kernel
theorem bt_sum : bootBuiltins "sum" = some (.builtin "sum") := by decide +kernel
theorem bt_any : bootBuiltins "any" = some (.builtin "any") := by decide +kernel
theorem bt_int : bootBuiltins "int" = some (.type "int") := by decide +kernel
theorem bt_bool : bootBuiltins "bool" = some (.type "bool") := by decide +kernel
theorem bt_str : bootBuiltins "str" = some (.type "str") := by decide +kernel
theorem bt_tuple : bootBuiltins "tuple" = some (.type "tuple") := by decide +kernel
theorem bt_list : bootBuiltins "list" = some (.type "list") := by decide +kernel
theorem bt_dict : bootBuiltins "dict" = some (.type "dict") := by decide +kernel
theorem bt_range : bootBuiltins "range" = some (.type "range") := by decide +kernel
theorem bt_zip : bootBuiltins "zip" = some (.type "zip") := by decide +kernel
theorem bt_set : bootBuiltins "set" = some (.type "set") := by decide +kernel
theorem bt_enumerate : bootBuiltins "enumerate" = some (.type "enumerate") := by decide +kernel
theorem bt_ValueError : bootBuiltins "ValueError" = some (.type "ValueError") := by decide +kernel
/-! ### defs whose exceptions go on -/
theorem pass0E {P : Program} {w : World} {X : Cx} : Passes (CXE P w) X E0 := fun _ _ _ _ _ _ _ ⟨_, _, _, _, _, z⟩ => z.elim
/-- a def of the text, with its defaults -/
structure FunD (K : PySem.W.Frag) (x qual : Str) (st : Stmt) (f : Addr) (fd : FuncData) (dV : Value) : Prop where
  ex : ∃ (oc : Value) (od : Option Addr) (kV doc pm : Value) (an : Option Addr) (cdv ct : Value) (osl : Array (Option Value)),
    fd = PySem.W.fnOf x qual (defArgs st) (defBody st) (defScope st) dV kV doc pm an cdv ct ∧ K.lookup f = some ⟨oc, od, .func fd, osl⟩ ∧ PySem.W.codeIn K cdv qual = true
  kp : PySem.W.keepIn K (.ref f) = true
section
variable {P : Program} {w : World} {K : PySem.W.Frag} {mg : Str → Option Value} {base : Heap} {dV : Value}
theorem FunD.ok {x qual : Str} {st : Stmt} {f : Addr} {fd : FuncData} {N ps : List Str} {k : Nat} {sp : Sp} (F : FunD K x qual st f fd dV) (S : FnScope N ps (defScope st)) (len : ∀ vs H Q E, sp vs H Q E → vs.length = ps.length)
    (hbody : ∀ (cdv : Value) (A : Around) (outer : List Env) (s : Shared) (H : Hp) (vs : List V) (Q : VK) (E : XK), Room k (A.deeper (envOfC qual (defScope st) s.heap.objs.size f cdv)) → sp vs H Q E →
      ∃ t, PSs (cxOf (CXE P w) P w K mg base N qual (defScope st) f cdv A outer s H E) (defBody st) t ∧ t { nx := fun _ H' => Q .non H', rt := Q } (start N vs) H) : FnOk P w K mg base (CXE P w) (k + 1) f fd ps sp := by
  obtain ⟨oc, od, kV, doc, pm, an, cdv, ct, osl, rfl, lk, hcd⟩ := F.ex
  exact fn_of lk hcd S len fun A outer s H vs Q E hr hsp => hbody cdv A outer s H vs Q E hr hsp
theorem FunD.binds {x qual : Str} {st : Stmt} {f : Addr} {fd : FuncData} {ps : List Str} (F : FunD K x qual st f fd dV)
    (h : ∀ (kV doc pm : Value) (an : Option Addr) (cdv ct : Value) (us : List Value), us.length = ps.length → bindArgs (PySem.W.fnOf x qual (defArgs st) (defBody st) (defScope st) dV kV doc pm an cdv ct) ⟨us, []⟩ = pure (ps.zip us)) : Binds K fd ps [] := by
  obtain ⟨oc, od, kV, doc, pm, an, cdv, ct, osl, rfl, lk, hcd⟩ := F.ex
  exact Binds.all fun us hl => h kV doc pm an cdv ct us hl
theorem fund_mk {x qual : Str} {st : Stmt} {f : Addr} {oc : Value} {od an : Option Addr} {osl : Array (Option Value)} {kV doc pm cdv ct : Value}
    (l : K.lookup f = some ⟨oc, od, .func (PySem.W.fnOf x qual (defArgs st) (defBody st) (defScope st) dV kV doc pm an cdv ct), osl⟩) (c : PySem.W.codeIn K cdv qual = true) (k : PySem.W.keepIn K (.ref f) = true) :
    FunD K x qual st f (PySem.W.fnOf x qual (defArgs st) (defBody st) (defScope st) dV kV doc pm an cdv ct) dV := ⟨⟨_, _, _, _, _, _, _, _, _, rfl, l, c⟩, k⟩
end
/-! ### an item of a list or a tuple -/
def rIxD (K : PySem.W.Frag) : R2 := fun x y H Q => ∃ p xs i v, x = .ref p ∧ y = .int i ∧ (SqL K H p xs ∨ SqT K H p xs) ∧ atI xs i = some v ∧ Q v H
section
variable {X : Cx}
theorem ix_d : IxR X (rIxD X.K) := by
  intro value slice pins s σ H x y v u Q I rx ry h hs
  obtain ⟨p, xs, i, z, e1, e2, e3 | e3, e4, q⟩ := h
  · exact ix_list value slice pins s σ H x y v u Q I rx ry ⟨p, xs, i, z, e1, e2, e3, e4, q⟩ hs
  · exact ix_tup value slice pins s σ H x y v u Q I rx ry ⟨p, xs, i, z, e1, e2, e3, e4, q⟩ hs
theorem plainIx {b : Expr} (h : ∀ o i, subscripted b false o i = operate [o, i] (getItem o i)) : PlainIx b := h

theorem while_w {c : TT} {tb : TS} {D : Ends} {σ : St} {H : Hp} (Pv : Nat → St → Hp → Prop) (m0 : Nat) (h0 : Pv m0 σ H)
    (hs : ∀ m σ H, Pv m σ H → c σ H fun b H1 => if b = true then ∃ N : St → Hp → Prop, (∀ σ' H', N σ' H' → ∃ m', m' < m ∧ Pv m' σ' H') ∧ tb { D with nx := N, ct := N, bk := D.nx } σ H1 else D.nx σ H1) : tWhile c tb D σ H :=
  ⟨Pv, ⟨m0, h0⟩, hs⟩

/-- all but the object at p is as it was -/
def SB (p : Addr) (H H' : Hp) : Prop := ∀ b o, b ≠ p → H b = some o → H' b = some o
theorem SB.refl (p : Addr) (H : Hp) : SB p H H := fun _ _ _ h => h
theorem SB.trans {p : Addr} {H H1 H2 : Hp} (a : SB p H H1) (b : SB p H1 H2) : SB p H H2 := fun c o n h => b c o n (a c o n h)
theorem SB.of {p : Addr} {H H1 : Hp} (a : Same H H1) : SB p H H1 := fun c o _ h => a c o h
theorem SB.upd (p : Addr) (H : Hp) (o : HO) : SB p H (upd H p o) := fun c u n h => by rw [upd_ne n]; exact h
theorem Same.new {H : Hp} {p : Addr} {o : HO} (h : H p = none) : Same H (L2.upd H p o) := fun c u e => by rw [upd_ne (ne_of_none e h)]; exact e
theorem SB.new {q p : Addr} {H : Hp} {o : HO} (h : H p = none) : SB q H (L2.upd H p o) := SB.of (Same.new h)
theorem SqL.sb {K : PySem.W.Frag} {p a : Addr} {H H' : Hp} {xs : List V} (s : SB p H H') (n : a ≠ p) (h : SqL K H a xs) : SqL K H' a xs := by
  rcases h with (h | ⟨o, h⟩) | h
  · exact .inl (.inl (s _ _ n h))
  · exact .inl (.inr ⟨o, s _ _ n h⟩)
  · exact .inr h
theorem ite2b {c : Bool} {A B : Prop} (h1 : c = true → A) (h2 : c = false → B) : if c = true then A else B := by
  cases c
  · rw [if_neg (by decide)]; exact h2 rfl
  · rw [if_pos rfl]; exact h1 rfl

theorem cxOf_K {CX : CXT} {P : Program} {w : World} {K : PySem.W.Frag} {mg : Str → Option Value} {base : Heap} {N : List Str} {qual : Str} {scope : Scope} {f : Addr} {cd : Value} {A : Around} {outer : List Env} {s : Shared} {H : Hp} {E : XK} :
    (cxOf CX P w K mg base N qual scope f cd A outer s H E).K = K := rfl
theorem ixd_l {K : PySem.W.Frag} {H : Hp} {p : Addr} {xs : List V} {i : Int} {v : V} {Q : VK} (h : H p = some (.lst xs)) (e : atI xs i = some v) (q : Q v H) : rIxD K (.ref p) (.int i) H Q := ⟨p, xs, i, v, rfl, rfl, .inl (SqL.of h), e, q⟩
theorem ixd_t {K : PySem.W.Frag} {H : Hp} {p : Addr} {xs : List V} {i : Int} {v : V} {Q : VK} (h : SqT K H p xs) (e : atI xs i = some v) (q : Q v H) : rIxD K (.ref p) (.int i) H Q := ⟨p, xs, i, v, rfl, rfl, .inr h, e, q⟩
theorem ixd_s {K : PySem.W.Frag} {H : Hp} {p : Addr} {xs : List V} {i : Int} {v : V} {Q : VK} (h : SqL K H p xs) (e : atI xs i = some v) (q : Q v H) : rIxD K (.ref p) (.int i) H Q := ⟨p, xs, i, v, rfl, rfl, .inl h, e, q⟩
theorem setl {H : Hp} {p : Addr} {xs : List V} {k : Int} {j : Nat} {v : V} {Q : Hp → Prop} (h : H p = some (.lst xs)) (e : ixN xs.length k = some j) (q : Q (upd H p (.lst (xs.set j v)))) : rSetL (.ref p) (.int k) v H Q := ⟨p, xs, k, j, rfl, rfl, h, e, q⟩
theorem mulL {i j : Int} (h : i.natAbs < 2 ^ 64) : IntMulOk i j := CMul.ok (.inl ⟨by omega, by omega⟩)
theorem mulR {i j : Int} (h : j.natAbs < 2 ^ 64) : IntMulOk i j := CMul.ok (.inr ⟨by omega, by omega⟩)
theorem cdv1 {i j : Int} (h : j ≠ 0) (k : j.natAbs < 2 ^ 100) : CDv i j := ⟨h, Bd.mono (m := 100) k (by decide)⟩

theorem TyX.keeps {K : PySem.W.Frag} {H H' : Hp} {v : V} {t : Value} (h : TyX K H v t) (s : Same H H') : TyX K H' v t := by
  cases h with
  | tup e => exact .tup (e.keeps s)
  | lst e => exact .lst (e.keeps s)
  | exc e c => exact .exc (s _ _ e) c
  | of h =>
    cases h with
    | non => exact .of .non
    | bl x => exact .of (.bl x)
    | int x => exact .of (.int x)
    | str x => exact .of (.str x)
    | flt x => exact .of (.flt x)
    | lst e => exact .of (.lst (s _ _ e))
    | frz e => exact .of (.frz (s _ _ e))
    | tup e => exact .of (.tup (s _ _ e))
    | dK e => exact .of (.dK (s _ _ e))
    | dT e => exact .of (.dT (s _ _ e))
    | ins e cl ha hn htk hm => exact .of (.ins (s _ _ e) cl ha hn htk hm)
end
end L2

set_option Elab.async false
set_option linter.all false
set_option maxRecDepth 100000
namespace L2
open PySem PySem.Spec PyProof.Rows
/-! ### readings, one step -/
def Later (u : TS) (D : Ends) (σ : St) (H : Hp) : Prop := u D σ H
section
variable {K : PySem.W.Frag} {D : Ends} {σ : St} {H : Hp} {Q : VK} {QT : Bool → Hp → Prop} {QA : List V → Hp → Prop} {QS : St → Hp → Prop} {E : XK} {EX : XS} {ta tb tc te : TE} {tt tu : TT} {t u : TS} {tA tr : TA} {tx : TX} {g : TG} {gs : TGs} {i j n : Nat} {v x y : V} {vs : List V} {r r' : R2} {C : Addr} {sp : Sp} {dvs : List V}
theorem x_seq : tSeq t u D σ H = t { D with nx := Later u D } σ H := rfl
theorem x_ret : tRet te D σ H = te σ H D.rt := rfl
theorem x_retN : tRetN D σ H = D.rt .non H := rfl
theorem x_next : tNext D σ H = D.nx σ H := rfl
theorem x_break : tBreak D σ H = D.bk σ H := rfl
theorem x_cont : tCont D σ H = D.ct σ H := rfl
theorem x_asg : tAsg te g D σ H = te σ H fun x H1 => g x σ H1 D.nx := rfl
theorem x_drop : tDrop te D σ H = te σ H fun _ H1 => D.nx σ H1 := rfl
theorem x_if : tIfS tt t u D σ H = tt σ H fun b H1 => if b = true then t D σ H1 else u D σ H1 := rfl
theorem x_par : tPar i j tA D σ H = tA σ H fun vs H1 => ∃ v w, vs = [v, w] ∧ D.nx ((σ.set i (some v)).set j (some w)) H1 := rfl
theorem x_raise : tRaise C E tA D σ H = tA σ H fun vs H1 => vs.length ≤ sizeLine ∧ E (.ref C) none H1 := rfl
theorem x_try {T : Addr} {ts : TS} : tTry K T i tx ts D σ H = tx D (fun c σ' H' => ∃ C, c = .ref C ∧ PySem.W.exmOne K (.ref C) (.ref T) = some true ∧ ∀ a, H' a = none → Later ts (D.un i) (σ'.set i (some (.ref a))) (upd H' a (excO a C))) σ H := rfl
theorem x_name : gName i v σ H QS = QS (σ.set i (some v)) H := rfl
theorem x_gtup : gTup K n gs v σ H QS = ∃ a xs, v = .ref a ∧ SqT K H a xs ∧ xs.length = n ∧ gs xs σ H QS := rfl
theorem x_gcons : gCons g gs vs σ H QS = ∃ v r, vs = v :: r ∧ g v σ H fun σ' H' => gs r σ' H' QS := rfl
theorem x_gnil : gNil vs σ H QS = (vs = [] ∧ QS σ H) := rfl
theorem x_gsub {ts : TSet} : gSub ta tb ts v σ H QS = ta σ H fun o H1 => tb σ H1 fun i H2 => ts o i v H2 fun H3 => QS σ H3 := rfl
theorem x_var : tVar i σ H Q = ∃ v, σ[i]? = some (some v) ∧ Q v H := rfl
theorem x_c : tC v σ H Q = Q v H := rfl
theorem x_op : tOp r ta tb σ H Q = ta σ H fun x H1 => tb σ H1 fun y H2 => r x y H2 Q := rfl
theorem x_un {q : V → Hp → VK → Prop} : tUn q ta σ H Q = ta σ H fun x H1 => q x H1 Q := rfl
theorem x_rI {c : Int → Int → Prop} {f : Int → Int → V} : rI c f x y H Q = ∃ i j, x = .int i ∧ y = .int j ∧ c i j ∧ Q (f i j) H := rfl
theorem x_rI0 {f : Int → Int → V} : rI0 f x y H Q = ∃ i j, x = .int i ∧ y = .int j ∧ Q (f i j) H := rfl
theorem x_rU {f : Int → V} : rU f x H Q = ∃ i, x = .int i ∧ Q (f i) H := rfl
theorem x_B : tB te σ H QT = te σ H fun x H1 => ∃ c, x = .bl c ∧ QT c H1 := rfl
theorem x_cmp {p : Int → Int → Bool} : tCmp p ta tb σ H Q = ta σ H fun x H1 => tb σ H1 fun y H2 => ∃ i j, x = .int i ∧ y = .int j ∧ Q (.bl (p i j)) H2 := rfl
theorem x_isN : tIsN ta σ H Q = ta σ H fun x H1 => Q (.bl (decide (x = .non))) H1 := rfl
theorem x_notN : tNotN ta σ H Q = ta σ H fun x H1 => Q (.bl (!decide (x = .non))) H1 := rfl
theorem x_test : tTest te σ H QT = te σ H fun x H' => ∃ k, x = .bl k ∧ QT k H' := rfl
theorem x_chain : tChain r r' ta tb tc σ H Q = ta σ H fun x H1 => tb σ H1 fun y H2 => r x y H2 fun z H3 => ∃ k, z = .bl k ∧ (if k = true then tc σ H3 fun w' H4 => r' y w' H4 Q else Q (.bl false) H3) := rfl
theorem x_cons : tCons ta tr σ H QA = ta σ H fun x H1 => tr σ H1 fun xs H2 => QA (x :: xs) H2 := rfl
theorem x_nil : tNil σ H QA = QA [] H := rfl
theorem x_tup : tTup tA σ H Q = tA σ H fun xs H1 => xs.length ≤ sizeLine ∧ ∀ p, H1 p = none → Q (.ref p) (upd H1 p (.tup xs)) := rfl
theorem x_lst : tLst tA σ H Q = tA σ H fun xs H1 => xs.length ≤ sizeLine ∧ ∀ p, H1 p = none → Q (.ref p) (upd H1 p (.lst xs)) := rfl
theorem x_cb {q : List V → Hp → VK → Prop} : tCB q tA σ H Q = tA σ H fun vs H1 => q vs H1 Q := rfl
theorem x_call : tCall sp dvs E tA σ H Q = tA σ H fun vs H1 => sp (vs ++ dvs) H1 Q E := rfl
theorem x_xcall : txCall sp dvs tA σ H Q E = tA σ H fun vs H1 => sp (vs ++ dvs) H1 Q E := rfl
theorem x_and : tAnd tt tu σ H QT = tt σ H fun c H1 => if c = true then tu σ H1 QT else QT false H1 := rfl
theorem x_or : tOr tt tu σ H QT = tt σ H fun c H1 => if c = true then QT true H1 else tu σ H1 QT := rfl
theorem x_not : tNot tt σ H QT = tt σ H fun c H1 => QT (!c) H1 := rfl
theorem x_andV : tAndV ta tb σ H Q = ta σ H fun x H1 => ∃ c, x = .bl c ∧ if c = true then tb σ H1 Q else Q (.bl false) H1 := rfl
theorem x_orV : tOrV ta tb σ H Q = ta σ H fun x H1 => ∃ c, x = .bl c ∧ if c = true then Q (.bl true) H1 else tb σ H1 Q := rfl
theorem x_notV : tNotV ta σ H Q = ta σ H fun x H1 => ∃ c, x = .bl c ∧ Q (.bl (!c)) H1 := rfl
theorem x_ifE : tIf tt ta tb σ H Q = tt σ H fun c H1 => if c = true then ta σ H1 Q else tb σ H1 Q := rfl
theorem x_start {N : List Str} : start N vs = vs.map some ++ List.replicate (N.length - vs.length) none := rfl
theorem x_un0 {D : Ends} : (D.un i).nx σ H = D.nx (σ.set i none) H := rfl
theorem x_un1 {D : Ends} : (D.un i).rt = D.rt := rfl
def ForB (J : It) (g : TG) (tb : TS) (D : Ends) (σ : St) (H : Hp) : Prop := ∃ W : Nat → Nat → St → Hp → Prop, (∃ m, W 0 m σ H) ∧ ∀ i m σ H, W i m σ H →
  (J.stop i H ∧ D.nx σ H) ∨ (J.go i H ∧ ∃ N : St → Hp → Prop, (∀ σ' H', N σ' H' → ∃ m', m' < m ∧ W (i + 1) m' σ' H') ∧ ∀ x H', J.yld i H x H' → g x σ H' fun σ2 H2 => tb { D with nx := N, ct := N, bk := D.nx } σ2 H2)
theorem x_for {wi : TI} : tFor wi g t D σ H = wi σ H fun J H1 => ForB J g t D σ H1 := rfl
theorem x_rng1 {R : It → Hp → Prop} : iRng1 tA σ H R = tA σ H fun vs H1 => ∃ j : Int, vs = [.int j] ∧ -(2 ^ 62) ≤ j ∧ j < 2 ^ 62 ∧ R (Itr 0 j.toNat) H1 := rfl
theorem x_rng2 {R : It → Hp → Prop} : iRng2 tA σ H R = tA σ H fun vs H1 => ∃ i j : Int, vs = [.int i, .int j] ∧ (-(2 ^ 62) ≤ i ∧ i < 2 ^ 62 ∧ -(2 ^ 62) ≤ j ∧ j < 2 ^ 62) ∧ R (Itr i (j - i).toNat) H1 := rfl
theorem x_ilist {R : It → Hp → Prop} : iList K te σ H R = te σ H fun x H1 => ∃ a, x = .ref a ∧ (∃ xs, SqL K H1 a xs) ∧ R (Itl K a) H1 := rfl
theorem x_itup {R : It → Hp → Prop} : iTup K te σ H R = te σ H fun x H1 => ∃ a, x = .ref a ∧ (∃ xs, SqT K H1 a xs) ∧ R (Itt K a) H1 := rfl
theorem forB_range {lo : Int} {n : Nat} (Pv : Nat → St → Hp → Prop) (h0 : Pv 0 σ H) (hs : ∀ i σ H, i < n → Pv i σ H → g (.int (lo + i)) σ H fun σ2 H2 => t { D with nx := Pv (i + 1), ct := Pv (i + 1), bk := D.nx } σ2 H2) (hd : ∀ σ H, Pv n σ H → D.nx σ H) : ForB (Itr lo n) g t D σ H := for_range Pv h0 hs hd
theorem forB_list {a : Addr} {xs : List V} (Pv : Nat → St → Hp → Prop) (h0 : Pv 0 σ H) (hl : ∀ i σ H, i ≤ xs.length → Pv i σ H → SqL K H a xs) (hs : ∀ i x σ H, xs[i]? = some x → Pv i σ H → g x σ H fun σ2 H2 => t { D with nx := Pv (i + 1), ct := Pv (i + 1), bk := D.nx } σ2 H2) (hd : ∀ σ H, Pv xs.length σ H → D.nx σ H) : ForB (Itl K a) g t D σ H := for_list Pv h0 hl hs hd
theorem forB_tup {a : Addr} {xs : List V} (Pv : Nat → St → Hp → Prop) (h0 : Pv 0 σ H) (hl : ∀ i σ H, i ≤ xs.length → Pv i σ H → SqT K H a xs) (hs : ∀ i x σ H, xs[i]? = some x → Pv i σ H → g x σ H fun σ2 H2 => t { D with nx := Pv (i + 1), ct := Pv (i + 1), bk := D.nx } σ2 H2) (hd : ∀ σ H, Pv xs.length σ H → D.nx σ H) : ForB (Itt K a) g t D σ H := for_tup Pv h0 hl hs hd
theorem x_dnew : tDNewK σ H Q = ∀ d, H d = none → Q (.ref d) (upd H d (.dK [])) := rfl
theorem later_iff : Later u D σ H = u D σ H := rfl
/-- an item of a written list -/
theorem ixd_m {p : Addr} {xs : List V} {k : Int} (h : H p = some (.lst xs)) (h0 : 0 ≤ k) (h1 : k < xs.length) (q : ∀ v ∈ xs, Q v H) : rIxD K (.ref p) (.int k) H Q := by
  obtain ⟨m, rfl⟩ : ∃ m : Nat, k = m := ⟨k.toNat, by omega⟩
  have hm : m < xs.length := by omega
  exact ixd_l h (atI_nat (List.getElem?_eq_getElem hm)) (q _ (List.getElem_mem hm))
end
end L2

set_option Elab.async false
set_option linter.all false
set_option maxRecDepth 100000
set_option maxHeartbeats 4000000
namespace L2
open PySem PySem.Spec PyProof.Rows

@[irreducible] def QS (X : Cx) (s : Stmt) (t : TS) : Prop := PS X s t
theorem QS.of {X : Cx} {s : Stmt} {t : TS} (h : PS X s t) : QS X s t := by delta QS; exact h
theorem QS.to {X : Cx} {s : Stmt} {t : TS} (h : QS X s t) : PS X s t := by delta QS at h; exact h

@[irreducible] def QSs (X : Cx) (s : List Stmt) (t : TS) : Prop := PSs X s t
theorem QSs.of {X : Cx} {s : List Stmt} {t : TS} (h : PSs X s t) : QSs X s t := by delta QSs; exact h
theorem QSs.to {X : Cx} {s : List Stmt} {t : TS} (h : QSs X s t) : PSs X s t := by delta QSs at h; exact h

@[irreducible] def QE (X : Cx) (s : Expr) (t : TE) : Prop := PE X s t
theorem QE.of {X : Cx} {s : Expr} {t : TE} (h : PE X s t) : QE X s t := by delta QE; exact h
theorem QE.to {X : Cx} {s : Expr} {t : TE} (h : QE X s t) : PE X s t := by delta QE at h; exact h

@[irreducible] def QT (X : Cx) (s : Expr) (t : TT) : Prop := PT X s t
theorem QT.of {X : Cx} {s : Expr} {t : TT} (h : PT X s t) : QT X s t := by delta QT; exact h
theorem QT.to {X : Cx} {s : Expr} {t : TT} (h : QT X s t) : PT X s t := by delta QT at h; exact h

@[irreducible] def QW (X : Cx) (s : Expr) (t : TT) : Prop := PW X s t
theorem QW.of {X : Cx} {s : Expr} {t : TT} (h : PW X s t) : QW X s t := by delta QW; exact h
theorem QW.to {X : Cx} {s : Expr} {t : TT} (h : QW X s t) : PW X s t := by delta QW at h; exact h

@[irreducible] def QA (X : Cx) (s : List Expr) (t : TA) : Prop := PA X s t
theorem QA.of {X : Cx} {s : List Expr} {t : TA} (h : PA X s t) : QA X s t := by delta QA; exact h
theorem QA.to {X : Cx} {s : List Expr} {t : TA} (h : QA X s t) : PA X s t := by delta QA at h; exact h

@[irreducible] def QG (X : Cx) (s : Expr) (t : TG) : Prop := PG X s t
theorem QG.of {X : Cx} {s : Expr} {t : TG} (h : PG X s t) : QG X s t := by delta QG; exact h
theorem QG.to {X : Cx} {s : Expr} {t : TG} (h : QG X s t) : PG X s t := by delta QG at h; exact h

@[irreducible] def QGs (X : Cx) (s : List Expr) (t : TGs) : Prop := PGs X s t
theorem QGs.of {X : Cx} {s : List Expr} {t : TGs} (h : PGs X s t) : QGs X s t := by delta QGs; exact h
theorem QGs.to {X : Cx} {s : List Expr} {t : TGs} (h : QGs X s t) : PGs X s t := by delta QGs at h; exact h

@[irreducible] def QI (X : Cx) (tg iter : Expr) (wi : TI) : Prop := PI X tg iter wi
theorem QI.of {X : Cx} {tg iter : Expr} {wi : TI} (h : PI X tg iter wi) : QI X tg iter wi := by delta QI; exact h
theorem QI.to {X : Cx} {tg iter : Expr} {wi : TI} (h : QI X tg iter wi) : PI X tg iter wi := by delta QI at h; exact h

@[irreducible] def QC (X : Cx) (op : CmpOp) (a b : Expr) (t : TE) : Prop := PC X op a b t
theorem QC.of {X : Cx} {op : CmpOp} {a b : Expr} {t : TE} (h : PC X op a b t) : QC X op a b t := by delta QC; exact h
theorem QC.to {X : Cx} {op : CmpOp} {a b : Expr} {t : TE} (h : QC X op a b t) : PC X op a b t := by delta QC at h; exact h

@[irreducible] def QX (X : Cx) (s : Stmt) (t : TX) : Prop := PX X s t
theorem QX.of {X : Cx} {s : Stmt} {t : TX} (h : PX X s t) : QX X s t := by delta QX; exact h
theorem QX.to {X : Cx} {s : Stmt} {t : TX} (h : QX X s t) : PX X s t := by delta QX at h; exact h

@[irreducible] def QXs (X : Cx) (s : List Stmt) (t : TX) : Prop := PXs X s t
theorem QXs.of {X : Cx} {s : List Stmt} {t : TX} (h : PXs X s t) : QXs X s t := by delta QXs; exact h
theorem QXs.to {X : Cx} {s : List Stmt} {t : TX} (h : QXs X s t) : PXs X s t := by delta QXs at h; exact h

@[irreducible] def QXE (X : Cx) (s : Expr) (t : St → Hp → VK → XK → Prop) : Prop := PXE X s t
theorem QXE.of {X : Cx} {s : Expr} {t : St → Hp → VK → XK → Prop} (h : PXE X s t) : QXE X s t := by delta QXE; exact h
theorem QXE.to {X : Cx} {s : Expr} {t : St → Hp → VK → XK → Prop} (h : QXE X s t) : PXE X s t := by delta QXE at h; exact h

set_option autoImplicit true
set_option relaxedAutoImplicit true

theorem q_pss_nil : QSs X [] tNext := QSs.of (pss_nil )
theorem q_pss_cons {st : Stmt} {rest : List Stmt} (h1 : QS X st t) (h2 : QSs X rest u) : QSs X (st :: rest) (tSeq t u) := QSs.of (pss_cons h1.to h2.to)
theorem q_pss_one {st : Stmt} (h1 : QS X st t) : QSs X [st] t := QSs.of (pss_one h1.to)
theorem q_pss_never {sts : List Stmt} : QSs X sts tNever := QSs.of (pss_never )
theorem q_ps_never {st : Stmt} : QS X st tNever := QS.of (ps_never )
theorem q_ps_pass {pos : Pos} : QS X (.Pass pos) tNext := QS.of (ps_pass )
theorem q_ps_break {pos : Pos} : QS X (.Break pos) tBreak := QS.of (ps_break )
theorem q_ps_continue {pos : Pos} : QS X (.Continue pos) tCont := QS.of (ps_continue )
theorem q_ps_expr {e : Expr} {pos : Pos} (he : QE X e te) (hs : swapsWith e none pos.line X.env = pure false := by rfl) : QS X (.Expr e pos) (tDrop te) := QS.of (ps_expr he.to hs)
theorem q_ps_ret {e : Expr} {pos : Pos} (he : QE X e te) : QS X (.Return (some e) pos) (tRet te) := QS.of (ps_ret he.to)
theorem q_ps_retN {pos : Pos} : QS X (.Return none pos) tRetN := QS.of (ps_retN )
theorem q_ps_if {pos : Pos} {c : Expr} {a b : List Stmt} {tc : TT} (hc : QT X c tc) (ha : QSs X a t) (hb : QSs X b u) : QS X (.If c a b pos) (tIfS tc t u) := QS.of (ps_if hc.to ha.to hb.to)
theorem q_ps_asg {pos : Pos} {tg e : Expr} {te : TE} {g : TG} (he : QE X e te) (hg : QG X tg g) (hs : swapsWithSole [tg] e pos.line X.env = pure false := by rfl) (hw : swappedStores [tg] e X.env = pure none := by rfl)
    (h1 : (assignEach [tg] X.env).map (·.2) = [assign tg X.env] := by rfl) : QS X (.Assign [tg] e pos) (tAsg te g) := QS.of (ps_asg he.to hg.to hs hw h1)
theorem q_ps_set {pos : Pos} {i : Nat} {x : Str} {e : Expr} {te : TE} {pos' : Pos} (hN : X.N.Nodup) (hi : X.N[i]? = some x) (hx : Loc X.env.scope x) (he : QE X e te) (hs : swapsWith e (some (.Name x pos')) pos.line X.env = pure false := by rfl) (hf : X.fn x = true ∨ X.env.scope.names.lookup x = some .local := by first | exact .inl rfl | exact .inr rfl | assumption) : QS X (.Assign [.Name x pos'] e pos) (tAsg te (gName i)) := QS.of (ps_set hN hi hx he.to hs hf)
theorem q_ps_par {pos : Pos} {i j : Nat} {x y : Str} {a b : Expr} {ta : TA} {px py pt : Pos} {kt k2 pt2} (hc : X.calm = true) (hN : X.N.Nodup) (hi : X.N[i]? = some x) (hj : X.N[j]? = some y) (hij : i ≠ j)
    (hx : X.env.scope.names.lookup x = some .local) (hy : X.env.scope.names.lookup y = some .local) (ha : QA X [a, b] ta)
    (hw : swappedStores [.Tuple [.Name x px, .Name y py] kt pt] (.Tuple [a, b] k2 pt2) X.env = pure (some [x, y]))
    (hs : swapsWithSole [.Tuple [.Name x px, .Name y py] kt pt] (.Tuple [a, b] k2 pt2) pos.line X.env = pure false := by rfl) : QS X (.Assign [.Tuple [.Name x px, .Name y py] kt pt] (.Tuple [a, b] k2 pt2) pos) (tPar i j ta) := QS.of (ps_par hc hN hi hj hij hx hy ha.to hw hs)
theorem q_ps_while {pos : Pos} {c : Expr} {body : List Stmt} {tc : TT} {tb : TS} (hp : PassesOwn (model X.prog X.w) X.A X.env X.xe) (hc : QT X c tc) (hb : QSs X body tb) : QS X (.While c body [] pos) (tWhile tc tb) := QS.of (ps_while hp hc.to hb.to)
theorem q_ps_for {iter : Expr} {body : List Stmt} {wi : TI} {g : TG} {tb : TS} {pos : Pos} (hp : PassesOwn (model X.prog X.w) X.A X.env X.xe) (hc : X.calm = true) (hi : QI X tg iter wi) (hg : QG X tg g) (hb : QSs X body tb)
    (hs : ∀ x, foldedSetIterable iter X.env x = pure x := by intro _; rfl) : QS X (.For tg iter body [] pos) (tFor wi g tb) := QS.of (ps_for hp hc hi.to hg.to hb.to hs)
theorem q_ps_raise {X : Cx} {E : XK} {x : Str} {C : Addr} {e : Expr} {es : List Expr} {t : TA} {np cpos pos : Pos} (xc : Xc X E) (hc : X.calm = true) (hg : Gl X x) (hm : X.mg x = some (.ref C)) (hex : PySem.W.excIn X.K C veMro "ValueError.__new__" = true)
    (ha : QA X (e :: es) t) (hd : (x == ("__debug__" : Str)) = false := by decide) (he : starEach (e :: es) X.env = (false, eval e X.env) :: starEach es X.env := by rfl) (hpl : (backTo cpos (starEach es X.env)).any (·.1) = false := by rfl) : QS X (.Raise (some (.Call (.Name x np) (e :: es) [] cpos)) none pos) (tRaise C E t) := QS.of (ps_raise xc hc hg hm hex ha.to hd he hpl)
theorem q_ps_try {x : Str} {pos : Pos} {T : Addr} {n : Str} {i : Nat} {body suite : List Stmt} {b0 : Stmt} {tb : TX} {ts : TS} {np hp : Pos} (hst : X.stack = X.env :: X.outer) (hfr : X.env.frame = some X.env.locals) (hex : X.ex = []) (hN : X.N.Nodup) (hi : X.N[i]? = some n) (hn : X.env.scope.names.lookup n = some .local)
    (hg : Gl X x) (hm : X.mg x = some (.ref T)) (hb : QXs X body tb) (hs : ∀ a, QSs (X.marked a) (b0 :: suite) ts) (hd : (x == ("__debug__" : Str)) = false := by decide) (hf : X.fn n = true ∨ X.env.scope.names.lookup n = some .local := by first | exact .inl rfl | exact .inr rfl | assumption) : QS X (.Try body [.ExceptHandler (some (.Name x np)) (some n) (b0 :: suite) hp] [] [] pos) (tTry X.K T i tb ts) := QS.of (ps_try hst hfr hex hN hi hn hg hm hb.to (fun z => (hs z).to) hd hf)
theorem q_pe_var {i : Nat} {x : Str} {pos : Pos} (hN : X.N[i]? = some x) (hv : Vis X.env.scope x) (hd : (x == ("__debug__" : Str)) = false := by decide) (hcd : (x == ("__classdict__" : Str)) = false := by decide) : QE X (.Name x pos) (tVar i) := QE.of (pe_var hN hv hd hcd)
theorem q_pe_int {i j pos} : QE X (.Constant (.int i) j pos) (tC (.int i)) := QE.of (pe_int )
theorem q_pe_bl {b j pos} : QE X (.Constant (.bool b) j pos) (tC (.bl b)) := QE.of (pe_bl )
theorem q_pe_non {j pos} : QE X (.Constant .none j pos) (tC .non) := QE.of (pe_non )
theorem q_pe_str {x j pos} : QE X (.Constant (.str x) j pos) (tC (.str x)) := QE.of (pe_str )
theorem q_pe_glob {x : Str} {v : V} {u : Value} {pos : Pos} (hg : Gl X x) (hm : X.mg x = some u) (r : RelV v u) (hd : (x == ("__debug__" : Str)) = false := by decide) : QE X (.Name x pos) (tC v) := QE.of (pe_glob hg hm r hd)
theorem q_pe_bltn {x : Str} {v : V} {u : Value} {pos : Pos} (hg : Gl X x) (hm : X.mg x = none) (hv : bootBuiltins x = some u) (r : RelV v u) (hn : x ≠ "__name__" := by decide) (hd : (x == ("__debug__" : Str)) = false := by decide) : QE X (.Name x pos) (tC v) := QE.of (pe_bltn hg hm hv r hn hd)
theorem q_pe_op {pos : Pos} {a : Expr} {b : Expr} {op : Operator} {r : R2} (ho : OpR X (binaryOp op) r) (ha : QE X a ta) (hb : QE X b tb) : QE X (.BinOp a op b pos) (tOp r ta tb) := QE.of (pe_op ho ha.to hb.to)
theorem q_pe_un {pos : Pos} {a : Expr} {op : UnaryOp} {r : V → Hp → VK → Prop} (ho : UnR X (unaryOp op) r) (ha : QE X a ta) : QE X (.UnaryOp op a pos) (tUn r ta) := QE.of (pe_un ho ha.to)
theorem q_pe_cmp {pos : Pos} {a : Expr} {b : Expr} {op : CmpOp} {t : TE} (h : QC X op a b t) (h1 : behindInMarks op b = false := by first | exact nobehind _ (by decide) (by decide) | rfl) : QE X (.Compare a [op] [b] pos) t := QE.of (pe_cmp h.to h1)
theorem q_pt_cmp {pos : Pos} {a : Expr} {b : Expr} {op : CmpOp} {t : TE} (h : QC X op a b t) (h1 : behindInMarks op b = false := by first | exact nobehind _ (by decide) (by decide) | rfl) : QT X (.Compare a [op] [b] pos) (tB t) := QT.of (pt_cmp h.to h1)
theorem q_pt_val {e : Expr} {t : TE} (h : QE X e t) (he : ∀ whole, isTrue e X.env whole = (do let v ← whole; standAt e.pos; holding [v] (truthy v)) := by intro _; rfl) : QT X e (tB t) := QT.of (pt_val h.to he)
theorem q_pw_and1 {pos : Pos} {a : Expr} (ha : QT X a tA) : QW X (.BoolOp .And [a] pos) tA := QW.of (pw_and1 ha.to)
theorem q_pw_or1 {pos : Pos} {a : Expr} (ha : QT X a tA) : QW X (.BoolOp .Or [a] pos) tA := QW.of (pw_or1 ha.to)
theorem q_pw_and {rest : List Expr} {pos : Pos} {a : Expr} {b : Expr} (ha : QT X a tA) (hb : QW X (.BoolOp .And (b :: rest) pos) tB') : QW X (.BoolOp .And (a :: b :: rest) pos) (tAnd tA tB') := QW.of (pw_and ha.to hb.to)
theorem q_pw_or {rest : List Expr} {pos : Pos} {a : Expr} {b : Expr} (ha : QT X a tA) (hb : QW X (.BoolOp .Or (b :: rest) pos) tB') : QW X (.BoolOp .Or (a :: b :: rest) pos) (tOr tA tB') := QW.of (pw_or ha.to hb.to)
theorem q_pt_not {pos : Pos} {a : Expr} (ha : QT X a tA) : QT X (.UnaryOp .Not a pos) (tNot tA) := QT.of (pt_not ha.to)
theorem q_pe_one {pos : Pos} {a : Expr} {op} {t : TE} (h : QE X a t) : QE X (.BoolOp op [a] pos) t := QE.of (pe_one h.to)
theorem q_pe_and {rest : List Expr} {pos : Pos} {a : Expr} {b : Expr} (ha : QE X a ta) (hb : QE X (.BoolOp .And (b :: rest) pos) tb) : QE X (.BoolOp .And (a :: b :: rest) pos) (tAndV ta tb) := QE.of (pe_and ha.to hb.to)
theorem q_pe_or {rest : List Expr} {pos : Pos} {a : Expr} {b : Expr} (ha : QE X a ta) (hb : QE X (.BoolOp .Or (b :: rest) pos) tb) : QE X (.BoolOp .Or (a :: b :: rest) pos) (tOrV ta tb) := QE.of (pe_or ha.to hb.to)
theorem q_pe_not {pos : Pos} {a : Expr} (ha : QE X a ta) : QE X (.UnaryOp .Not a pos) (tNotV ta) := QE.of (pe_not ha.to)
theorem q_pe_ifExp {pos : Pos} {a : Expr} {b : Expr} {c : Expr} (hc : QT X c tA) (ha : QE X a ta) (hb : QE X b tb) : QE X (.IfExp c a b pos) (tIf tA ta tb) := QE.of (pe_ifExp hc.to ha.to hb.to)
theorem q_pe_cmpR {pos : Pos} {a : Expr} {b : Expr} {op : CmpOp} {r : R2} (ho : OpR X (compareOp op) r) (ha : QE X a ta) (hb : QE X b tb) (hm : behindInMarks op b = false) : QE X (.Compare a [op] [b] pos) (tOp r ta tb) := QE.of (pe_cmpR ho ha.to hb.to hm)
theorem q_pt_cmpR {pos : Pos} {a : Expr} {b : Expr} {op : CmpOp} {r : R2} (ho : OpR X (compareOp op) r) (ha : QE X a ta) (hb : QE X b tb) (hm : behindInMarks op b = false) : QT X (.Compare a [op] [b] pos) (tTest (tOp r ta tb)) := QT.of (pt_cmpR ho ha.to hb.to hm)
theorem q_pe_chain {pos : Pos} {a : Expr} {b : Expr} {c : Expr} {op op' : CmpOp} {r r' : R2} (ho : OpR X (compareOp op) r) (ho' : OpR X (compareOp op') r') (ha : QE X a ta) (hb : QE X b tb) (hc : QE X c tc)
    (hm : lastMarks [op, op'] [b, c] = false := by with_unfolding_all rfl) : QE X (.Compare a [op, op'] [b, c] pos) (tChain r r' ta tb tc) := QE.of (pe_chain ho ho' ha.to hb.to hc.to hm)
theorem q_pt_chain {pos : Pos} {a : Expr} {b : Expr} {c : Expr} {op op' : CmpOp} {r r' : R2} (ho : OpR X (compareOp op) r) (ho' : OpR X (compareOp op') r') (ha : QE X a ta) (hb : QE X b tb) (hc : QE X c tc)
    (hm : lastMarks [op, op'] [b, c] = false := by with_unfolding_all rfl) : QT X (.Compare a [op, op'] [b, c] pos) (tTest (tChain r r' ta tb tc)) := QT.of (pt_chain ho ho' ha.to hb.to hc.to hm)
theorem q_pt_truth {a : Expr} {k : Nat} (ha : QE X a ta) (he : ∀ whole, isTrue a X.env whole = (do let v ← whole; standAt a.pos; holding [v] (truthy v))) : QT X a (fun σ H Q => ta σ H fun x H' => ∃ k, TruV X.K x H' k ∧ Q k H') := QT.of (pt_truth ha.to he)
theorem q_pc_lt {a : Expr} {b : Expr} (ha : QE X a ta) (hb : QE X b tb) : QC X .Lt a b (tLt ta tb) := QC.of (pc_lt ha.to hb.to)
theorem q_pc_le {a : Expr} {b : Expr} (ha : QE X a ta) (hb : QE X b tb) : QC X .LtE a b (tLe ta tb) := QC.of (pc_le ha.to hb.to)
theorem q_pc_gt {a : Expr} {b : Expr} (ha : QE X a ta) (hb : QE X b tb) : QC X .Gt a b (tGt ta tb) := QC.of (pc_gt ha.to hb.to)
theorem q_pc_ge {a : Expr} {b : Expr} (ha : QE X a ta) (hb : QE X b tb) : QC X .GtE a b (tGe ta tb) := QC.of (pc_ge ha.to hb.to)
theorem q_pc_eqI {a : Expr} {b : Expr} (ha : QE X a ta) (hb : QE X b tb) : QC X .Eq a b (tEqI ta tb) := QC.of (pc_eqI ha.to hb.to)
theorem q_pc_neI {a : Expr} {b : Expr} (ha : QE X a ta) (hb : QE X b tb) : QC X .NotEq a b (tNeI ta tb) := QC.of (pc_neI ha.to hb.to)
theorem q_pc_isN {a : Expr} {j pos'} (ha : QE X a ta) : QC X .Is a (.Constant .none j pos') (tIsN ta) := QC.of (pc_isN ha.to)
theorem q_pc_notN {a : Expr} {j pos'} (ha : QE X a ta) : QC X .IsNot a (.Constant .none j pos') (tNotN ta) := QC.of (pc_notN ha.to)
theorem q_pa_nil : QA X [] tNil := QA.of (pa_nil )
theorem q_pa_cons {e : Expr} (ha : QE X e te) (hr : QA X es t) (hs : starEach (e :: es) X.env = (false, eval e X.env) :: starEach es X.env := by rfl) : QA X (e :: es) (tCons te t) := QA.of (pa_cons ha.to hr.to hs)
theorem q_pe_tup {pos : Pos} {x1} (h : QA X es t) : QE X (.Tuple es x1 pos) (tTup t) := QE.of (pe_tup h.to)
theorem q_pe_lst {pos : Pos} (h : QA X es t) : QE X (.List es pos) (tLst t) := QE.of (pe_lst h.to)
theorem q_pe_slice {e : Expr} {pos : Pos} {lo : Option Expr} {hi : Option Expr} {r : V → Option Int → Option Int → Hp → VK → Prop} (hr : SlR X r) (he : QE X e te) (hl : PO X lo tl) (hu : PO X hi th) : QE X (.Subscript e (.Slice lo hi none p2) pos) (tSl r te tl th) := QE.of (pe_slice hr he.to hl hu)
theorem q_pe_ix {pos : Pos} {a : Expr} {b : Expr} {r : R2} (hr : IxR X r) (ha : QE X a ta) (hb : QE X b tb) (hs : PlainIx b) : QE X (.Subscript a b pos) (tOp r ta tb) := QE.of (pe_ix hr ha.to hb.to hs)
theorem q_pe_callB {e : Expr} {x : Str} {id : String} {pos : Pos} (hc : CallR X (.builtin id) r) (hg : Gl X x) (hm : X.mg x = none) (hv : bootBuiltins x = some (.builtin id)) (ha : QA X (e :: es) t) (hn : x ≠ "__name__" := by decide) (hdb : (x == ("__debug__" : Str)) = false := by decide)
    (he : starEach (e :: es) X.env = (false, eval e X.env) :: starEach es X.env := by rfl) (hpl : (backTo pos (starEach es X.env)).any (·.1) = false := by rfl) : QE X (.Call (.Name x p) (e :: es) [] pos) (tCB r t) := QE.of (pe_callB hc hg hm hv ha.to hn hdb he hpl)
theorem q_pe_callTy {e : Expr} {x : Str} {T : String} {pos : Pos} (hc : CallR X (.type T) r) (hg : Gl X x) (hm : X.mg x = none) (hv : bootBuiltins x = some (.type T)) (ha : QA X (e :: es) t) (hn : x ≠ "__name__" := by decide) (hdb : (x == ("__debug__" : Str)) = false := by decide)
    (he : starEach (e :: es) X.env = (false, eval e X.env) :: starEach es X.env := by rfl) (hpl : (backTo pos (starEach es X.env)).any (·.1) = false := by rfl) : QE X (.Call (.Name x p) (e :: es) [] pos) (tCB r t) := QE.of (pe_callTy hc hg hm hv ha.to hn hdb he hpl)
theorem q_pe_callTy0 {x : Str} {T : String} {pos : Pos} (hc : CallR X (.type T) r) (hg : Gl X x) (hm : X.mg x = none) (hv : bootBuiltins x = some (.type T)) (hn : x ≠ "__name__" := by decide) (hdb : (x == ("__debug__" : Str)) = false := by decide) : QE X (.Call (.Name x p) [] [] pos) (tCB r tNil) := QE.of (pe_callTy0 hc hg hm hv hn hdb)
theorem q_pe_call {e : Expr} {x : Str} {f : Addr} {pos : Pos} {k : Nat} (F : FnOk X.prog X.w X.K X.mg X.base CX k f fd ps sp) (hr : Room k X.A) (hg : Gl X x) (hm : X.mg x = some (.ref f)) (hk : PySem.W.keepIn X.K (.ref f) = true) (hb : Binds X.K fd ps ds) (hd : Vals dvs ds) (hx : Passes CX X E)
    (ha : QA X (e :: es) t) (hdb : (x == ("__debug__" : Str)) = false := by decide) (he : starEach (e :: es) X.env = (false, eval e X.env) :: starEach es X.env := by rfl) (hpl : (backTo pos (starEach es X.env)).any (·.1) = false := by rfl) : QE X (.Call (.Name x p) (e :: es) [] pos) (tCall sp dvs E t) := QE.of (pe_call F hr hg hm hk hb hd hx ha.to hdb he hpl)
theorem q_pe_call0 {x : Str} {f : Addr} {pos : Pos} {k : Nat} (F : FnOk X.prog X.w X.K X.mg X.base CX k f fd ps sp) (hr : Room k X.A) (hg : Gl X x) (hm : X.mg x = some (.ref f)) (hk : PySem.W.keepIn X.K (.ref f) = true) (hb : Binds X.K fd ps ds) (hd : Vals dvs ds) (hx : Passes CX X E)
    (hdb : (x == ("__debug__" : Str)) = false := by decide) : QE X (.Call (.Name x p) [] [] pos) (tCall sp dvs E tNil) := QE.of (pe_call0 F hr hg hm hk hb hd hx hdb)
theorem q_pe_meth {e : Expr} {o : Expr} {m : Str} {f : Addr} {pos : Pos} {k : Nat} {C : Addr} {pl : Sem Bool} (he : QE X o ta) (c : Cls X.K C) (hm : Meth X.K C m f) (F : FnOk X.prog X.w X.K X.mg X.base CX k f fd ps sp) (hr : Room k X.A) (hb : Binds X.K fd ps ds) (hd : Vals dvs ds) (hx : Passes CX X E) (ha : QA X (e :: es) t)
    (hst : starEach (e :: es) X.env = (false, eval e X.env) :: starEach es X.env := by rfl) (hpl : (backTo pos (starEach es X.env)).any (·.1) = false := by rfl)
    (ht : eval (.Call (.Attribute o m apos) (e :: es) [] pos) X.env = (do
      let ov ← eval o X.env
      standAt apos.atName
      let (f, first) ← holding [ov] (getMethod ov m pl)
      callWith pos f first (backTo pos (starEach (e :: es) X.env)) (backToKw pos (keywordEach [] X.env))) := by rfl) : QE X (.Call (.Attribute o m apos) (e :: es) [] pos) (tMeth C m sp dvs E ta t) := QE.of (pe_meth he.to c hm F hr hb hd hx ha.to hst hpl ht)
theorem q_pe_meth0 {o : Expr} {m : Str} {f : Addr} {pos : Pos} {k : Nat} {C : Addr} {pl : Sem Bool} (he : QE X o ta) (c : Cls X.K C) (hm : Meth X.K C m f) (F : FnOk X.prog X.w X.K X.mg X.base CX k f fd ps sp) (hr : Room k X.A) (hb : Binds X.K fd ps ds) (hd : Vals dvs ds) (hx : Passes CX X E)
    (ht : eval (.Call (.Attribute o m apos) [] [] pos) X.env = (do
      let ov ← eval o X.env
      standAt apos.atName
      let (f, first) ← holding [ov] (getMethod ov m pl)
      callWith pos f first (backTo pos (starEach [] X.env)) (backToKw pos (keywordEach [] X.env))) := by rfl) : QE X (.Call (.Attribute o m apos) [] [] pos) (tMeth C m sp dvs E ta tNil) := QE.of (pe_meth0 he.to c hm F hr hb hd hx ht)
theorem q_pe_make {e : Expr} {x : Str} {f : Addr} {pos : Pos} {k : Nat} {C : Addr} (M : Mk X.K C f) (F : FnOk X.prog X.w X.K X.mg X.base CX k f fd ps sp) (hr : Room (k + 1) X.A) (hg : Gl X x) (hm : X.mg x = some (.ref C)) (hb : Binds X.K fd ps ds) (hd : Vals dvs ds) (hx : Passes CX X E)
    (ha : QA X (e :: es) t) (hdb : (x == ("__debug__" : Str)) = false := by decide) (he : starEach (e :: es) X.env = (false, eval e X.env) :: starEach es X.env := by rfl) (hpl : (backTo pos (starEach es X.env)).any (·.1) = false := by rfl) : QE X (.Call (.Name x p) (e :: es) [] pos) (tMake C sp dvs E t) := QE.of (pe_make M F hr hg hm hb hd hx ha.to hdb he hpl)
theorem q_pe_make0 {x : Str} {f : Addr} {pos : Pos} {k : Nat} {C : Addr} (M : Mk X.K C f) (F : FnOk X.prog X.w X.K X.mg X.base CX k f fd ps sp) (hr : Room (k + 1) X.A) (hg : Gl X x) (hm : X.mg x = some (.ref C)) (hb : Binds X.K fd ps ds) (hd : Vals dvs ds) (hx : Passes CX X E)
    (hdb : (x == ("__debug__" : Str)) = false := by decide) : QE X (.Call (.Name x p) [] [] pos) (tMake C sp dvs E tNil) := QE.of (pe_make0 M F hr hg hm hb hd hx hdb)
theorem q_pe_fld {e : Expr} {f : Str} {pos : Pos} (he : QE X e ta) (hb : attributeBase e f X.env (eval e X.env) = eval e X.env) : QE X (.Attribute e f pos) (tFld X.K ta f) := QE.of (pe_fld he.to hb)
theorem q_ps_fld {o : Expr} {f : Str} {pos : Pos} (ha : QE X o ta) (hv : QE X value tv) (hs : swapsWith value (some (.Attribute o f pos')) pos.line X.env = pure false) : QS X (.Assign [.Attribute o f pos'] value pos) (sFld X.K ta tv f) := QS.of (ps_fld ha.to hv.to hs)
theorem q_pe_bm {e : Expr} {o : Expr} {id : String} {T : String} {name : Str} (pa : PlainAttrs T) (slot : Slot T name id) (hty : typeOf (.builtin id) = pure (.type "method_descriptor")) (hm : MtR X id r) (ho : QE X o to) (ha : QA X (e :: es) t)
    (hbase : attributeBase o name X.env (eval o X.env) = eval o X.env := by rfl)
    (hfew : ((backTo cpos (starEach (e :: es) X.env)).all (fun x => !x.1) && (backToKw cpos (keywordEach [] X.env)).all (fun x => x.1.isSome)
      && decide ((e :: es).length + ([] : List Keyword).length + (if ([] : List Keyword).isEmpty then 0 else 1) < 30)) = true := by rfl)
    (hline : (apos.endLine == cpos.line) = true := by rfl) (hs : starEach (e :: es) X.env = (false, eval e X.env) :: starEach es X.env := by rfl) (hplain : (backTo cpos (starEach es X.env)).any (·.1) = false := by rfl) : QE X (.Call (.Attribute o name apos) (e :: es) [] cpos) (tBM X.K T r to t) := QE.of (pe_bm pa slot hty hm ho.to ha.to hbase hfew hline hs hplain)
theorem q_pe_bm0 {o : Expr} {id : String} {T : String} {name : Str} (pa : PlainAttrs T) (slot : Slot T name id) (hty : typeOf (.builtin id) = pure (.type "method_descriptor")) (hm : MtR X id r) (ho : QE X o to)
    (hbase : attributeBase o name X.env (eval o X.env) = eval o X.env := by rfl) (hline : (apos.endLine == cpos.line) = true := by rfl) : QE X (.Call (.Attribute o name apos) [] [] cpos) (tBM0 X.K T r to) := QE.of (pe_bm0 pa slot hty hm ho.to hbase hline)
theorem q_pe_dnewK {pos : Pos} : QE X (.Dict [] [] pos) tDNewK := QE.of (pe_dnewK )
theorem q_pg_name {pos : Pos} {i : Nat} {x : Str} (hN : X.N.Nodup) (hi : X.N[i]? = some x) (hx : Loc X.env.scope x) (hf : X.fn x = true ∨ X.env.scope.names.lookup x = some .local := by first | exact .inl rfl | exact .inr rfl | assumption) : QG X (.Name x pos) (gName i) := QG.of (pg_name hN hi hx hf)
theorem q_pgs_nil : QGs X [] gNil := QGs.of (pgs_nil )
theorem q_pgs_cons {e : Expr} {es : List Expr} {t : TG} {u : TGs} (h1 : QG X e t) (h2 : QGs X es u)
    (hs : (assignEach (e :: es) X.env).map (·.2) = assign e X.env :: (assignEach es X.env).map (·.2) := by rfl) : QGs X (e :: es) (gCons t u) := QGs.of (pgs_cons h1.to h2.to hs)
theorem q_pg_tup {pos : Pos} {es : List Expr} {k : Nat} {t : TGs} {n : Nat} (hc : X.calm = true) (h : QGs X es t)
    (hn : (assignEach es X.env).length = n := by rfl) (hst : (assignEach es X.env).findIdx? (·.1) = none := by rfl) : QG X (.Tuple es k pos) (gTup X.K n t) := QG.of (pg_tup hc h.to hn hst)
theorem q_pg_sub {pos : Pos} {o i : Expr} {to ti : TE} {t : TSet} (ho : QE X o to) (hi : QE X i ti) (hs : PSet X t)
    (ha : ∀ v, assign (.Subscript o i pos) X.env v = (do
      let ov ← holding [v] (eval o X.env)
      let iv ← holding [v, ov] (eval i X.env)
      standAt pos
      holding [v, ov, iv] (setItem ov iv v)
      release [v, ov, iv] []) := by intro _; rfl) : QG X (.Subscript o i pos) (gSub to ti t) := QG.of (pg_sub ho.to hi.to hs ha)
theorem q_pi_list {l : Expr} {tl : TE} (hl : QE X l tl) : QI X tg l (iList X.K tl) := QI.of (pi_list hl.to)
theorem q_pi_tup {l : Expr} {tl : TE} (hl : QE X l tl) : QI X tg l (iTup X.K tl) := QI.of (pi_tup hl.to)
theorem q_pi_range1 {a : Expr} {ta : TA} {p pos : Pos} (hg : Gl X "range") (hm : X.mg "range" = none) (ha : QA X [a] ta) (hs : starEach [a] X.env = [(false, eval a X.env)] := by rfl) : QI X tg (.Call (.Name "range" p) [a] [] pos) (iRng1 ta) := QI.of (pi_range1 hg hm ha.to hs)
theorem q_pi_range2 {a b : Expr} {ta : TA} {p pos : Pos} (hg : Gl X "range") (hm : X.mg "range" = none) (ha : QA X [a, b] ta) (hs : starEach [a, b] X.env = [(false, eval a X.env), (false, eval b X.env)] := by rfl) (hs2 : starEach [b] X.env = [(false, eval b X.env)] := by rfl) : QI X tg (.Call (.Name "range" p) [a, b] [] pos) (iRng2 ta) := QI.of (pi_range2 hg hm ha.to hs hs2)
theorem q_pxe_call {e : Expr} {x : Str} {f : Addr} {pos : Pos} {k : Nat} (F : FnOk X.prog X.w X.K X.mg X.base (CXE X.prog X.w) k f fd ps sp) (hr : Room k X.A) (hg : Gl X x) (hm : X.mg x = some (.ref f)) (hk : PySem.W.keepIn X.K (.ref f) = true) (hb : Binds X.K fd ps ds) (hd : Vals dvs ds)
    (ha : QA X.nox (e :: es) t) (hdb : (x == ("__debug__" : Str)) = false := by decide) (he : starEach (e :: es) X.env = (false, eval e X.env) :: starEach es X.env := by rfl) (hpl : (backTo pos (starEach es X.env)).any (·.1) = false := by rfl) : QXE X (.Call (.Name x p) (e :: es) [] pos) (txCall sp dvs t) := QXE.of (pxe_call F hr hg hm hk hb hd ha.to hdb he hpl)
theorem q_px_of {st : Stmt} {t : TS} (h : QS X.nox st t) : QX X st (fun D _ σ H => t D σ H) := QX.of (px_of h.to)
theorem q_px_expr {e : Expr} {pos : Pos} {t : St → Hp → VK → XK → Prop} (he : QXE X e t) (hs : swapsWith e none pos.line X.env = pure false := by rfl) : QX X (.Expr e pos) (fun D E σ H => t σ H (fun _ H1 => D.nx σ H1) (fun c _ H1 => E c σ H1)) := QX.of (px_expr he.to hs)
theorem q_px_set {e : Expr} {x : Str} {pos : Pos} {i : Nat} {pos' : Pos} {t : St → Hp → VK → XK → Prop} (hN : X.N.Nodup) (hi : X.N[i]? = some x) (hx : Loc X.env.scope x) (he : QXE X e t) (hs : swapsWith e (some (.Name x pos')) pos.line X.env = pure false := by rfl)
    (hf : X.fn x = true ∨ X.env.scope.names.lookup x = some .local := by first | exact .inl rfl | exact .inr rfl | assumption) : QX X (.Assign [.Name x pos'] e pos) (fun D E σ H => t σ H (fun v H1 => D.nx (σ.set i (some v)) H1) (fun c _ H1 => E c σ H1)) := QX.of (px_set hN hi hx he.to hs hf)
theorem q_pxs_one {st : Stmt} {t : TX} (h : QX X st t) : QXs X [st] t := QXs.of (pxs_one h.to)
theorem q_pwpt {X : Cx} {e : Expr} {t : TT} (h : QW X e t) : QT X e t := QT.of (PW.pt h.to)
theorem FunD.okQ {P : Program} {w : World} {K : PySem.W.Frag} {mg : Str → Option Value} {base : Heap} {dV : Value} {x qual : Str} {st : Stmt} {f : Addr} {fd : FuncData} {N ps : List Str} {k : Nat} {sp : Sp} (F : FunD K x qual st f fd dV) (S : FnScope N ps (defScope st)) (len : ∀ vs H Q E, sp vs H Q E → vs.length = ps.length)
    (hbody : ∀ (cdv : Value) (A : Around) (outer : List Env) (s : Shared) (H : Hp) (vs : List V) (Q : VK) (E : XK), Room k (A.deeper (envOfC qual (defScope st) s.heap.objs.size f cdv)) → sp vs H Q E →
      ∃ t, QSs (cxOf (CXE P w) P w K mg base N qual (defScope st) f cdv A outer s H E) (defBody st) t ∧ t { nx := fun _ H' => Q .non H', rt := Q } (start N vs) H) : FnOk P w K mg base (CXE P w) (k + 1) f fd ps sp :=
  F.ok S len fun cdv A outer s H vs Q E hr h => let ⟨t, d, q⟩ := hbody cdv A outer s H vs Q E hr h; ⟨t, d.to, q⟩
end L2

set_option Elab.async false
set_option linter.all false
set_option maxRecDepth 100000
set_option maxHeartbeats 4000000
namespace L2
open PySem PySem.Spec PyProof.Rows

/-! ### a comprehension's loop -/
section
variable {prog : Program} {w : World} {A : Around} {R : Result → Shared → Prop} {s : Shared}
/-- turn by turn, any target; nothing is raised -/
theorem compLoop_any {elt target iter : Expr} {ifs : List Expr} {scope : Scope} {pos : Pos} {it acc : Value} {env : Env} (I : Nat → Shared → Prop)
    (turn : ∀ n s, I n s → wpAny (model prog w) A (pyNext it) (fun r s₁ => match r with
      | none => R (.ok .next) s₁
      | some v => wpAny (model prog w) A (letOwnedTupleGo target it v) (fun _ s₁' => wpAny (model prog w) A (assign target env v) (fun _ s₂ =>
          wpAny (model prog w) A (forIn ifs true fun c r => if r = true then do let ok ← isTrue c env (eval c env); pure (ForInStep.yield ok) else pure (ForInStep.yield r)) (fun ok s₃ =>
            if ok = true then wpAny (model prog w) A (eval elt env) (fun x s₄ =>
              wpAny (model prog w) A (call (.builtin "list.append") [acc, x]) (fun _ s₅ => ∃ m, m < n ∧ I m s₅) (fun _ _ => False) s₄) (fun _ _ => False) s₃
            else ∃ m, m < n ∧ I m s₃) (fun _ _ => False) s₂) (fun _ _ => False) s₁') (fun _ _ => False) s₁) (fun _ _ => False) s)
    (n : Nat) (h : I n s) : codeAny (model prog w) A (.compLoop (.ListComp elt [⟨target, iter, ifs, 0⟩] scope pos) 0 it acc env) R s := by
  refine codeAny_loop rfl I (fun n s hI => ?_) n h
  show wpAny _ A ((compTurn (.ListComp elt [⟨target, iter, ifs, 0⟩] scope pos) 0 it acc env).onRaise (fun x => do noteFrame x env; theTreesLotGoes x)) _ _ s
  refine wpAny_noted ?_
  rw [compTurn_list]
  refine wpAny_bind (wpAny_standAt (wpAny_bind (wpAny_mono (turn n s hI) (fun r s₁ h₁ => ?_) fun _ _ h' => h'.elim)))
  cases r with
  | none => exact wpAny_pure h₁
  | some v =>
    refine wpAny_bind (wpAny_mono h₁ (fun _ s₁' h₁' => ?_) fun _ _ h' => h'.elim)
    refine wpAny_bind (wpAny_mono h₁' (fun _ s₂ h₂ => wpAny_bind (wpAny_mono h₂ (fun ok s₃ h₃ => ?_) fun _ _ h' => h'.elim)) fun _ _ h' => h'.elim)
    cases ok with
    | false => exact wpAny_pure ⟨rfl, h₃⟩
    | true =>
      exact wpAny_bind (wpAny_bind (wpAny_mono h₃ (fun x s₄ h₄ => wpAny_bind (wpAny_mono h₄ (fun _ s₅ h₅ => wpAny_pure (wpAny_pure ⟨rfl, h₅⟩)) fun _ _ h' => h'.elim)) fun _ _ h' => h'.elim))
end

/-! ### its cells -/
theorem forIn_cl {env : Env} {f : Str × NameKind → List (Str × Addr) → Sem (ForInStep (List (Str × Addr)))}
    (hf : ∀ x cs, f x cs = if (x.2 == NameKind.free) = true then (do let c ← cellOf env x.1; pure (ForInStep.yield ((x.1, c) :: cs))) else pure (ForInStep.yield cs)) :
    ∀ (l : List (Str × NameKind)) (cs : List (Str × Addr)), (∀ x ∈ l, x.2 = .free → ∃ c, env.cells.lookup x.1 = some c) →
      ∃ cl, forIn l cs f = (pure cl : Sem _) ∧ (∀ x c, cl.lookup x = some c → cs.lookup x = some c ∨ env.cells.lookup x = some c) ∧
        (∀ x, (∃ c, cs.lookup x = some c) ∨ (x, NameKind.free) ∈ l → ∃ c, cl.lookup x = some c)
  | [], cs, _ => ⟨cs, rfl, fun _ _ h => .inl h, fun x h => h.elim id (fun z => by cases z)⟩
  | (n, k) :: l, cs, h => by
    rw [List.forIn_cons, hf]
    by_cases hk : k = .free
    · subst hk
      obtain ⟨c, hc⟩ := h (n, .free) List.mem_cons_self rfl
      obtain ⟨cl, e, h1, h2⟩ := forIn_cl hf l ((n, c) :: cs) fun x hx => h x (List.mem_cons_of_mem _ hx)
      refine ⟨cl, ?_, fun x c' q => ?_, fun x q => h2 x ?_⟩
      · have e1 : cellOf env n = pure c := by unfold cellOf; rw [hc]
        simp only [beq_self_eq_true, if_true, e1, pure_bind]
        exact e
      · rcases h1 x c' q with z | z
        · rw [List.lookup_cons] at z
          by_cases hx : (x == n) = true
          · rw [hx] at z
            have : x = n := eq_of_beq hx
            subst this
            exact .inr (by rw [hc]; exact z)
          · rw [Bool.eq_false_iff.mpr hx] at z
            exact .inl z
        · exact .inr z
      · rcases q with ⟨c', z⟩ | z
        · left
          rw [List.lookup_cons]
          cases x == n with
          | true => exact ⟨c, rfl⟩
          | false => exact ⟨c', z⟩
        · rcases List.mem_cons.mp z with z | z
          · left
            cases z
            rw [List.lookup_cons, beq_self_eq_true]
            exact ⟨c, rfl⟩
          · exact .inr z
    · obtain ⟨cl, e, h1, h2⟩ := forIn_cl hf l cs fun x hx => h x (List.mem_cons_of_mem _ hx)
      refine ⟨cl, ?_, h1, fun x q => h2 x ?_⟩
      · have e1 : ((n, k).2 == NameKind.free) = false := by
          cases k <;> first | rfl | exact absurd rfl hk
        rw [e1]
        simp only [Bool.false_eq_true, if_false, pure_bind]
        exact e
      · rcases q with z | z
        · exact .inl z
        · rcases List.mem_cons.mp z with z | z
          · cases z; exact absurd rfl hk
          · exact .inr z
theorem closure_of {scope : Scope} {env : Env} (h : ∀ x ∈ scope.names, x.2 = .free → ∃ c, env.cells.lookup x.1 = some c) :
    ∃ cl, closureFor scope env = pure cl ∧ (∀ x c, cl.lookup x = some c → env.cells.lookup x = some c) ∧ (∀ x, (x, NameKind.free) ∈ scope.names → ∃ c, cl.lookup x = some c) := by
  obtain ⟨cl, e, h1, h2⟩ := forIn_cl (env := env) (fun _ _ => rfl) scope.names [] h
  refine ⟨cl, ?_, fun x c q => (h1 x c q).elim (fun z => by cases z) id, fun x q => h2 x (.inr q)⟩
  unfold closureFor
  exact (congrArg (fun z : Sem (List (Str × Addr)) => z >>= fun r => pure r) e).trans (by rw [pure_bind])

/-! ### its names -/
section
variable {env : Env}
def relF (env : Env) : Str × NameKind → Str × NameKind := fun (n, k) => if (k == .free && env.scope.kind == .function && env.kindOf n == some .cell) then (n, .cell) else (n, k)
theorem relabel_names (scope : Scope) : (relabel scope env).names = scope.names.map (relF env) := rfl
theorem relF_fst (p : Str × NameKind) : (relF env p).1 = p.1 := by
  obtain ⟨n, k⟩ := p
  show (if _ then _ else _ : Str × NameKind).1 = n
  split <;> rfl
theorem relF_snd (p : Str × NameKind) : (relF env p).2 = p.2 ∨ (p.2 = .free ∧ (relF env p).2 = .cell) := by
  obtain ⟨n, k⟩ := p
  show (if _ then _ else _ : Str × NameKind).2 = k ∨ _
  split
  · rename_i h
    right
    rw [Bool.and_eq_true, Bool.and_eq_true] at h
    refine ⟨eq_of_beq h.1.1, ?_⟩
    show (if _ then _ else _ : Str × NameKind).2 = _
    rw [if_pos (by rw [Bool.and_eq_true, Bool.and_eq_true]; exact h)]
  · left; rfl
theorem lookup_relF : ∀ {names : List (Str × NameKind)} {x : Str} {k : NameKind}, names.lookup x = some k → (names.map (relF env)).lookup x = some k ∨ (k = .free ∧ (names.map (relF env)).lookup x = some .cell)
  | [], _, _, h => by cases h
  | p :: r, x, k, h => by
    rw [List.map_cons]
    obtain ⟨n, k0⟩ := p
    have e1 := relF_fst (env := env) (n, k0)
    have e2 := relF_snd (env := env) (n, k0)
    generalize relF env (n, k0) = q at e1 e2 ⊢
    obtain ⟨n', k'⟩ := q
    have e1 : n' = n := e1
    subst e1
    rw [List.lookup_cons] at h ⊢
    cases hx : x == n' with
    | true =>
      rw [hx] at h
      cases h
      rcases e2 with e2 | ⟨e2, e3⟩
      · left; exact congrArg some e2
      · right; exact ⟨e2, congrArg some e3⟩
    | false =>
      rw [hx] at h
      exact lookup_relF h
theorem lookup_relF_of : ∀ {names : List (Str × NameKind)} {x : Str} {k : NameKind}, (names.map (relF env)).lookup x = some k → names.lookup x = some k ∨ (k = .cell ∧ names.lookup x = some .free)
  | [], _, _, h => by cases h
  | p :: r, x, k, h => by
    rw [List.map_cons] at h
    obtain ⟨n, k0⟩ := p
    have e1 := relF_fst (env := env) (n, k0)
    have e2 := relF_snd (env := env) (n, k0)
    generalize relF env (n, k0) = q at e1 e2 h
    obtain ⟨n', k'⟩ := q
    have e1 : n' = n := e1
    subst e1
    rw [List.lookup_cons] at h ⊢
    cases hx : x == n' with
    | true =>
      rw [hx] at h
      cases h
      rcases e2 with e2 | ⟨e2, e3⟩
      · left; exact congrArg some e2.symm
      · right; exact ⟨e3, congrArg some e2⟩
    | false =>
      rw [hx] at h
      exact lookup_relF_of h
theorem rel_local {sc : Scope} {x : Str} (h : sc.names.lookup x = some .local) : (relabel sc env).names.lookup x = some .local := by
  rcases lookup_relF (env := env) h with z | ⟨z, _⟩
  · exact z
  · cases z
theorem rel_glob {sc : Scope} {x : Str} (h : sc.names.lookup x = some .globalImplicit) : (relabel sc env).names.lookup x = some .globalImplicit := by
  rcases lookup_relF (env := env) h with z | ⟨z, _⟩
  · exact z
  · cases z
theorem rel_free {sc : Scope} {x : Str} (h : sc.names.lookup x = some .free) : Vis (relabel sc env) x := by
  rcases lookup_relF (env := env) h with z | ⟨_, z⟩
  · exact .inr (.inr z)
  · exact .inr (.inl z)
end

/-! ### its context -/
/-- a comprehension's scope in a def whose names are N0; N: those and k of its own -/
structure CompSc (N0 N : List Str) (k : Nat) (sc de : Scope) : Prop where
  kind : sc.kind = .function
  cell : ∀ y ∈ sc.names, y.2 ≠ .cell
  names : ∀ y ∈ sc.names, y.2 = .local → sc.names.lookup y.1 = some .local
  len : N.length = N0.length + k
  nd : N.Nodup
  old : ∀ p ∈ (N.take N0.length).zip N0, p.1 = p.2 ∨ sc.names.lookup p.1 = none
  nl : ∀ n ∈ N.take N0.length, sc.names.lookup n ≠ some .local
  fr : ∀ y ∈ sc.names, y.2 = .free → de.names.lookup y.1 = some .cell ∨ de.names.lookup y.1 = some .free

/-- the block's context: exceptions do not come -/
def cxC (X : Cx) (N : List Str) (sc : Scope) (cl : List (Str × Addr)) (C : Addr) (s : Shared) (H : Hp) (ex : List Addr) : Cx where
  prog := X.prog
  w := X.w
  K := X.K
  mg := X.mg
  base := X.base
  A := X.A
  N := N
  s₀ := s
  H₀ := H
  env := compEnvC sc cl C X.env
  outer := X.stack
  stack := X.stack
  ex := ex
  fn := fun _ => false
  calm := X.calm
  pn := []
  xe := fun _ _ => False

theorem mem_of_lookupK {names : List (Str × NameKind)} {x : Str} {k : NameKind} (h : names.lookup x = some k) : (x, k) ∈ names := PySem.mem_of_lookup h

section
variable {X : Cx} {pins : List (Addr × Obj)} {σ : St} {H : Hp} {s : Shared} {N : List Str} {k : Nat} {sc : Scope} {cl : List (Str × Addr)} {C : Addr} {fp : List Addr} {h1 : Heap} {tk : Nat}
theorem inv_comp (I : Inv X pins σ H s) (S : CompSc X.N N k sc X.env.scope) (hcl1 : ∀ x c, cl.lookup x = some c → X.env.cells.lookup x = some c)
    (hcl2 : ∀ x, (x, NameKind.free) ∈ sc.names → ∃ c, cl.lookup x = some c) (hC : s.heap.objs.size ≤ C) (hf : ∀ b ∈ fp, FpOk X pins H b) (hfp : ∀ b ∈ fp, b < s.heap.objs.size)
    (hk : ∀ b o, s.heap.get? b = some o → h1.get? b = some o) (hn : ∃ m, h1.Ns C m) :
    Inv (cxC X N sc cl C s H fp) (X.pn ++ pins) (σ ++ List.replicate k none) H { s with heap := h1, toks := tk } := by
  have oldlt : ∀ b o, s.heap.get? b = some o → b ≠ C := fun b o e => Nat.ne_of_lt (Nat.lt_of_lt_of_le (Heap.lt_size e) hC)
  have kind : ∀ x, ((cxC X N sc cl C s H fp).env.kindOf x = some .cell ∨ (cxC X N sc cl C s H fp).env.kindOf x = some .free) → sc.names.lookup x = some .free := fun x hx => by
    rcases hx with hx | hx
    · rcases lookup_relF_of (env := X.env) hx with z | ⟨_, z⟩
      · exact absurd rfl (S.cell _ (mem_of_lookupK z))
      · exact z
    · rcases lookup_relF_of (env := X.env) hx with z | ⟨z, _⟩
      · exact z
      · cases z
  refine ⟨⟨I.ok.mod, S.kind, I.ok.glob, I.ok.blt, hC, fun x y c h1 h2 => I.ok.inj x y c (hcl1 _ _ h1) (hcl1 _ _ h2), fun x hx => hcl2 x (mem_of_lookupK (kind x hx)), fun x c z _ => absurd (show false = true from z) Bool.false_ne_true,
    I.ok.hd, I.ok.frames, .inl rfl, fun b hb => ⟨Nat.ne_of_lt (Nat.lt_of_lt_of_le (hfp b hb) hC), fun x c e => (hf b hb).2.2.2.2.1 x c (hcl1 _ _ e)⟩, I.bs, Nat.le_trans I.ok.bsz I.sz, fun b o e hb => ?_, fun b hb hb2 => ?_, I.stack, I.stkFree⟩,
    rfl, I.bare, Un.kept hk, ?_, fun x c e => ?_, I.hok.fresh hC, fun x c e => I.freeC x c (hcl1 _ _ e), fun p hp => ?_, I.hok.kept hk, ?_⟩
  · rcases (hf b hb).2.2.2.1 with z | z
    · exact I.ok.noex b o e z
    · exact absurd (Nat.lt_of_lt_of_le (Heap.lt_size e) (Nat.le_trans I.ok.bsz z)) (Nat.lt_irrefl _)
  · rcases List.mem_cons.mp (I.stkSub b hb2) with z | z
    · exact (hf b hb).2.1 z
    · exact (hf b hb).2.2.1 z
  · obtain ⟨m, hn⟩ := hn
    refine ⟨m, hn, fun i x v e1 e2 e3 => ?_⟩
    have hi : i < σ.length := by
      by_cases hi : i < σ.length
      · exact hi
      · rw [List.getElem?_append_right (by omega), List.getElem?_replicate] at e2
        split at e2 <;> cases e2
    rw [List.getElem?_append_left hi] at e2
    have hi0 : i < X.N.length := by rw [← I.len]; exact hi
    have hiN : (N.take X.N.length)[i]? = some x := by rw [List.getElem?_take_of_lt hi0]; exact e1
    have nloc := S.nl x (List.mem_of_getElem? hiN)
    have hfree : sc.names.lookup x = some .free := by
      rcases e3 with z | z | z
      · rcases lookup_relF_of (env := X.env) z with z | ⟨z, _⟩
        · exact absurd z nloc
        · cases z
      · exact kind x (.inl z)
      · exact kind x (.inr z)
    have hX : X.N[i]? = some x := by
      have hz : ((N.take X.N.length).zip X.N)[i]? = some (x, X.N[i]) := by
        rw [List.getElem?_zip_eq_some]
        exact ⟨hiN, List.getElem?_eq_getElem hi0⟩
      rcases S.old _ (List.mem_of_getElem? hz) with z | z
      · have z : x = X.N[i] := z
        rw [List.getElem?_eq_getElem hi0, ← z]
      · have z : sc.names.lookup x = none := z
        rw [hfree] at z; cases z
    obtain ⟨m0, hn0, hl0⟩ := I.loc
    have vis : Vis X.env.scope x := by
      rcases S.fr _ (mem_of_lookupK hfree) rfl with z | z
      · exact .inr (.inl z)
      · exact .inr (.inr z)
    obtain ⟨u, r, l⟩ := hl0 i x v hX e2 vis
    refine ⟨u, r, .inr ⟨?_, ?_⟩⟩
    · rcases rel_free (env := X.env) hfree with z | z | z
      · rcases lookup_relF_of (env := X.env) z with z | ⟨z, _⟩
        · rw [hfree] at z; cases z
        · cases z
      · exact .inl z
      · exact .inr z
    · rcases l with ⟨z, _⟩ | ⟨_, c, ec, ic⟩
      · have z : X.env.scope.names.lookup x = some .local := z
        rcases S.fr _ (mem_of_lookupK hfree) rfl with z2 | z2
        · have z2 : X.env.scope.names.lookup x = some .cell := z2
          rw [z] at z2; cases z2
        · have z2 : X.env.scope.names.lookup x = some .free := z2
          rw [z] at z2; cases z2
      · obtain ⟨c', ec'⟩ := hcl2 x (mem_of_lookupK hfree)
        have := hcl1 _ _ ec'
        rw [ec] at this
        cases this
        obtain ⟨o, ho, hd⟩ := ic
        exact ⟨c, ec', o, hk _ _ ho, hd⟩
  · obtain ⟨v, o, ho, hd⟩ := I.cell x c (hcl1 _ _ e)
    exact ⟨v, o, hk _ _ ho, hd⟩
  · have hp : p ∈ X.pn ++ pins := hp
    obtain ⟨e, n, ne, nf, d⟩ := I.pin p hp
    refine ⟨hk _ _ e, n, oldlt _ _ e, fun hb => ?_, d⟩
    rcases List.mem_cons.mp (I.stkSub _ hb) with z | z
    · exact ne z
    · exact nf z
  · show (σ ++ List.replicate k none).length = N.length
    rw [List.length_append, List.length_replicate, I.len, S.len]

/-- behind the block -/
theorem comp_end {H' : Hp} {σ' : St} {s' : Shared} {D : Addr} {ys : List V} {its : List Value} (I : Inv X pins σ H s) (I' : Inv (cxC X N sc cl C s H fp) (X.pn ++ pins) σ' H' s') (hD : s.heap.objs.size ≤ D) (hDn : H' D = none)
    (pl : s'.heap.PlainList D its.toArray) (rv : Vals ys its) (hl : ys.length ≤ sizeLine) (hf : ∀ b ∈ fp, FpOk X pins H b) : Inv X pins σ (upd H' D (.lst ys)) s' := by
  obtain ⟨n, hpl⟩ := pl
  have u := I'.base
  have ne : ∀ b o, s.heap.get? b = some o → b ≠ D := fun b o e => Nat.ne_of_lt (Nat.lt_of_lt_of_le (Heap.lt_size e) hD)
  have nH : ∀ b o, H' b = some o → b ≠ D := fun b o e => ne_of_none e hDn
  refine I.call' I'.os ⟨u.keep, u.slot, fun b o e n nx => ?_, u.there, fun b xs e => ?_, fun b o v e => ?_, fun b ps e => ?_⟩ (fun b o e => ?_) I'.bare (ch := fp) fun b hb => ?_
  · rw [upd_ne (ne b o e)]; exact u.free b o e n nx
  · have := u.tups b xs e
    rw [upd_ne (nH _ _ this)]; exact this
  · have := u.frzs b o v e
    rw [upd_ne (nH _ _ this)]; exact this
  · obtain ⟨more, this⟩ := u.tbls b ps e
    exact ⟨more, by rw [upd_ne (nH _ _ this)]; exact this⟩
  · by_cases hb : b = D
    · subst hb
      rw [upd_same] at e
      cases e
      exact ⟨hl, its, n, rv, hpl⟩
    · rw [upd_ne hb] at e
      exact (I'.hok b o e).stay (fun _ _ _ q => q) (fun c q => by rw [upd_ne (nH _ _ q)]; exact q) fun c xs q => by rw [upd_ne (nH _ _ q)]; exact q
  · obtain ⟨f0, f1, f2, f3, f4, f5⟩ := hf b hb
    exact ⟨f3, f1, f4, f5⟩
end

theorem Inv.nofs_stack {X : Cx} {pins : List (Addr × Obj)} {σ : St} {H : Hp} {s : Shared} (I : Inv X pins σ H s) {a : Addr} (h : s.heap.objs.size ≤ a) : a ∉ frs X.stack := fun hb => by
  rcases List.mem_cons.mp (I.stkSub a hb) with z | z
  · exact absurd (Nat.lt_of_lt_of_le I.lt (by rw [← z]; exact h)) (Nat.lt_irrefl _)
  · exact I.nofs h z
/-! ### its readings -/
def PF (X : Cx) (ifs : List Expr) (t : TT) : Prop := ∀ (pins : List (Addr × Obj)) (s : Shared) (σ : St) (H : Hp) (Q : Bool → Hp → Prop), Inv X pins σ H s → t σ H Q →
  wpAny (model X.prog X.w) X.A (forIn ifs true fun c r => if r = true then do let ok ← isTrue c X.env (eval c X.env); pure (ForInStep.yield ok) else pure (ForInStep.yield r)) (TP X pins σ Q) X.xe s
def tTrue : TT := fun _ H Q => Q true H
theorem pf_nil {X : Cx} : PF X [] tTrue := fun _ _ _ H _ I h => wpAny_tests_nil ⟨H, I, h⟩
theorem pf_one {X : Cx} {c : Expr} {t : TT} (hc : PT X c t) : PF X [c] t := fun pins s σ H Q I h => wpAny_tests_one (hc pins s σ H Q I h)

def CompB (J : It) (g : TG) (tt : TT) (te : TE) (Q : VK) (σ : St) (H : Hp) : Prop := ∃ W : Nat → Nat → St → List V → Hp → Prop, (∃ m, W 0 m σ [] H) ∧ ∀ i m σ ys H, W i m σ ys H → ys.length ≤ sizeLine ∧
  ((J.stop i H ∧ ∀ r, H r = none → Q (.ref r) (upd H r (.lst ys))) ∨
   (J.go i H ∧ ∃ N : St → List V → Hp → Prop, (∀ σ' ys' H', N σ' ys' H' → ∃ m', m' < m ∧ W (i + 1) m' σ' ys' H') ∧
     ∀ x H', J.yld i H x H' → g x σ H' fun σ2 H2 => tt σ2 H2 fun b H3 => if b = true then te σ2 H3 fun y H4 => N σ2 (ys ++ [y]) H4 else N σ2 ys H3))
def tComp (n : Nat) (wi : TI) (g : TG) (tt : TT) (te : TE) : TE := fun σ H Q => wi σ H fun J H1 => CompB J g tt te Q (σ ++ List.replicate n none) H1

section
variable {X : Cx} {pins : List (Addr × Obj)} {σ : St} {H : Hp} {s : Shared} {N : List Str} {k : Nat} {sc : Scope} {cl : List (Str × Addr)} {C : Addr} {fp : List Addr} {J : It} {it : Addr} {tn : Nat → Heap → Prop}
  {tg elt iter : Expr} {ifs : List Expr} {pos : Pos} {g : TG} {tt : TT} {te : TE} {Q : VK} {E : Value → Shared → Prop} {RR : Value → Addr → Result → Shared → Prop}
theorem comp_block (hc : X.calm = true) (S : CompSc X.N N k sc X.env.scope) (hcl1 : ∀ x c, cl.lookup x = some c → X.env.cells.lookup x = some c)
    (hcl2 : ∀ x, (x, NameKind.free) ∈ sc.names → ∃ c, cl.lookup x = some c) (I : Inv X pins σ H s) (T : Turn X.prog X.w X.K tg J fp it tn) (st : tn 0 s.heap) (hf : ∀ b ∈ fp, FpOk X pins H b)
    (B : CompB J g tt te Q (σ ++ List.replicate k none) H)
    (hg : ∀ C, PG (cxC X N sc cl C s H fp) tg g) (ht : ∀ C, PF (cxC X N sc cl C s H fp) ifs tt) (he : ∀ C, PE (cxC X N sc cl C s H fp) elt te)
    (hRR : ∀ D C s' H' ys, Inv X pins σ (upd H' D (.lst ys)) s' → s.heap.objs.size ≤ C → upd H' D (.lst ys) C = none → (∃ m, s'.heap.Ns C m) → Q (.ref D) (upd H' D (.lst ys)) → RR (.ref D) C (.ok .next) s') :
    wpAny (model X.prog X.w) X.A (newList []) (fun acc s₃ => wpAny (model X.prog X.w) X.A (newFunctionEnv sc X.env.globals cl [] X.env.qual none .none (some X.env)) (fun cenv s₄ =>
      codeAny (model X.prog X.w) X.A (.compStart (.ListComp elt [⟨tg, iter, ifs, 0⟩] sc pos) 0 (.ref it) acc { cenv with scope := relabel sc X.env }) (RR acc cenv.locals) s₄) E s₃) E s := by
  refine wpAny_newObj_type (wpAny_newFunctionEnv S.cell (by intro y hy; simp at hy) (fun h₁ hns₁ hsb₁ => ?_) S.kind)
  dsimp only at hns₁ hsb₁ ⊢
  generalize hH2 : s.heap.push { cls := .type "list", dict := none, data := .seq ([] : List Value).toArray } = H2 at hns₁ hsb₁ ⊢
  have hC : H2.objs.size = s.heap.objs.size + 1 := by rw [← hH2, Heap.size_push]
  have hDC : s.heap.objs.size ≠ H2.objs.size := by rw [hC]; exact Nat.ne_of_lt (Nat.lt_succ_self _)
  have hCle : s.heap.objs.size ≤ H2.objs.size := by rw [hC]; exact Nat.le_succ _
  have below : ∀ b, b < s.heap.objs.size → b ≠ H2.objs.size ∧ b ≠ s.heap.objs.size := fun b hb => ⟨by rw [hC]; exact Nat.ne_of_lt (Nat.lt_succ_of_lt hb), Nat.ne_of_lt hb⟩
  have old : ∀ b o, s.heap.get? b = some o → h₁.get? b = some o := fun b o e => hsb₁.extBut b o (below b (Heap.lt_size e)).1 (Heap.get?_push_of_some _ (hH2 ▸ Heap.get?_push_of_some _ e))
  have hacc : h₁.PlainList s.heap.objs.size #[] := ⟨_, hsb₁.extBut _ _ hDC (Heap.get?_push_of_some _ (hH2 ▸ Heap.get?_push_size _ rfl))⟩
  have hfp : ∀ b ∈ fp, b < s.heap.objs.size := fun b hb => let ⟨o, e, _⟩ := T.obj 0 _ st b hb; Heap.lt_size e
  have st1 : tn 0 h₁ := T.keep _ _ _ st fun b hb o e => old b o e
  have I0 := inv_comp (tk := s.toks + ([] : List (Str × Value)).length) I S hcl1 hcl2 hCle hf hfp old ⟨_, hns₁⟩
  generalize H2.objs.size = C at hns₁ hsb₁ hC hDC hCle below I0 ⊢
  generalize hD : s.heap.objs.size = D at hC hDC hCle below hacc hfp ⊢
  have hDle : s.heap.objs.size ≤ D := by rw [hD]; exact Nat.le_refl _
  -- what stays true of the iterator's objects
  have fpok : ∀ {H' : Hp} {o : Obj}, (∀ b ∈ fp, H' b = none) → ∀ b ∈ fp, FpOk (cxC X N sc cl C s H fp) ((X.pn ++ pins) ++ [(D, o)]) H' b := fun {H' o} hn b hb => by
    obtain ⟨f0, f1, f2, f3, f4, f5⟩ := hf b hb
    refine ⟨hn b hb, (below b (hfp b hb)).1, fun z => ?_, .inl hb, fun x c e => f4 x c (hcl1 _ _ e), fun p hp => ?_⟩
    · rcases List.mem_cons.mp (I.stkSub b z) with z | z
      · exact f1 z
      · exact f2 z
    · have hp : p ∈ (X.pn ++ pins) ++ [(D, o)] := hp
      rcases List.mem_append.mp hp with z | z
      · exact f5 p z
      · have : p = (D, o) := by simpa using z
        rw [this]
        exact Ne.symm (below b (hfp b hb)).2
  have loop : ∀ s₃ : Shared, s₃ = { s with heap := h₁, toks := s.toks + ([] : List (Str × Value)).length } →
      codeAny (model X.prog X.w) X.A (.compLoop (.ListComp elt [⟨tg, iter, ifs, 0⟩] sc pos) 0 (.ref it) (.ref D) (compEnvC sc cl C X.env)) (RR (.ref D) C) s₃ := by
    rintro s₃ rfl
    obtain ⟨W, ⟨m0, w0⟩, step⟩ := B
    refine compLoop_any (fun n s' => ∃ i σ' H' ys its, Inv (cxC X N sc cl C s H fp) (X.pn ++ pins) σ' H' s' ∧ tn i s'.heap ∧ (∀ b ∈ fp, H' b = none) ∧ H' D = none ∧ s'.heap.PlainList D (its : List Value).toArray ∧ Vals ys its ∧ W i n σ' ys H') ?_ m0
      ⟨0, _, H, [], [], I0, st1, fun b hb => (hf b hb).1, I.hok.fresh hDle, hacc, .nil, w0⟩
    rintro n s3 ⟨i, σ3, H3, ys, its, I3, st3, fr3, hD3, ⟨nn, pl3⟩, rv3, w3⟩
    obtain ⟨hl, cs⟩ := step i n σ3 ys H3 w3
    have pinD : ∀ {σ' : St} {H' : Hp} {s' : Shared} {o : Obj}, Inv (cxC X N sc cl C s H fp) (X.pn ++ pins) σ' H' s' → H' D = none → s'.heap.get? D = some o → (∀ v, o.data ≠ .cell v) → Inv (cxC X N sc cl C s H fp) ((X.pn ++ pins) ++ [(D, o)]) σ' H' s' := fun {σ' H' s' o} I' hn e d =>
      I'.pins_of fun p hp => (List.mem_append.mp hp).elim (fun z => I'.pin p (List.mem_append_right _ z)) fun z => by
        have : p = (D, o) := by simpa using z
        subst this
        exact ⟨e, hn, hDC, fun z => I.nofs_stack hDle z, d⟩
    have I3p := pinD I3 hD3 pl3 fun v z => by cases z
    rcases cs with ⟨stop, q⟩ | ⟨go, NN, hN, nx⟩
    · refine thn (T.done (cxC X N sc cl C s H fp) rfl rfl rfl hc i _ s3 σ3 H3 _ I3p (fpok fr3) st3 stop) fun r s4 ⟨hr, I4⟩ => ?_
      subst hr
      have d4 := I4.pin (D, _) (List.mem_append_right _ (List.mem_append_right _ (List.mem_singleton.mpr rfl)))
      have I5 := comp_end I I4.unpinned hDle d4.2.1 ⟨nn, d4.1⟩ rv3 hl hf
      refine hRR D C s4 H3 ys I5 (by rw [hD]; exact hCle) ?_ (let ⟨m, hm, _⟩ := I4.loc; ⟨m, hm⟩) (q D d4.2.1)
      rw [upd_ne (Ne.symm hDC)]
      exact I4.free
    · refine thn (T.item (cxC X N sc cl C s H fp) rfl rfl rfl hc i _ s3 σ3 H3 _ I3p (fpok fr3) st3 go) fun r s4 ⟨u, hr, h4⟩ => ?_
      subst hr
      refine thn h4 fun _ s5 ⟨x, H5, I5, r5, y5, st5, fr5⟩ => ?_
      have I5' := I5.pinned (fpok fr5) (T.obj _ _ st5)
      refine thn (hg C _ s5 σ3 H5 x u _ I5' r5 (nx x H5 y5)) fun _ s6 ⟨σ6, H6, I6, q6⟩ => ?_
      refine thn (ht C _ s6 σ6 H6 _ I6 q6) fun b s7 ⟨H7, I7, q7⟩ => ?_
      have itK : ∀ {s8 : Shared} {H8 : Hp}, Inv (cxC X N sc cl C s H fp) (((X.pn ++ pins) ++ [(D, ({ cls := .type "list", data := .seq its.toArray nn } : Obj))]) ++ pinsAt fp s5.heap) σ6 H8 s8 → tn (i + 1) s8.heap ∧ ∀ b ∈ fp, H8 b = none := fun {s8 H8} I8 => by
        refine ⟨T.keep _ _ _ st5 fun b hb o e => (I8.pin (b, o) (List.mem_append_right _ (List.mem_append_right _ (mem_pinsAt hb e)))).1, fun b hb => ?_⟩
        obtain ⟨o, e, d⟩ := T.obj _ _ st5 b hb
        exact (I8.pin (b, o) (List.mem_append_right _ (List.mem_append_right _ (mem_pinsAt hb e)))).2.1
      cases b with
      | false =>
        have q7 : NN σ6 ys H7 := by simpa using q7
        obtain ⟨m', hm, w7⟩ := hN _ _ _ q7
        obtain ⟨t7, f7⟩ := itK I7
        have d7 := I7.pin (D, _) (List.mem_append_right _ (List.mem_append_left _ (List.mem_append_right _ (List.mem_singleton.mpr rfl))))
        show ∃ m, m < n ∧ _
        exact ⟨m', hm, i + 1, σ6, H7, ys, its, I7.unpinned.unpinned, t7, f7, d7.2.1, ⟨nn, d7.1⟩, rv3, w7⟩
      | true =>
        have q7 : te σ6 H7 fun y H4 => NN σ6 (ys ++ [y]) H4 := by simpa using q7
        show wpAny _ _ _ _ _ _
        refine thn (he C _ s7 σ6 H7 _ I7 q7) fun yv s8 ⟨y, H8, I8, r8, q8⟩ => ?_
        obtain ⟨m', hm, w9⟩ := hN _ _ _ q8
        obtain ⟨t8, f8⟩ := itK I8
        have d8 := I8.pin (D, _) (List.mem_append_right _ (List.mem_append_left _ (List.mem_append_right _ (List.mem_singleton.mpr rfl))))
        refine wpAny_list_append_plain (hsz := by rw [List.size_toArray, ← rv3.length]; exact hl) ⟨nn, d8.1⟩ fun h9 pl9 sb9 => ?_
        have I9 : Inv (cxC X N sc cl C s H fp) (X.pn ++ pins) σ6 H8 { s8 with heap := h9 } := I8.unpinned.unpinned.turned (t' := s8.toks) (it := D) (fun b o hb e => (sb9.2 b hb).trans e) d8.2.1 hDC (.inr hDle) (fun x c e z => ?_) (fun p hp z => ?_)
        · refine ⟨m', hm, i + 1, σ6, H8, ys ++ [y], its ++ [yv], I9, T.keep _ _ _ t8 fun b hb o e => (sb9.2 b (below b (hfp b hb)).2).trans e, f8, d8.2.1, ?_, rv3.append (.cons r8 .nil), w9⟩
          rw [← List.push_toArray]
          exact pl9
        · obtain ⟨v, q⟩ := I.cell x c (hcl1 _ _ e)
          exact absurd (Nat.lt_of_lt_of_le q.lt (by rw [z]; exact hDle)) (Nat.lt_irrefl _)
        · have hp : p ∈ X.pn ++ pins := hp
          exact absurd (Nat.lt_of_lt_of_le (Heap.lt_size (I.pin p hp).1) (by rw [z]; exact hDle)) (Nat.lt_irrefl _)
  exact codeAny_compStart_list (loop _ rfl) (T.self _ _ _ _ _ st1 (loop _ rfl))
end
section
variable {X : Cx} {N : List Str} {k : Nat} {sc : Scope} {tg elt iter : Expr} {ifs : List Expr} {pos : Pos} {g : TG} {tt : TT} {te : TE} {wi : TI}
theorem comp_cells {pins : List (Addr × Obj)} {σ : St} {H : Hp} {s : Shared} (I : Inv X pins σ H s) (S : CompSc X.N N k sc X.env.scope) :
    ∃ cl, closureFor sc X.env = pure cl ∧ (∀ x c, cl.lookup x = some c → X.env.cells.lookup x = some c) ∧ (∀ x, (x, NameKind.free) ∈ sc.names → ∃ c, cl.lookup x = some c) :=
  closure_of fun x hx e => I.ok.has x.1 (S.fr x hx e)
/-- the names of the block are let go -/
theorem Inv.letGo {pins : List (Addr × Obj)} {σ : St} {H H0 : Hp} {s s0 : Shared} {h' : Heap} {C : Addr} (I0 : Inv X pins σ H0 s0) {σ' : St} (I : Inv X pins σ' H s) (hC : s0.heap.objs.size ≤ C) (hn : H C = none) (sb : Heap.SameBut C s.heap h') : Inv X pins σ' H { s with heap := h' } :=
  I.turned (t' := s.toks) (it := C) (fun b o hb e => (sb.2 b hb).trans e) hn (Nat.ne_of_gt (Nat.lt_of_lt_of_le I0.lt hC)) (.inr (Nat.le_trans I0.sz hC))
    (fun x c e z => by
      obtain ⟨v, q⟩ := I0.cell x c e
      exact absurd (Nat.lt_of_lt_of_le q.lt (by rw [z]; exact hC)) (Nat.lt_irrefl _))
    (fun p hp z => absurd (Nat.lt_of_lt_of_le (Heap.lt_size (I0.pin p hp).1) (by rw [z]; exact hC)) (Nat.lt_irrefl _))
/-- [elt for tg in iter], perhaps with a test -/
theorem pe_comp (hc : X.calm = true) (S : CompSc X.N N k sc X.env.scope) (hi : PI X tg iter wi) (hg : ∀ cl C s H fp, PG (cxC X N sc cl C s H fp) tg g) (ht : ∀ cl C s H fp, PF (cxC X N sc cl C s H fp) ifs tt)
    (he : ∀ cl C s H fp, PE (cxC X N sc cl C s H fp) elt te) (hs : ∀ x, foldedSetIterable iter X.env x = pure x := by intro _; rfl) : PE X (.ListComp elt [⟨tg, iter, ifs, 0⟩] sc pos) (tComp k wi g tt te) := by
  intro pins s σ H Q I h
  obtain ⟨cl, hclos, h1, h2⟩ := comp_cells I S
  rw [eval_ListComp]
  refine wpAny_comprehension_free (use := none) rfl hs hclos S.kind S.names (thn (hi pins s σ H _ I h) fun v s1 q1 => thn q1 fun itv s2 q2 => ?_)
  obtain ⟨it, fp, tn, J, H2, rfl, I2, T, st2, f2, B⟩ := q2
  refine comp_block (RR := fun acc C => compPost (model X.prog X.w) X.A X.xe none (EP X pins σ Q) acc C) hc S h1 h2 I2 T st2 f2 B (fun C => hg cl C s2 H2 fp) (fun C => ht cl C s2 H2 fp) (fun C => he cl C s2 H2 fp) ?_
  intro D C s' H' ys I' hC hn hm q
  obtain ⟨m, hm⟩ := hm
  exact ⟨m, hm, fun h' sb => ⟨.ref D, _, I2.letGo I' hC hn sb, rfl, q⟩⟩
/-- name = [elt for tg in iter], a local name on the same row -/
theorem ps_comp {i : Nat} {x : Str} {px spos : Pos} (hc : X.calm = true) (S : CompSc X.N N k sc X.env.scope) (hN : X.N.Nodup) (hx : X.N[i]? = some x) (hl : X.env.scope.names.lookup x = some .local)
    (hsw : swapsWith (.ListComp elt [⟨tg, iter, ifs, 0⟩] sc pos) (some (.Name x px)) spos.line X.env = pure true) (hi : PI X tg iter wi) (hg : ∀ cl C s H fp, PG (cxC X N sc cl C s H fp) tg g) (ht : ∀ cl C s H fp, PF (cxC X N sc cl C s H fp) ifs tt)
    (he : ∀ cl C s H fp, PE (cxC X N sc cl C s H fp) elt te) (hs : ∀ x, foldedSetIterable iter X.env x = pure x := by intro _; rfl) : PS X (.Assign [.Name x px] (.ListComp elt [⟨tg, iter, ifs, 0⟩] sc pos) spos) (tAsg (tComp k wi g tt te) (gName i)) := by
  intro pins s σ H D0 I h
  obtain ⟨cl, hclos, h1, h2⟩ := comp_cells I S
  rw [exec_Assign_Name_used _ _ _ _ hsw]
  refine wpAny_bind (wpAny_standAt (wpAny_bind ?_))
  show wpAny _ X.A (do let _ ← comprehension (.ListComp elt [⟨tg, iter, ifs, 0⟩] sc pos) sc X.env _ (newList []) false (eval iter X.env) (some (assign (.Name x px) X.env))) _ _ s
  refine wpAny_bind (thn (wpAny_comprehension_free (use := some (assign (.Name x px) X.env)) (Q := fun _ s' => SP X pins D0 .next s') rfl hs hclos S.kind S.names
    (thn (hi pins s σ H _ I h) fun v s1 q1 => thn q1 fun itv s2 q2 => ?_)) fun _ s' hq => wpAny_pure (wpAny_pure hq))
  obtain ⟨it, fp, tn, J, H2, rfl, I2, T, st2, f2, B⟩ := q2
  refine comp_block (RR := fun acc C => compPost (model X.prog X.w) X.A X.xe (some (assign (.Name x px) X.env)) (fun _ s' => SP X pins D0 .next s') acc C) hc S h1 h2 I2 T st2 f2 B (fun C => hg cl C s2 H2 fp) (fun C => ht cl C s2 H2 fp) (fun C => he cl C s2 H2 fp) ?_
  intro D C s' H' ys I' hC hn hm q
  obtain ⟨m, hm⟩ := hm
  show wpAny _ X.A (assign (.Name x px) X.env (.ref D)) _ _ _
  refine wpAny_assign_Name (store_ok2 I' hN hx (.inl hl) (v := .ref D) rfl (fun s'' I'' ch => ?_) (.inr hl))
  obtain ⟨a, sb, ha⟩ := ch
  refine ⟨m, hm.sameBut sb ?_, fun h' sb' => ⟨_, _, I2.letGo I'' hC hn sb', q⟩⟩
  rintro rfl
  rcases ha with z | z
  · exact absurd (Nat.lt_of_lt_of_le I2.lt (by rw [← z]; exact hC)) (Nat.lt_irrefl _)
  · obtain ⟨v, q⟩ := I2.cell x _ z
    exact absurd (Nat.lt_of_lt_of_le q.lt hC) (Nat.lt_irrefl _)
end

/-! ### the same over judgements that do not unfold -/
@[irreducible] def QF (X : Cx) (s : List Expr) (t : TT) : Prop := PF X s t
theorem QF.of {X : Cx} {s : List Expr} {t : TT} (h : PF X s t) : QF X s t := by delta QF; exact h
theorem QF.to {X : Cx} {s : List Expr} {t : TT} (h : QF X s t) : PF X s t := by delta QF at h; exact h
theorem q_pf_nil {X : Cx} : QF X [] tTrue := .of pf_nil
theorem q_pf_one {X : Cx} {c : Expr} {t : TT} (hc : QT X c t) : QF X [c] t := .of (pf_one hc.to)
section
variable {X : Cx} {N : List Str} {k : Nat} {sc : Scope} {tg elt iter : Expr} {ifs : List Expr} {pos : Pos} {g : TG} {tt : TT} {te : TE} {wi : TI}
theorem q_pe_comp (hc : X.calm = true) (S : CompSc X.N N k sc X.env.scope) (hi : QI X tg iter wi) (hg : ∀ cl C s H fp, QG (cxC X N sc cl C s H fp) tg g) (ht : ∀ cl C s H fp, QF (cxC X N sc cl C s H fp) ifs tt)
    (he : ∀ cl C s H fp, QE (cxC X N sc cl C s H fp) elt te) (hs : ∀ x, foldedSetIterable iter X.env x = pure x := by intro _; rfl) : QE X (.ListComp elt [⟨tg, iter, ifs, 0⟩] sc pos) (tComp k wi g tt te) :=
  .of (pe_comp hc S hi.to (fun _ _ _ _ _ => (hg _ _ _ _ _).to) (fun _ _ _ _ _ => (ht _ _ _ _ _).to) (fun _ _ _ _ _ => (he _ _ _ _ _).to) hs)
theorem q_ps_comp {i : Nat} {x : Str} {px spos : Pos} (hc : X.calm = true) (S : CompSc X.N N k sc X.env.scope) (hN : X.N.Nodup) (hx : X.N[i]? = some x) (hl : X.env.scope.names.lookup x = some .local)
    (hsw : swapsWith (.ListComp elt [⟨tg, iter, ifs, 0⟩] sc pos) (some (.Name x px)) spos.line X.env = pure true) (hi : QI X tg iter wi) (hg : ∀ cl C s H fp, QG (cxC X N sc cl C s H fp) tg g) (ht : ∀ cl C s H fp, QF (cxC X N sc cl C s H fp) ifs tt)
    (he : ∀ cl C s H fp, QE (cxC X N sc cl C s H fp) elt te) (hs : ∀ x, foldedSetIterable iter X.env x = pure x := by intro _; rfl) : QS X (.Assign [.Name x px] (.ListComp elt [⟨tg, iter, ifs, 0⟩] sc pos) spos) (tAsg (tComp k wi g tt te) (gName i)) :=
  .of (ps_comp hc S hN hx hl hsw hi.to (fun _ _ _ _ _ => (hg _ _ _ _ _).to) (fun _ _ _ _ _ => (ht _ _ _ _ _).to) (fun _ _ _ _ _ => (he _ _ _ _ _).to) hs)
end

/-! ### the forms one uses -/
section
variable {g : TG} {tt : TT} {te : TE} {Q : VK} {σ : St} {H : Hp} {K : PySem.W.Frag}
theorem x_comp {n : Nat} {wi : TI} : tComp n wi g tt te σ H Q = wi σ H fun J H1 => CompB J g tt te Q (σ ++ List.replicate n none) H1 := rfl
theorem x_true {QT : Bool → Hp → Prop} : tTrue σ H QT = QT true H := rfl
theorem compB_range {lo : Int} {n : Nat} (Pv : Nat → St → List V → Hp → Prop) (h0 : Pv 0 σ [] H) (hl : ∀ i σ ys H, Pv i σ ys H → ys.length ≤ sizeLine)
    (hs : ∀ i σ ys H, i < n → Pv i σ ys H → g (.int (lo + i)) σ H fun σ2 H2 => tt σ2 H2 fun b H3 => if b = true then te σ2 H3 fun y H4 => Pv (i + 1) σ2 (ys ++ [y]) H4 else Pv (i + 1) σ2 ys H3)
    (hd : ∀ σ ys H, Pv n σ ys H → ∀ r, H r = none → Q (.ref r) (upd H r (.lst ys))) : CompB (Itr lo n) g tt te Q σ H := by
  refine ⟨fun i m σ ys H => m = n - i ∧ i ≤ n ∧ Pv i σ ys H, ⟨n, by simp, Nat.zero_le _, h0⟩, ?_⟩
  rintro i m σ ys H ⟨rfl, hi, p⟩
  refine ⟨hl _ _ _ _ p, ?_⟩
  by_cases hlt : i < n
  · refine .inr ⟨hlt, Pv (i + 1), fun σ' ys' H' p' => ⟨n - (i + 1), by omega, rfl, hlt, p'⟩, fun x H' y => ?_⟩
    obtain ⟨e, y⟩ := y
    subst e y
    exact hs i σ ys _ hlt p
  · have e : i = n := by omega
    subst e
    exact .inl ⟨Nat.le_refl _, hd σ ys H p⟩
theorem compB_list {a : Addr} {xs : List V} (Pv : Nat → St → List V → Hp → Prop) (h0 : Pv 0 σ [] H) (hl : ∀ i σ ys H, Pv i σ ys H → ys.length ≤ sizeLine ∧ SqL K H a xs)
    (hs : ∀ i x σ ys H, xs[i]? = some x → Pv i σ ys H → g x σ H fun σ2 H2 => tt σ2 H2 fun b H3 => if b = true then te σ2 H3 fun y H4 => Pv (i + 1) σ2 (ys ++ [y]) H4 else Pv (i + 1) σ2 ys H3)
    (hd : ∀ σ ys H, Pv xs.length σ ys H → ∀ r, H r = none → Q (.ref r) (upd H r (.lst ys))) : CompB (Itl K a) g tt te Q σ H := by
  refine ⟨fun i m σ ys H => m = xs.length - i ∧ i ≤ xs.length ∧ Pv i σ ys H, ⟨xs.length, by simp, Nat.zero_le _, h0⟩, ?_⟩
  rintro i m σ ys H ⟨rfl, hi, p⟩
  refine ⟨(hl _ _ _ _ p).1, ?_⟩
  have q := (hl _ _ _ _ p).2
  by_cases hlt : i < xs.length
  · refine .inr ⟨⟨xs, xs[i], q, by simp [hlt]⟩, Pv (i + 1), fun σ' ys' H' p' => ⟨xs.length - (i + 1), by omega, rfl, hlt, p'⟩, fun x H' y => ?_⟩
    obtain ⟨e, y⟩ := y
    subst e
    exact hs i x σ ys _ (y xs q) p
  · have e : i = xs.length := by omega
    subst e
    exact .inl ⟨⟨xs, q, Nat.le_refl _⟩, hd σ ys H p⟩
theorem compB_tup {a : Addr} {xs : List V} (Pv : Nat → St → List V → Hp → Prop) (h0 : Pv 0 σ [] H) (hl : ∀ i σ ys H, Pv i σ ys H → ys.length ≤ sizeLine ∧ SqT K H a xs)
    (hs : ∀ i x σ ys H, xs[i]? = some x → Pv i σ ys H → g x σ H fun σ2 H2 => tt σ2 H2 fun b H3 => if b = true then te σ2 H3 fun y H4 => Pv (i + 1) σ2 (ys ++ [y]) H4 else Pv (i + 1) σ2 ys H3)
    (hd : ∀ σ ys H, Pv xs.length σ ys H → ∀ r, H r = none → Q (.ref r) (upd H r (.lst ys))) : CompB (Itt K a) g tt te Q σ H := by
  refine ⟨fun i m σ ys H => m = xs.length - i ∧ i ≤ xs.length ∧ Pv i σ ys H, ⟨xs.length, by simp, Nat.zero_le _, h0⟩, ?_⟩
  rintro i m σ ys H ⟨rfl, hi, p⟩
  refine ⟨(hl _ _ _ _ p).1, ?_⟩
  have q := (hl _ _ _ _ p).2
  by_cases hlt : i < xs.length
  · refine .inr ⟨⟨xs, xs[i], q, by simp [hlt]⟩, Pv (i + 1), fun σ' ys' H' p' => ⟨xs.length - (i + 1), by omega, rfl, hlt, p'⟩, fun x H' y => ?_⟩
    obtain ⟨e, y⟩ := y
    subst e
    exact hs i x σ ys _ (y xs q) p
  · have e : i = xs.length := by omega
    subst e
    exact .inl ⟨⟨xs, q, Nat.le_refl _⟩, hd σ ys H p⟩
end
end L2

set_option Elab.async false
set_option linter.all false
set_option maxRecDepth 100000
set_option maxHeartbeats 4000000
namespace L2
open PySem PySem.Spec PyProof.Rows

/-! ### (a, b, ..) = a list of that length -/
section
variable {prog : Program} {w : World} {A : Around} {E : Value → Shared → Prop}
theorem draw_list {it l : Addr} {items : Array Value} (hne : l ≠ it) : ∀ (n i : Nat) (s : Shared) (Q : List Value → Shared → Prop), s.heap.IsListIter it l i → s.heap.IsList l items → i + n ≤ items.size →
    (∀ h', h'.IsListIter it l (i + n) → Heap.SameBut it s.heap h' → Q ((items.toList.drop i).take n) { s with heap := h' }) → wpAny (model prog w) A (draw (.ref it) n) Q E s
  | 0, i, s, Q, hit, _, _, hQ => by
    show wpAny _ _ (pure []) Q E s
    exact wpAny_pure (by simpa using hQ s.heap hit (Heap.SameBut.refl ..))
  | n + 1, i, s, Q, hit, ht, hle, hQ => by
    have hlt : i < items.size := by omega
    show wpAny _ _ (pyNext (.ref it) >>= _) Q E s
    refine wpAny_bind (wpAny_pyNext_list_item hit ht (x := items[i]) (by simp [hlt]) fun h₁ hit₁ hs₁ => ?_)
    refine wpAny_bind (wpAny_holding (draw_list hne n (i + 1) _ _ hit₁ (ht.extBut hs₁.extBut hne) (by omega) fun h₂ hit₂ hs₂ => wpAny_pure ?_))
    have hd : items.toList.drop i = items[i] :: items.toList.drop (i + 1) := by simp [List.drop_eq_getElem_cons, hlt]
    have := hQ h₂ (by rw [show i + (n + 1) = i + 1 + n by omega]; exact hit₂) (hs₁.trans hs₂)
    rw [hd, List.take_succ_cons] at this
    exact this
theorem unpackItems_list {s : Shared} {l : Addr} {items : Array Value} {Q : List Value → Shared → Prop} (hh : A.handled = none) (ht : s.heap.IsList l items)
    (hQ : ∀ h', Heap.ExtBut s.heap.objs.size s.heap h' → Q items.toList { s with heap := h' }) : wpAny (model prog w) A (unpackItems (.ref l) items.size none) Q E s := by
  have hlt : l ≠ s.heap.objs.size := by obtain ⟨o, ho, _⟩ := ht; exact Nat.ne_of_lt (Heap.lt_size ho)
  have htp : ∀ ob, (s.heap.push ob).IsList l items := fun ob => by obtain ⟨o, ho, r⟩ := ht; exact ⟨o, Heap.get?_push_of_some _ ho, r⟩
  unfold unpackItems
  refine wpAny_bind ?_
  · unfold notIterableAtAll
    refine wpAny_bind (wpAny_specialOf ht.typeIs slot_list_iter.lookup ?_)
    refine wpAny_pure ?_
    simp only [Bool.false_eq_true, if_false]
    refine wpAny_bind (wpAny_holding (wpAny_pyIter_list ht ?_))
    refine wpAny_bind (wpAny_holding (draw_list hlt items.size 0 _ _ ⟨_, Heap.get?_push_size _ rfl, rfl, rfl⟩ (htp _) (by omega) fun h₁ hit₁ hs₁ => ?_))
    have hall : List.take items.size (List.drop 0 items.toList) = items.toList := by
      rw [List.drop_zero]; exact List.take_of_length_le (by simp)
    rw [hall]
    rw [if_neg (by simp)]
    have ht₁ : h₁.IsList l items := (htp _).extBut hs₁.extBut hlt
    refine wpAny_bind (wpAny_holding (wpAny_pyNext_list_end hh hit₁ ht₁ (by simp) fun h₂ he₂ => ?_))
    simp only [Option.isSome_none, Bool.false_eq_true, if_false]
    refine wpAny_pure (hQ h₂ fun b o hb e => he₂ b o hb (hs₁.extBut b o hb (Heap.get?_push_of_some _ e)))
end
section
variable {X : Cx} {pos : Pos}
def gLst (K : PySem.W.Frag) (n : Nat) (t : TGs) : TG := fun v σ H Q => ∃ a xs, v = .ref a ∧ SqL K H a xs ∧ xs.length = n ∧ t xs σ H Q
theorem pg_lst {es : List Expr} {k : Nat} {t : TGs} {n : Nat} (hc : X.calm = true) (h : PGs X es t)
    (hn : (assignEach es X.env).length = n := by rfl) (hst : (assignEach es X.env).findIdx? (·.1) = none := by rfl) : PG X (.Tuple es k pos) (gLst X.K n t) := by
  intro pins s σ H v u Q I r hw
  obtain ⟨a, xs, e1, hq, hl, hw⟩ := hw
  subst e1
  cases r
  obtain ⟨its, rv, ht, hz⟩ := I.list hq
  rw [assign_Tuple]
  refine wpAny_bind (wpAny_standAt ?_)
  unfold unpack
  have e : (assignEach es X.env).length = its.toArray.size := by rw [hn, ← hl, rv.length, List.size_toArray]
  rw [e, hst]
  refine wpAny_bind (wpAny_holding (unpackItems_list (I.ok.hd hc) ht.isList fun h' hx => ?_))
  have I1 : Inv X pins σ H { s with heap := h' } := I.kept (t' := s.toks) fun b o e => hx b o (Nat.ne_of_lt (Heap.lt_size e)) e
  exact h pins _ σ H xs _ Q I1 (by simpa using rv) hw
theorem q_pg_lst {es : List Expr} {k : Nat} {t : TGs} {n : Nat} (hc : X.calm = true) (h : QGs X es t)
    (hn : (assignEach es X.env).length = n := by rfl) (hst : (assignEach es X.env).findIdx? (·.1) = none := by rfl) : QG X (.Tuple es k pos) (gLst X.K n t) := .of (pg_lst hc h.to hn hst)
theorem x_glst {K : PySem.W.Frag} {n : Nat} {gs : TGs} {v : V} {σ : St} {H : Hp} {QS : St → Hp → Prop} : gLst K n gs v σ H QS = ∃ a xs, v = .ref a ∧ SqL K H a xs ∧ xs.length = n ∧ gs xs σ H QS := rfl

/-! ### xs[::-1] -/
def tRev (K : PySem.W.Frag) (te : TE) : TE := fun σ H Q => te σ H fun x H1 => ∃ a xs, x = .ref a ∧ SqL K H1 a xs ∧ ∀ p, H1 p = none → Q (.ref p) (upd H1 p (.lst xs.reverse))
theorem fm_some {α β : Type} {f : α → Option β} {g : α → β} : ∀ {l : List α}, (∀ x ∈ l, f x = some (g x)) → l.filterMap f = l.map g
  | [], _ => rfl
  | x :: l, h => by rw [List.filterMap_cons, h x List.mem_cons_self, List.map_cons, fm_some fun y hy => h y (List.mem_cons_of_mem _ hy)]
theorem rangeRev {α : Type} (l : List α) : ((List.range l.length).map fun (k : Nat) => (((l.length : Int) - 1) + -1 * (k : Int)).toNat).filterMap (fun i => l[i]?) = l.reverse := by
  rw [List.filterMap_map]
  cases l with
  | nil => rfl
  | cons a l' =>
    generalize hl : a :: l' = l
    rw [fm_some (g := fun k => (l.reverse[k]?).getD a)]
    · apply List.ext_getElem?
      intro i
      rw [List.getElem?_map]
      by_cases hi : i < l.length
      · rw [List.getElem?_range hi]
        have : i < l.reverse.length := by rw [List.length_reverse]; exact hi
        simp only [Option.map_some, List.getElem?_eq_getElem this, Option.getD_some]
      · rw [List.getElem?_eq_none (by simpa using hi), List.getElem?_eq_none (by simpa using hi)]; rfl
    · intro k hk
      have := List.mem_range.mp hk
      show l[(((l.length : Int) - 1) + -1 * (k : Int)).toNat]? = _
      rw [show (((l.length : Int) - 1) + -1 * (k : Int)).toNat = l.length - 1 - k by omega]
      rw [List.getElem?_reverse this, List.getElem?_eq_getElem (by omega : l.length - 1 - k < l.length)]
      rfl
theorem slicePick_rev (its : List Value) : slicePick its.toArray none none (some (-1)) = its.reverse.toArray := by
  unfold slicePick
  have e : sliceBounds none none (some (-1)) its.toArray.size = ((its.length : Int) - 1, -1, -1) := by
    rw [List.size_toArray]; rfl
  rw [e]
  unfold sliceRange
  have e2 : (if (-1 : Int) > 0 then (if (its.length : Int) - 1 < -1 then ((-1 : Int) - ((its.length : Int) - 1) + -1 - 1) / -1 else 0) else (if (its.length : Int) - 1 > -1 then ((its.length : Int) - 1 - -1 - -1 - 1) / (- -1) else 0)).toNat = its.length := by
    rw [if_neg (by decide), show (- -1 : Int) = 1 by decide, Int.ediv_one]
    split <;> omega
  simp only [e2]
  congr 1
  have := rangeRev its
  simpa using this
theorem pe_rev {e se : Expr} {te : TE} {p2 : Pos} (he : PE X e te) (hs : PE X se (tC (.int (-1)))) : PE X (.Subscript e (.Slice none none (some se) p2) pos) (tRev X.K te) := by
  intro pins s σ H Q I h
  refine Subscript_ (thn (he pins s σ H _ I h) fun v s1 ⟨x, H1, I1, r1, q1⟩ => ?_)
  obtain ⟨a, xs, rfl, hx, q⟩ := q1
  cases r1
  refine wpAny_Slice ?_
  rw [evalPart_none]
  refine wpAny_pure ?_
  refine wpAny_pure ?_
  rw [evalPart_some]
  refine thn (hs pins s1 σ H1 (fun y H2 => y = .int (-1) ∧ H2 = H1) I1 ⟨rfl, rfl⟩) fun sv s3 ⟨y, H3, I3, r3, e3⟩ => ?_
  obtain ⟨rfl, rfl⟩ := e3
  obtain ⟨t, rfl⟩ := r3
  have I4 : Inv X pins σ H3 { s3 with heap := s3.heap.push { cls := .type "slice", data := .fields #[.none, .none, .int (-1) t] } } := I3.kept (t' := s3.toks) fun b ob q => Heap.get?_push_of_some _ q
  obtain ⟨its, r, ht, hz⟩ := I4.list hx
  have hlen := r.length
  show wpAny (model X.prog X.w) X.A (subscriptTail e (.Slice none none (some se) p2) (.ref a) (.ref s3.heap.objs.size)) (EP X pins σ Q) X.xe { s3 with heap := s3.heap.push { cls := .type "slice", data := .fields #[.none, .none, .int (-1) t] } }
  refine tail_any (ops := [.ref a, .ref s3.heap.objs.size]) ht.isList.typeIs slot_list_getitem.lookup ?_ (by with_unfolding_all rfl)
  refine wpAny_getItem_list_slice ht.isList (Heap.IsSliceOf.new ..) .none .none (.int (-1) t) (by simp) ?_ (by rw [List.size_toArray] <;> omega)
  rw [slicePick_rev]
  refine ⟨.ref _, _, I4.laid (t' := s3.toks) (o := .lst xs.reverse) (fun b ob q => Heap.get?_push_of_some _ q) (Nat.le_refl _) ?_, rfl, q _ (I4.hok.fresh (Nat.le_refl _))⟩
  exact ⟨by rw [List.length_reverse]; exact hz, _, 0, r.reverse, Heap.get?_push_size _ rfl⟩
theorem q_pe_rev {e se : Expr} {te : TE} {p2 : Pos} (he : QE X e te) (hs : QE X se (tC (.int (-1)))) : QE X (.Subscript e (.Slice none none (some se) p2) pos) (tRev X.K te) := .of (pe_rev he.to hs.to)
theorem x_rev {K : PySem.W.Frag} {te : TE} {σ : St} {H : Hp} {Q : VK} : tRev K te σ H Q = te σ H fun x H1 => ∃ a xs, x = .ref a ∧ SqL K H1 a xs ∧ ∀ p, H1 p = none → Q (.ref p) (upd H1 p (.lst xs.reverse)) := rfl
/-- -1, written -/
theorem pe_m1 {j : Nat} {p1 : Pos} : PE X (.UnaryOp .USub (.Constant (.int 1) j p1) pos) (tC (.int (-1))) := by
  intro pins s σ H Q I h
  exact pe_un un_neg pe_int pins s σ H Q I ⟨1, rfl, h⟩
theorem q_pe_m1 {j : Nat} {p1 : Pos} : QE X (.UnaryOp .USub (.Constant (.int 1) j p1) pos) (tC (.int (-1))) := .of pe_m1

/-! ### xs.count(x), flat items -/
def rCount (K : PySem.W.Frag) : V → List V → Hp → VK → Prop := fun x vs H Q => ∃ l xs y, x = .ref l ∧ vs = [y] ∧ SqL K H l xs ∧ flatV y = true ∧ xs.all flatV = true ∧ Q (.int (xs.countP fun z => eqV z y : Nat)) H
theorem countP_eqU {x : V} : ∀ {xs : List V} {us : List Value}, Vals xs us → xs.all flatV = true → us.countP (eqU x) = xs.countP fun y => eqV y x
  | _, _, .nil, _ => rfl
  | y :: xs, u :: us, .cons r t, f => by
    rw [List.all_cons, Bool.and_eq_true] at f
    rw [List.countP_cons, List.countP_cons, eqU_of r f.1, countP_eqU t f.2]
theorem mt_count : MtR X "list.count" (rCount X.K) := by
  intro pins s σ H x vs v us Q I rx rv h
  obtain ⟨l, xs, y, rfl, rfl, hq, fy, fs, q⟩ := h
  cases rx
  obtain ⟨u, rfl, ru⟩ := rv.one
  obtain ⟨its, r, ⟨⟨oc, od, odt, osl⟩, nn, e, hc, hd, hdt⟩, hz⟩ := I.list hq
  have hc : oc = .type "list" := hc
  have hdt : odt = .seq its.toArray nn := hdt
  subst hc hdt
  refine call_meets F.slot_list_count ⟨_, e, rfl⟩ F.entry_list_count (F.args_list_count_2 _ _) (SeqAt.list_countAt l its.toArray nn od osl u (eqU y)) ⟨e, fun w hw => mem_eqAt ru fy r fs w (by simpa using hw), ?_⟩
  refine ⟨.int _, H, I.tok _, ⟨_, rfl⟩, ?_⟩
  rw [countP_eqU r fs]
  exact q
end
section
variable {K : PySem.W.Frag} {σ : St} {H : Hp} {Q : VK} {to te : TE} {t : TA} {tl th : TO} {T : String}
theorem x_bm {r : V → List V → Hp → VK → Prop} : tBM K T r to t σ H Q = to σ H fun x H1 => tyV K T x H1 ∧ t σ H1 fun xs H2 => r x xs H2 Q := rfl
theorem x_bm0 {r : V → List V → Hp → VK → Prop} : tBM0 K T r to σ H Q = to σ H fun x H1 => tyV K T x H1 ∧ r x [] H1 Q := rfl
theorem x_sl {r : V → Option Int → Option Int → Hp → VK → Prop} : tSl r te tl th σ H Q = te σ H fun x H1 => tl σ H1 fun l H2 => th σ H2 fun u H3 => r x l u H3 Q := rfl
theorem x_nop {R : Option Int → Hp → Prop} : tNoPart σ H R = R none H := rfl
theorem x_part {R : Option Int → Hp → Prop} : tPart te σ H R = te σ H fun x H1 => ∃ i, x = .int i ∧ R (some i) H1 := rfl
end
/-- name = a comprehension on the same row: stored within it -/
theorem swaps_true {env : Env} {elt : Expr} {gs : List Comprehension} {sc : Scope} {pos px : Pos} {x : Str} {line : Nat} (h1 : env.blockKind = .function) (h2 : env.kindOf x = some .local) (h3 : (px.line == pos.line) = true)
    (h4 : (sc.names.any fun p => p.1 == x && (p.2 == .local || p.2 == .cell)) = false) : swapsWith (.ListComp elt gs sc pos) (some (.Name x px)) line env = pure true := by
  unfold swapsWith
  show (pure (env.blockKind == .function && env.kindOf x == some .local && px.line == pos.line && !(sc.names.any fun p => p.1 == x && (p.2 == .local || p.2 == .cell))) : Sem Bool) = pure true
  rw [h1, h2, h3, h4]
  rfl
end L2

set_option Elab.async false
set_option linter.all false
set_option maxRecDepth 100000
set_option maxHeartbeats 4000000
namespace L2
open PySem PySem.Spec PyProof.Rows PySem.W
section
variable {X : Cx} {tg : Expr}
/-! ### a list or a tuple, walked -/
def iSeq (K : PySem.W.Frag) (tl : TE) : TI := fun σ H R => tl σ H fun x H1 => ∃ a, x = .ref a ∧ (((∃ xs, SqL K H1 a xs) ∧ R (Itl K a) H1) ∨ ((∃ xs, SqT K H1 a xs) ∧ R (Itt K a) H1))
theorem pi_seq {l : Expr} {tl : TE} (hl : PE X l tl) : PI X tg l (iSeq X.K tl) := by
  intro pins s σ H R I h
  refine thn (hl pins s σ H _ I h) fun v s1 ⟨x, H1, I1, r1, q1⟩ => ?_
  obtain ⟨a, rfl, ⟨⟨xs, hq⟩, q⟩ | ⟨⟨xs, hq⟩, q⟩⟩ := q1
  · cases r1
    obtain ⟨its, rv, p, hz⟩ := I1.list hq
    refine wpAny_pyIter_list p.isList ⟨s1.heap.objs.size, [s1.heap.objs.size], _, _, H1, rfl, I1.kept (t' := s1.toks) fun b o e => Heap.get?_push_of_some _ e, turn_list a _, ⟨_, Heap.get?_push_size _ rfl, rfl, rfl⟩, fun b hb => ?_, q⟩
    rw [List.mem_singleton.mp hb]
    exact I1.fpOk (Nat.le_refl _) I1.fresh
  · cases r1
    obtain ⟨its, rv, p, hz⟩ := I1.tuple hq
    refine wpAny_pyIter_tuple (show s1.heap.IsTuple a its.toArray from p) ⟨s1.heap.objs.size, [s1.heap.objs.size], _, _, H1, rfl, I1.kept (t' := s1.toks) fun b o e => Heap.get?_push_of_some _ e, turn_tuple a _, ⟨_, Heap.get?_push_size _ rfl, rfl, rfl⟩, fun b hb => ?_, q⟩
    rw [List.mem_singleton.mp hb]
    exact I1.fpOk (Nat.le_refl _) I1.fresh
theorem q_pi_seq {l : Expr} {tl : TE} (hl : QE X l tl) : QI X tg l (iSeq X.K tl) := .of (pi_seq hl.to)
theorem x_iseq {K : PySem.W.Frag} {te : TE} {σ : St} {H : Hp} {R : It → Hp → Prop} : iSeq K te σ H R = te σ H fun x H1 => ∃ a, x = .ref a ∧ (((∃ xs, SqL K H1 a xs) ∧ R (Itl K a) H1) ∨ ((∃ xs, SqT K H1 a xs) ∧ R (Itt K a) H1)) := rfl

/-! ### a new object, laid behind a call of which only is known that it keeps all -/
theorem Inv.free_at {pins : List (Addr × Obj)} {σ : St} {H : Hp} {s : Shared} {a : Addr} (I : Inv X pins σ H s) (hf : ∀ b o, s.heap.get? b = some o → b ≠ a) : H a = none := by
  cases e : H a with
  | none => rfl
  | some u =>
    obtain ⟨ob, z⟩ := (I.hok a u e).is
    exact absurd rfl (hf a ob z)
theorem Inv.laid2 {pins : List (Addr × Obj)} {σ : St} {H : Hp} {s : Shared} {a : Addr} {o : HO} {t' : Nat} {h' : Heap} (I : Inv X pins σ H s) (k : ∀ b u, s.heap.get? b = some u → h'.get? b = some u) (hf : ∀ b o, s.heap.get? b = some o → b ≠ a)
    (new : ObjOk X.prog X.w (upd H a o) h' a o) : Inv X pins σ (upd H a o) { s with heap := h', toks := t' } := by
  have hn := I.free_at hf
  refine I.un ⟨fun b u e _ _ _ => k b u e, fun b u e _ _ _ => ⟨u.slots, k b u e⟩, fun b u e n _ => by rw [upd_ne (hf b u e)]; exact n, fun b u e _ => ⟨u, k b u e⟩, fun b xs e => by rw [upd_ne (ne_of_none e hn)]; exact e, fun b u v e => by rw [upd_ne (ne_of_none e hn)]; exact e,
    fun b ps e => ⟨#[], by rw [upd_ne (ne_of_none e hn), e]; simp⟩⟩ fun b u e => ?_
  by_cases hb : b = a
  · subst hb; rw [upd_same] at e; cases e; exact new
  · rw [upd_ne hb] at e
    exact (I.hok b u e).stay (fun c v _ q => k c v q) (fun c q => by rw [upd_ne (ne_of_none q hn)]; exact q) fun c xs q => by rw [upd_ne (ne_of_none q hn)]; exact q

/-! ### sorted, of texts -/
theorem strsAre_of {ss : List Str} : ∀ {us : List Value}, Vals (ss.map V.str) us → StrsAre us ss := by
  induction ss with
  | nil => intro us r; rw [List.map_nil] at r; cases r; exact .nil
  | cons n ns ih =>
    intro us r
    rw [List.map_cons] at r
    cases r with
    | cons r1 r2 =>
      obtain ⟨t, e⟩ := r1
      subst e
      exact .cons n t (ih r2)
theorem of_strsAre : ∀ {ss : List Str} {us : List Value}, StrsAre us ss → Vals (ss.map V.str) us
  | _, _, .nil => .nil
  | _, _, .cons y t r => .cons ⟨t, rfl⟩ (of_strsAre r)
def rSorted (K : PySem.W.Frag) : List V → Hp → VK → Prop := fun vs H Q => ∃ a ss, vs = [.ref a] ∧ (SqL K H a (ss.map V.str) ∨ ∃ kvs, H a = some (.dK kvs) ∧ kvs.map (·.1) = ss.map Sum.inr) ∧ ss.length < 64 ∧
  ∀ r ss', H r = none → ss'.Perm ss → sortedS ss' = true → Q (.ref r) (upd H r (.lst (ss'.map V.str)))
theorem line64 : 64 ≤ sizeLine := by rw [sizeLine_eq]; decide
/-- the keys of a dict, as they are told -/
theorem keys_vals {P : Program} {w : World} {ss : List Str} {vs : List (Key × Value)} {acc : Array Value} (e : vs.map (·.1) = ss.map Sum.inr)
    (h : ItemsOf (fun i v => ∃ k x, vs[i]? = some (k, x) ∧ (mixKind P w).is k v = true) acc vs.length) : StrsAre acc.toList ss := by
  obtain ⟨hs, hi⟩ := h
  have hl : ss.length = vs.length := by have := congrArg List.length e; simpa using this.symm
  have key : ∀ (j : Nat) (v : Value), acc.toList[j]? = some v → ∃ (x : Str) (t : Tok), ss[j]? = some x ∧ v = Value.str x t := fun j v hv => by
    obtain ⟨k, x, hx, hk⟩ := hi j v (by rw [← Array.getElem?_toList]; exact hv)
    have hk : keyIs k v = true := hk
    have e2 : (vs.map (·.1))[j]? = some k := by rw [List.getElem?_map, hx]; rfl
    rw [e, List.getElem?_map] at e2
    cases ez : ss[j]? with
    | none => rw [ez] at e2; cases e2
    | some z =>
      rw [ez] at e2
      have e3 : k = Sum.inr z := (Option.some.inj e2).symm
      subst e3
      rcases keyIs_shape hk with ⟨i, t, q, _⟩ | ⟨y, t, q, rfl⟩
      · cases q
      · cases q
        exact ⟨z, t, rfl, rfl⟩
  have hl2 : acc.toList.length = ss.length := by rw [Array.length_toList, hs, hl]
  clear hs hi e hl
  generalize acc.toList = l at key hl2
  induction l generalizing ss with
  | nil =>
    cases ss with
    | nil => exact .nil
    | cons a b => cases hl2
  | cons v l ih =>
    cases ss with
    | nil => cases hl2
    | cons z ss =>
      obtain ⟨x, t, hx, rfl⟩ := key 0 v rfl
      have hx : z = x := Option.some.inj hx
      subst hx
      exact .cons z t (ih (fun j u hu => key (j + 1) u hu) (by simpa using hl2))
theorem call_sortedS (hc : X.calm = true) : CallR X (.builtin "sorted") (rSorted X.K) := by
  intro pins s σ H vs us Q I rv h
  obtain ⟨a, ss, rfl, hq, h64, q⟩ := h
  obtain ⟨u, rfl, ru⟩ := rv.one
  cases ru
  rcases hq with hq | ⟨kvs, hd, ek⟩
  · obtain ⟨its, r, p, hz⟩ := I.list hq
    have hS := strsAre_of r
    have hlen : its.length = ss.length := by have := r.length; simpa using this.symm
    refine sorted_strs p.isList hS (by omega) fun out ss' a1 a2 a3 => ?_
    obtain ⟨e, he⟩ := sortedAll_at s.heap its out
    refine ⟨.ref _, _, I.laid (t' := s.toks) (o := .lst (ss'.map V.str)) (fun b o z => sortedAll_old z) (Nat.le_succ _) ⟨?_, out.toList, e, of_strsAre a1, by simpa using he⟩, rfl, q _ ss' (I.hok.fresh (Nat.le_succ _)) a2 a3⟩
    rw [List.length_map, a2.length_eq]
    exact Nat.le_trans (Nat.le_of_lt h64) line64
  · obtain ⟨hz, lo, vs, kv, hD⟩ := dk_of I.hok hd
    obtain ⟨ep, hat⟩ := hD.dictAt
    have ek2 : vs.map (·.1) = ss.map Sum.inr := by rw [← kv.keys]; exact ek
    have hlen : vs.length = ss.length := by have := congrArg List.length ek2; simpa using this
    refine Calls.call_function_entry kind_sorted plain_sorted entry_sorted (args_sorted1 _) ?_
    unfold Builtin.«sorted»
    refine wpAny_bind (m := checkCount "sorted" 1 1 _) (wpAny_pure ?_)
    refine wpAny_bind (kdu_collect (A := X.A.in1) (kdl_dict (knd := mixKind X.prog X.w) (kvs := vs) (ep := ep) lo) (I.ok.hd hc) hat (by have := line64; omega) fun h' tk acc hk hacc => ?_)
    have hS := keys_vals ek2 hacc
    have hl2 : acc.toList.length = ss.length := by rw [Array.length_toList, hacc.1, hlen]
    refine wpAny_bind (wpAny_newList ?_ (by have := line64; omega))
    have hoL : (h'.push (seqObj "list" acc.toList.toArray 0)).get? h'.objs.size = some (seqObj "list" acc.toList.toArray 0) := Heap.get?_push_size _ rfl
    refine wpAny_bind (wpAny_holding (wpAny_call_entry slot_list_sort ⟨_, hoL, rfl⟩ entry_list_sort (list_sort_treeK strKind_oneLt hoL hS.keysOf (fun v₁ v₂ rest e => keyKind_strs (by rw [← e]; exact hS)) (by omega) fun st' hp hs => ⟨_, rfl, ?_⟩) (args_list_sort _)))
    obtain ⟨ss', b1, b2, b3⟩ := sorted_out_str hS hp hs
    obtain ⟨e, he⟩ := sortedHeap_at (vs := acc.toList) (n := 0) (out := (arrOf st').map (·.2)) hoL
    have hf : ∀ b o, s.heap.get? b = some o → b ≠ h'.objs.size := fun b o z => Nat.ne_of_lt (Heap.lt_size (hk b o z))
    refine wpAny_pure ⟨_, rfl, .ref _, _, I.laid2 (t' := tk) (a := h'.objs.size) (o := .lst (ss'.map V.str)) (fun b o z => ?_) hf ⟨?_, ((arrOf st').map (·.2)).toList, e, of_strsAre b1, ?_⟩, rfl, q _ ss' (I.free_at hf) b2 b3⟩
    · rw [sortedHeap_old (hf b o z) (by rw [size_push']; exact Nat.lt_succ_of_lt (Heap.lt_size (hk b o z)))]
      exact Heap.get?_push_of_some _ (hk b o z)
    · rw [List.length_map, b2.length_eq]
      exact Nat.le_trans (Nat.le_of_lt h64) line64
    · rw [Array.toArray_toList]
      exact he
/-- list(d): its keys -/
def rKeys : List V → Hp → VK → Prop := fun vs H Q => ∃ (a : Addr) (kvs : List (Key × V)) (ss : List Str), vs = [.ref a] ∧ H a = some (.dK kvs) ∧ kvs.map (·.1) = ss.map Sum.inr ∧ ∀ r, H r = none → Q (.ref r) (upd H r (.lst (ss.map V.str)))
theorem call_listD (hc : X.calm = true) : CallR X (.type "list") rKeys := by
  intro pins s σ H vs us Q I rv h
  obtain ⟨a, kvs, ss, rfl, hd, ek, q⟩ := h
  obtain ⟨u, rfl, ru⟩ := rv.one
  cases ru
  obtain ⟨hz, lo, vs, kv, hD⟩ := dk_of I.hok hd
  obtain ⟨ep, hat⟩ := hD.dictAt
  have ek2 : vs.map (·.1) = ss.map Sum.inr := by rw [← kv.keys]; exact ek
  have hlen : kvs.length = vs.length := by have := congrArg List.length kv.keys; simpa using this
  refine kdl_call (kdl_dict (knd := mixKind X.prog X.w) (kvs := vs) (ep := ep) lo) (I.ok.hd hc) hat (by rw [← hlen]; exact hz) fun h' tk acc c' hk hD' hacc => ?_
  have hS := keys_vals ek2 hacc
  refine ⟨.ref _, _, I.laid (t' := tk) (o := .lst (ss.map V.str)) hk (Nat.le_refl _) ⟨?_, acc.toList, c', of_strsAre hS, ?_⟩, rfl, q _ I.fresh⟩
  · have := congrArg List.length ek
    rw [List.length_map, List.length_map] at this
    rw [List.length_map, ← this]
    exact hz
  · rw [Array.toArray_toList]
    exact hD'

/-! ### texts: a slice, join -/
def rSlS : V → Option Int → Option Int → Hp → VK → Prop := fun x lo hi H Q => ∃ z, x = .str z ∧ z.length ≤ sizeLine ∧ Q (.str (Txt.slice z lo hi)) H
theorem part_val {v : Value} {o : Option Int} (p : IsPart v o) : ∃ l : Option (Int × Tok), v = partValue l ∧ l.map (·.1) = o := by
  cases p with
  | none => exact ⟨none, rfl, rfl⟩
  | int i t => exact ⟨some (i, t), rfl, rfl⟩
theorem sl_str : SlR X rSlS := by
  intro pins s σ H x v vl vu lo hi sl Q I rx hs pl pu h
  obtain ⟨z, rfl, hz, q⟩ := h
  obtain ⟨t, rfl⟩ := rx
  obtain ⟨l, rfl, rfl⟩ := part_val pl
  obtain ⟨u, rfl, rfl⟩ := part_val pu
  refine ⟨"str", _, F.slot_str_getitem.lookup, typeIs_str _ _ _, wpAny_getItem_str_slice (l := l) (u := u) (st := none) hs rfl ?_⟩
  exact post_val_or_str ⟨Nat.le_trans (Txt.slice_le z _ _) hz, fun t' k => ⟨.str _, H, I.tok _, ⟨t', rfl⟩, q⟩⟩
def lens (ss : List Str) : Nat := (ss.map (fun z => z.length)).sum
def rJoin (K : PySem.W.Frag) : V → List V → Hp → VK → Prop := fun x vs H Q => ∃ (l : Addr) (ss : List Str), x = .str ⟨#[]⟩ ∧ vs = [.ref l] ∧ SqL K H l (ss.map V.str) ∧ lens ss ≤ 1000 ∧ ∀ z : Str, z.length = lens ss → Q (.str z) H
theorem strsAre_pairs : ∀ {us : List Value} {ss : List Str}, StrsAre us ss → ∃ l : List (Str × Tok), us = strValues l ∧ l.map (·.1) = ss
  | _, _, .nil => ⟨[], rfl, rfl⟩
  | _, _, .cons y t r => by
    obtain ⟨l, e1, e2⟩ := strsAre_pairs r
    exact ⟨(y, t) :: l, by rw [e1]; rfl, by rw [List.map_cons, e2]⟩
theorem fold_lens : ∀ (ss : List Str) (n : Nat), ss.foldl (fun (a : Nat) (z : Str) => a + z.length + (⟨#[]⟩ : Str).length) n = n + lens ss
  | [], n => rfl
  | z :: ss, n => by
    rw [List.foldl_cons, fold_lens ss]
    show n + z.length + 0 + lens ss = n + (z.length + lens ss)
    omega
theorem mt_join : MtR X "str.join" (rJoin X.K) := by
  intro pins s σ H x vs v us Q I rx rv h
  obtain ⟨l, ss, rfl, rfl, hq, hl, q⟩ := h
  obtain ⟨t, rfl⟩ := rx
  obtain ⟨u, rfl, ru⟩ := rv.one
  cases ru
  obtain ⟨its, r, p, hz⟩ := I.list hq
  obtain ⟨ps, rfl, e2⟩ := strsAre_pairs (strsAre_of r)
  have h1000 : 1000 ≤ sizeLine := by rw [sizeLine_eq]; decide
  have hlong : Builtin.Str.tooLong ((ps.map (·.1)).toArray.foldl (· + ·.length + (⟨#[]⟩ : Str).length) 0) = false := by
    have e : (ps.map (·.1)).toArray.foldl (fun (a : Nat) (z : Str) => a + z.length + (⟨#[]⟩ : Str).length) 0 = lens ss := by
      rw [List.foldl_toArray, fold_lens, e2, Nat.zero_add]
    unfold Builtin.Str.tooLong
    rw [e]
    exact decide_eq_false (by omega)
  refine call_meets F.slot_str_join (typeIs_str _ _ _) F.entry_str_join (F.args_str_join_2 _ _) (meets_str_join_list ⟨#[]⟩ t l ps hlong) ⟨p.isList, ?_⟩
  have hg : (Builtin.Str.glued ⟨#[]⟩ (ps.map (·.1))).length = lens ss := by
    rw [size_glued, e2]
    show lens ss + (ss.length - 1) * 0 = lens ss
    omega
  have key : ∀ (z : Str) (t' : Tok) (k : Nat), z.length = lens ss → EP X pins σ Q (.str z t') { s with toks := k } := fun z t' k e => ⟨.str z, H, I.tok _, ⟨t', rfl⟩, q z e⟩
  have fin : (Made.str (Builtin.Str.glued ⟨#[]⟩ (ps.map (·.1)))).post (fun v s' => EP X pins σ Q v s') s := ⟨by rw [hg]; omega, key _ _ _ hg⟩
  cases ps with
  | nil => exact fin
  | cons a ps =>
    cases ps with
    | nil =>
      subst e2
      exact key a.1 a.2 s.toks (by show a.1.length = a.1.length + 0; omega)
    | cons b ps => exact fin
end
end L2

set_option Elab.async false
set_option linter.all false
set_option maxRecDepth 100000
set_option maxHeartbeats 4000000
namespace L2
open PySem PySem.Spec PyProof.Rows PySem.W
/-! ### zip of two tuples -/
section
variable {prog : Program} {w : World} {A : Around} {E : Value → Shared → Prop} {s : Shared}
/-- one step of a tuple's iterator, within zip -/
theorem tupNext {it t : Addr} {i : Nat} {its : Array Value} {v : Value} {Q : Value → Shared → Prop} (hi : s.heap.IsTupleIter it t i) (ht : s.heap.IsTuple t its) (hv : its[i]? = some v)
    (q : ∀ h', h'.IsTupleIter it t (i + 1) → Heap.SameBut it s.heap h' → Q v { s with heap := h' }) : wpAny (model prog w) A (Builtin.SmallTypes.nextOf (.ref it)) Q E s := by
  obtain ⟨o, e, c, d⟩ := id hi
  obtain ⟨ot, et, _, nt, dt⟩ := ht
  unfold Builtin.SmallTypes.nextOf
  refine wpAny_bind (wpAny_callSpecial?_slot (name := Str.ofString "__next__") hi.typeIs F.slot_tuple_iterator_next (wpAny_call_entry F.slot_tuple_iterator_next hi.typeIs F.entry_tuple_iterator_next ?_ (F.args_tuple_iterator_next_1 _)))
  show wpAny _ _ (field (.ref it) 0 >>= _) _ _ s
  refine wpAny_bind (wpAny_field e d (x := .ref t) rfl ?_)
  show wpAny _ _ (if (Value.ref t == Value.none) = true then _ else _) _ _ s
  rw [if_neg (show ¬ ((Value.ref t == Value.none) = true) from Bool.false_ne_true)]
  show wpAny _ _ (field (.ref it) 1 >>= _) _ _ s
  refine wpAny_bind (wpAny_field e d (x := .int i 0) rfl ?_)
  show wpAny _ _ (seqItems? (.ref t) >>= _) _ _ s
  refine wpAny_bind (wpAny_seqItems et dt ?_)
  simp only [Int.toNat_natCast, hv]
  refine wpAny_bind (wpAny_setField e d (by simp) (wpAny_pure ⟨v, rfl, wpAny_pure (q _ ?_ (Heap.SameBut.update ..))⟩))
  exact ⟨_, Heap.get?_update_self _ e (Obj.isFreed_of_fields (Obj.data_mapFields d _)), (Obj.cls_mapFields ..).trans c, by rw [Obj.data_mapFields d]; simp [rawInt]⟩
theorem tupStop {it t : Addr} {i : Nat} {its : Array Value} {Q : Value → Shared → Prop} (hh : A.handled = none) (hi : s.heap.IsTupleIter it t i) (ht : s.heap.IsTuple t its) (hv : its[i]? = none)
    (q : ∀ h' e, Heap.ExtBut it s.heap h' → (∃ o, h'.get? e = some o ∧ o.cls = .type "StopIteration") → E (.ref e) { s with heap := h' }) : wpAny (model prog w) A (Builtin.SmallTypes.nextOf (.ref it)) Q E s := by
  obtain ⟨o, e, c, d⟩ := id hi
  obtain ⟨ot, et, _, nt, dt⟩ := ht
  unfold Builtin.SmallTypes.nextOf
  refine wpAny_bind (wpAny_callSpecial?_slot (name := Str.ofString "__next__") hi.typeIs F.slot_tuple_iterator_next (wpAny_call_entry F.slot_tuple_iterator_next hi.typeIs F.entry_tuple_iterator_next ?_ (F.args_tuple_iterator_next_1 _)))
  show wpAny _ _ (field (.ref it) 0 >>= _) _ _ s
  refine wpAny_bind (wpAny_field e d (x := .ref t) rfl ?_)
  show wpAny _ _ (if (Value.ref t == Value.none) = true then _ else _) _ _ s
  rw [if_neg (show ¬ ((Value.ref t == Value.none) = true) from Bool.false_ne_true)]
  show wpAny _ _ (field (.ref it) 1 >>= _) _ _ s
  refine wpAny_bind (wpAny_field e d (x := .int i 0) rfl ?_)
  show wpAny _ _ (seqItems? (.ref t) >>= _) _ _ s
  refine wpAny_bind (wpAny_seqItems et dt ?_)
  simp only [Int.toNat_natCast, hv]
  refine wpAny_bind (wpAny_rule (wpAny_bind (wpAny_setField e d (by simp) ?_)))
  show wpAny _ _ (newExc (.type "StopIteration") [] >>= _) _ _ _
  refine wpAny_bind ?_
  simp only [newExc, newTuple]
  refine wpAny_bind (wpAny_newObj_type ?_ (by size_fits))
  refine wpAny_bind (m := firstArgMember _ _) (wpAny_of_eq (a := Value.none) (by first | rfl | (simp only [firstArgMember]; rfl)) ?_)
  refine wpAny_newObj_type ?_ (by size_fits)
  simp only [raiseNew]
  refine wpAny_bind (wpAny_handled ?_)
  first | rw [show A.in1.handled = none from hh] | rw [hh]
  refine wpAny_bind (wpAny_pure (wpAny_throw ?_))
  exact q _ _ (((Heap.SameBut.update ..).extBut.push _).push _) ⟨_, Heap.get?_push_size _ rfl, rfl⟩

/-- the zip at z (its iterators told by TI, its pair at TO) at turn k of the tuples at l and m -/
structure ZipAt (h : Heap) (z TI TO i j l m : Addr) (k : Nat) (f0 : Value) : Prop where
  hz : IsZip h z TI TO f0
  hi : IsPair h TI (.ref i) (.ref j)
  ho : ∃ a b, IsPair h TO a b
  h1 : h.IsTupleIter i l k
  h2 : h.IsTupleIter j m k
theorem zipNext {z TI TO i j l m : Addr} {k : Nat} {xs ys : Array Value} {x y : Value} {Q : Value → Shared → Prop} (D : ZipApart z TI TO i j l m) (Z : ZipAt s.heap z TI TO i j l m k .none)
    (hl : s.heap.IsTuple l xs) (hm : s.heap.IsTuple m ys) (hx : xs[k]? = some x) (hy : ys[k]? = some y)
    (q : ∀ h', ZipAt h' z TI TO i j l m (k + 1) (rawInt s.heap.objs.size) → IsPair h' s.heap.objs.size x y → (∀ c o, c ≠ z → c ≠ TO → c ≠ i → c ≠ j → s.heap.get? c = some o → h'.get? c = some o) → Q (.ref s.heap.objs.size) { s with heap := h' }) :
    wpAny (model prog w) A (Builtin.«zip.__next__» ⟨[.ref z], []⟩) (fun fin s' => ∃ v, fin = .done (.ret v) ∧ Q v s') E s := by
  obtain ⟨hz, hTI, ⟨a, b, hTO⟩, g1, g2⟩ := Z
  show wpAny _ _ (field (.ref z) 2 >>= _) _ _ _
  refine wpAny_bind (wpAny_field hz rfl (x := .bool false) rfl ?_)
  show wpAny _ _ (field (.ref z) 3 >>= _) _ _ _
  refine wpAny_bind (wpAny_field hz rfl (x := .ref TI) rfl (wpAny_bind (wpAny_seqItems hTI rfl ?_)))
  show wpAny _ _ (Builtin.SmallTypes.ownedTupleIsFree (.ref z) >>= _) _ _ _
  refine wpAny_bind ?_
  unfold Builtin.SmallTypes.ownedTupleIsFree
  refine wpAny_bind (wpAny_field hz rfl (x := .none) rfl (wpAny_pure ?_))
  simp only [if_true]
  refine wpAny_bind (wpAny_rule (wpAny_bind (wpAny_field hz rfl (x := .ref TO) rfl (wpAny_bind (wpAny_setField_rec hz (by simp) fun k1 hz1 s1 => ?_)))))
  have hz1 : IsZip k1 z TI TO .ellipsis := hz1
  refine wpAny_bind ?_
  simp only [List.zipIdx_cons, List.zipIdx_nil, List.forIn_cons, List.forIn_nil]
  refine wpAny_bind (wpAny_bind (wpAny_onRaise ?_))
  show wpAny _ _ (Builtin.SmallTypes.nextOf (.ref i) >>= _) _ _ _
  refine wpAny_bind (tupNext (g1.extBut s1.extBut D.i1z) (hl.extBut s1.extBut D.l1z) hx fun k2 g12 s2 => wpAny_pure ?_)
  have hTO2 : IsPair k2 TO a b := s2.extBut _ _ D.TOi1 (s1.extBut _ _ D.TOz hTO)
  refine wpAny_bind (wpAny_seqItems hTO2 rfl (wpAny_bind (wpAny_updateSeq_pair hTO2 fun k3 hTO3 s3 => ?_)))
  have hTO3 : IsPair k3 TO x b := hTO3
  refine wpAny_bind (wpAny_letGo (wpAny_pure (wpAny_bind (wpAny_bind (wpAny_onRaise ?_)))))
  show wpAny _ _ (Builtin.SmallTypes.nextOf (.ref j) >>= _) _ _ _
  refine wpAny_bind (tupNext (((g2.extBut s1.extBut D.i2z).extBut s2.extBut D.i12.symm).extBut s3.extBut D.TOi2.symm) (((hm.extBut s1.extBut D.l2z).extBut s2.extBut D.l2i1).extBut s3.extBut D.l2TO) hy fun k4 g24 s4 => wpAny_pure ?_)
  have hTO4 : IsPair k4 TO x b := s4.extBut _ _ D.TOi2 hTO3
  refine wpAny_bind (wpAny_seqItems hTO4 rfl (wpAny_bind (wpAny_updateSeq_pair hTO4 fun k5 hTO5 s5 => ?_)))
  have hTO5 : IsPair k5 TO x y := hTO5
  refine wpAny_bind (wpAny_letGo (wpAny_pure (wpAny_pure (wpAny_bind (wpAny_seqItems hTO5 rfl (wpAny_bind (wpAny_newTuple ?_)))))))
  have sz : k5.objs.size = s.heap.objs.size := by rw [s5.1, s4.1, s3.1, s2.1, s1.1]
  have hz5 : IsZip k5 z TI TO .ellipsis := s5.extBut _ _ D.TOz.symm (s4.extBut _ _ D.i2z.symm (s3.extBut _ _ D.TOz.symm (s2.extBut _ _ D.i1z.symm hz1)))
  have keep : ∀ c o, c ≠ z → c ≠ TO → c ≠ i → c ≠ j → s.heap.get? c = some o → k5.get? c = some o := fun c o c1 c2 c3 c4 e => s5.extBut _ _ c2 (s4.extBut _ _ c4 (s3.extBut _ _ c2 (s2.extBut _ _ c3 (s1.extBut _ _ c1 e))))
  have g15 : k5.IsTupleIter i l (k + 1) := ((g12.extBut s3.extBut D.TOi1.symm).extBut s4.extBut D.i12).extBut s5.extBut D.TOi1.symm
  have g25 : k5.IsTupleIter j m (k + 1) := g24.extBut s5.extBut D.TOi2.symm
  show wpAny _ _ (Builtin.SmallTypes.ownedTupleHandOut (.ref z) (.ref k5.objs.size) >>= _) _ _ _
  refine wpAny_bind ?_
  unfold Builtin.SmallTypes.ownedTupleHandOut
  have hz6 : IsZip (k5.push { cls := .type "tuple", data := .seq #[x, y] }) z TI TO .ellipsis := Heap.get?_push_of_some _ hz5
  refine wpAny_bind (wpAny_setField_rec hz6 (by simp) fun k7 hz7 s7 => ?_)
  have hz7 : IsZip k7 z TI TO (rawInt k5.objs.size) := hz7
  refine wpAny_setField_rec hz7 (by simp) fun k8 hz8 s8 => ?_
  have hz8 : IsZip k8 z TI TO (rawInt k5.objs.size) := hz8
  have nez : k5.objs.size ≠ z := Nat.ne_of_gt (Heap.lt_size hz5)
  have up : ∀ c o, c ≠ z → k5.get? c = some o → k8.get? c = some o := fun c o c1 e => s8.extBut _ _ c1 (s7.extBut _ _ c1 (Heap.get?_push_of_some _ e))
  have hT8 : IsPair k8 k5.objs.size x y := s8.extBut _ _ nez (s7.extBut _ _ nez (Heap.get?_push_size _ rfl))
  rw [sz] at hz8 hT8
  refine wpAny_pure ⟨_, rfl, ?_⟩
  show Q (.ref k5.objs.size) _
  rw [sz]
  have itAt : ∀ {b t : Addr} {n : Nat}, b ≠ z → k5.IsTupleIter b t n → k8.IsTupleIter b t n := fun hb ⟨o, e, r⟩ => ⟨o, up _ o hb e, r⟩
  exact q k8 ⟨hz8, up _ _ D.TIz (keep _ _ D.TIz D.TITO D.TIi1 D.TIi2 hTI), ⟨_, _, up _ _ D.TOz hTO5⟩, itAt D.i1z g15, itAt D.i2z g25⟩ hT8 fun c o c1 c2 c3 c4 e => up c o c1 (keep c o c1 c2 c3 c4 e)
theorem zipStop {z TI TO i j l m : Addr} {k : Nat} {xs ys : Array Value} {Q : Fin → Shared → Prop} (hh : A.handled = none) (D : ZipApart z TI TO i j l m) (Z : ZipAt s.heap z TI TO i j l m k .none)
    (hl : s.heap.IsTuple l xs) (hm : s.heap.IsTuple m ys) (hend : xs[k]? = none ∨ ys[k]? = none)
    (q : ∀ h' e, (∀ c o, c ≠ z → c ≠ TO → c ≠ i → c ≠ j → s.heap.get? c = some o → h'.get? c = some o) → (∃ o, h'.get? e = some o ∧ o.cls = .type "StopIteration") → E (.ref e) { s with heap := h' }) :
    wpAny (model prog w) A (Builtin.«zip.__next__» ⟨[.ref z], []⟩) Q E s := by
  obtain ⟨hz, hTI, ⟨a, b, hTO⟩, g1, g2⟩ := Z
  show wpAny _ _ (field (.ref z) 2 >>= _) _ _ _
  refine wpAny_bind (wpAny_field hz rfl (x := .bool false) rfl ?_)
  show wpAny _ _ (field (.ref z) 3 >>= _) _ _ _
  refine wpAny_bind (wpAny_field hz rfl (x := .ref TI) rfl (wpAny_bind (wpAny_seqItems hTI rfl ?_)))
  show wpAny _ _ (Builtin.SmallTypes.ownedTupleIsFree (.ref z) >>= _) _ _ _
  refine wpAny_bind ?_
  unfold Builtin.SmallTypes.ownedTupleIsFree
  refine wpAny_bind (wpAny_field hz rfl (x := .none) rfl (wpAny_pure ?_))
  simp only [if_true]
  refine wpAny_bind (wpAny_rule (wpAny_bind (wpAny_field hz rfl (x := .ref TO) rfl (wpAny_bind (wpAny_setField_rec hz (by simp) fun k1 hz1 s1 => ?_)))))
  have hz1 : IsZip k1 z TI TO .ellipsis := hz1
  refine wpAny_bind ?_
  simp only [List.zipIdx_cons, List.zipIdx_nil, List.forIn_cons, List.forIn_nil]
  refine wpAny_bind (wpAny_bind (wpAny_onRaise ?_))
  show wpAny _ _ (Builtin.SmallTypes.nextOf (.ref i) >>= _) _ _ _
  cases hx : xs[k]? with
  | none =>
    refine wpAny_bind (tupStop hh (g1.extBut s1.extBut D.i1z) (hl.extBut s1.extBut D.l1z) hx fun k2 e s2 ⟨oe, he, hce⟩ => ?_)
    have hz2 : IsZip k2 z TI TO .ellipsis := s2 _ _ D.i1z.symm hz1
    have ne : e ≠ z := fun x => by subst x; rw [hz2] at he; cases he; simp at hce
    exact wpAny_setField_rec hz2 (by simp) fun k3 _ s3 => q k3 e (fun c o c1 _ c3 _ x => s3.extBut _ _ c1 (s2 _ _ c3 (s1.extBut _ _ c1 x))) ⟨oe, s3.extBut _ _ ne he, hce⟩
  | some x =>
    have hy : ys[k]? = none := by rcases hend with h | h; rw [hx] at h; cases h; exact h
    refine wpAny_bind (tupNext (g1.extBut s1.extBut D.i1z) (hl.extBut s1.extBut D.l1z) hx fun k2 g12 s2 => wpAny_pure ?_)
    have hTO2 : IsPair k2 TO a b := s2.extBut _ _ D.TOi1 (s1.extBut _ _ D.TOz hTO)
    refine wpAny_bind (wpAny_seqItems hTO2 rfl (wpAny_bind (wpAny_updateSeq_pair hTO2 fun k3 hTO3 s3 => ?_)))
    refine wpAny_bind (wpAny_letGo (wpAny_pure (wpAny_bind (wpAny_bind (wpAny_onRaise ?_)))))
    show wpAny _ _ (Builtin.SmallTypes.nextOf (.ref j) >>= _) _ _ _
    refine wpAny_bind (tupStop hh (((g2.extBut s1.extBut D.i2z).extBut s2.extBut D.i12.symm).extBut s3.extBut D.TOi2.symm) (((hm.extBut s1.extBut D.l2z).extBut s2.extBut D.l2i1).extBut s3.extBut D.l2TO) hy fun k4 e s4 ⟨oe, he, hce⟩ => ?_)
    have hz4 : IsZip k4 z TI TO .ellipsis := s4 _ _ D.i2z.symm (s3.extBut _ _ D.TOz.symm (s2.extBut _ _ D.i1z.symm hz1))
    have ne : e ≠ z := fun x => by subst x; rw [hz4] at he; cases he; simp at hce
    exact wpAny_setField_rec hz4 (by simp) fun k5 _ s5 => q k5 e (fun c o c1 c2 c3 c4 x => s5.extBut _ _ c1 (s4 _ _ c4 (s3.extBut _ _ c2 (s2.extBut _ _ c3 (s1.extBut _ _ c1 x))))) ⟨oe, s5.extBut _ _ ne he, hce⟩
/-! ### zip(a, b) made -/
def zt (t : Addr) : Obj := { cls := .type "tuple_iterator", data := .fields #[.ref t, .int 0 0] }
abbrev zg1 (h : Heap) (l : Addr) : Heap := h.push { cls := .type "tuple_iterator", data := .fields #[.ref l, .int 0 0] }
abbrev zg2 (h : Heap) (l m : Addr) : Heap := (zg1 h l).push { cls := .type "tuple_iterator", data := .fields #[.ref m, .int 0 0] }
abbrev zg3 (h : Heap) (l m : Addr) : Heap := (zg2 h l m).push { cls := .type "tuple", data := .seq #[.ref h.objs.size, .ref (zg1 h l).objs.size] }
abbrev zg4 (h : Heap) (l m : Addr) : Heap := (zg3 h l m).push { cls := .type "tuple", data := .seq #[.none, .none] }
abbrev zg5 (h : Heap) (l m : Addr) : Heap := (zg4 h l m).push { cls := .type "zip", data := .fields #[.none, .bool false, .bool false, .ref (zg2 h l m).objs.size, .ref (zg3 h l m).objs.size] }
theorem meets_zipT (l m : Addr) (xs ys : Array Value) : Meets (Builtin.«zip.__new__» ⟨[.type "zip", .ref l, .ref m], []⟩) (fun _ R s => s.heap.IsTuple l xs ∧ s.heap.IsTuple m ys ∧
    R (.ok (.ret (.ref (zg4 s.heap l m).objs.size))) { s with heap := zg5 s.heap l m }) :=
  .of_wp fun prog w A R s h => by
    obtain ⟨hp, g, d, tk, os⟩ := s
    obtain ⟨hl, hm, h⟩ := h
    have hsub := sub_zip
    have e1 : Heap.IsTuple (Shared.heap ⟨hp, g, d, tk, os⟩) l xs := hl
    have e2 : Heap.IsTuple (Shared.heap ⟨hp.push { cls := .type "tuple_iterator", data := .fields #[.ref l, .int 0 0] }, g, d, tk, os⟩) m ys := Heap.IsTuple.push hm _
    wp_walk using wpAny_pyIter_tuple e1, wpAny_pyIter_tuple e2
    exact ⟨_, rfl, h⟩
theorem call_zipT {l m : Addr} {xs ys : Array Value} {Q : Value → Shared → Prop} (hl : s.heap.IsTuple l xs) (hm : s.heap.IsTuple m ys)
    (q : ∀ h', ZipAt h' (s.heap.objs.size + 4) (s.heap.objs.size + 2) (s.heap.objs.size + 3) s.heap.objs.size (s.heap.objs.size + 1) l m 0 .none → (∀ c o, s.heap.get? c = some o → h'.get? c = some o) → Q (.ref (s.heap.objs.size + 4)) { s with heap := h' }) :
    wpAny (model prog w) A (call (.type "zip") [.ref l, .ref m]) Q E s := by
  refine callType_new F.called_zip (by decide) (F.typeCall_zip_2 _ _) (F.newCall_zip_2 _ _) (fun obj => F.args_object_init_3 obj _ _) F.entry_zip_new (meets_zipT l m xs ys) ⟨hl, hm, ?_⟩
  have n1 : (zg1 s.heap l).objs.size = s.heap.objs.size + 1 := Heap.size_push ..
  have n2 : (zg2 s.heap l m).objs.size = s.heap.objs.size + 2 := by rw [Heap.size_push, n1]
  have n3 : (zg3 s.heap l m).objs.size = s.heap.objs.size + 3 := by rw [Heap.size_push, n2]
  have n4 : (zg4 s.heap l m).objs.size = s.heap.objs.size + 4 := by rw [Heap.size_push, n3]
  have up : ∀ {h : Heap} {o o' : Obj} {b : Addr}, h.get? b = some o → (h.push o').get? b = some o := fun e => Heap.get?_push_of_some _ e
  have a5 : (zg5 s.heap l m).get? (zg4 s.heap l m).objs.size = some _ := Heap.get?_push_size _ rfl
  have a4 : (zg5 s.heap l m).get? (zg3 s.heap l m).objs.size = some _ := up (Heap.get?_push_size _ rfl)
  have a3 : (zg5 s.heap l m).get? (zg2 s.heap l m).objs.size = some _ := up (up (Heap.get?_push_size _ rfl))
  have a2 : (zg5 s.heap l m).get? (zg1 s.heap l).objs.size = some _ := up (up (up (Heap.get?_push_size _ rfl)))
  have a1 : (zg5 s.heap l m).get? s.heap.objs.size = some _ := up (up (up (up (Heap.get?_push_size _ rfl))))
  show _ ∧ _
  rw [n2, n3, n4] at a5
  rw [n1, n2] at a3
  rw [n3] at a4
  rw [n1] at a2
  rw [n4]
  exact ⟨⟨_, a5, rfl⟩, q _ ⟨a5, a3, ⟨_, _, a4⟩, ⟨_, a1, rfl, rfl⟩, ⟨_, a2, rfl, rfl⟩⟩ fun c o e => up (up (up (up (up e))))⟩
end

/-! ### zip(a, b) walked, its items unpacked -/
def Itz (K : PySem.W.Frag) (a b : Addr) : It :=
  ⟨fun i H => ∃ xs ys x y, SqT K H a xs ∧ SqT K H b ys ∧ xs[i]? = some x ∧ ys[i]? = some y,
   fun i H v H' => ∃ t x y, v = .ref t ∧ H t = none ∧ H' = upd H t (.tup [x, y]) ∧ ∀ xs ys, SqT K H a xs → SqT K H b ys → xs[i]? = some x ∧ ys[i]? = some y,
   fun i H => ∃ xs ys, SqT K H a xs ∧ SqT K H b ys ∧ (xs[i]? = none ∨ ys[i]? = none)⟩
theorem turn_zip {P : Program} {w : World} {K : PySem.W.Frag} {es : List Expr} {kk : Nat} {tp : Pos} {z TI TO i j a b : Addr} (D : ZipApart z TI TO i j a b) :
    Turn P w K (.Tuple es kk tp) (Itz K a b) [z, TI, TO, i, j] z (fun n h => ZipAt h z TI TO i j a b n .none) where
  mem := by simp
  obj := fun n h Z c hc => by
    obtain ⟨hz, hi, ⟨u, v, ho⟩, ⟨o1, e1, _, d1⟩, ⟨o2, e2, _, d2⟩⟩ := Z
    simp only [List.mem_cons, List.not_mem_nil, or_false] at hc
    rcases hc with rfl | rfl | rfl | rfl | rfl
    · exact ⟨_, hz, fun v q => by cases q⟩
    · exact ⟨_, hi, fun v q => by cases q⟩
    · exact ⟨_, ho, fun v q => by cases q⟩
    · exact ⟨_, e1, fun v q => by rw [d1] at q; cases q⟩
    · exact ⟨_, e2, fun v q => by rw [d2] at q; cases q⟩
  keep := fun n h h' Z k => by
    obtain ⟨hz, hi, ⟨u, v, ho⟩, ⟨o1, e1, r1⟩, ⟨o2, e2, r2⟩⟩ := Z
    exact ⟨k _ (by simp) _ hz, k _ (by simp) _ hi, ⟨u, v, k _ (by simp) _ ho⟩, ⟨o1, k _ (by simp) _ e1, r1⟩, ⟨o2, k _ (by simp) _ e2, r2⟩⟩
  item := by
    intro X hP hw hK hc n pins s σ H E I hf Z hg
    subst hP hw hK
    obtain ⟨xs, ys, x, y, qa, qb, hx, hy⟩ := hg
    obtain ⟨its, rv, p, _⟩ := I.tuple qa
    obtain ⟨jts, rw', p', _⟩ := I.tuple qb
    obtain ⟨u, hu, ru⟩ := rv.get hx
    obtain ⟨v, hv, rv'⟩ := rw'.get hy
    have hT : s.TypeIs (.ref z) "zip" := ⟨_, Z.hz, rfl⟩
    unfold pyNext
    refine wpAny_bind (wpAny_attempt (wpAny_callSpecial?_slot (name := Str.ofString "__next__") hT F.slot_zip_next (wpAny_call_entry F.slot_zip_next hT F.entry_zip_next
      (zipNext D Z (show s.heap.IsTuple a its.toArray from p) (show s.heap.IsTuple b jts.toArray from p') (x := u) (y := v) (by simpa using hu) (by simpa using hv) fun h' Z' T' keep => wpAny_pure ?_) (F.args_zip_next_1 _))))
    refine ⟨_, rfl, wpAny_letOwnedTupleGo_zip (s := { s with heap := h' }) Z'.hz fun h2 hz2 sb => ?_⟩
    have ch : ∀ c ∈ [z, TO, i, j], c ∈ [z, TI, TO, i, j] := fun c hc => by simp only [List.mem_cons, List.not_mem_nil, or_false] at hc ⊢; rcases hc with e | e | e | e <;> simp [e]
    have k2 : ∀ c o, c ∉ [z, TO, i, j] → s.heap.get? c = some o → h2.get? c = some o := fun c o hc e => by
      simp only [List.mem_cons, List.not_mem_nil, or_false, not_or] at hc
      exact sb.extBut c o hc.1 (keep c o hc.1 hc.2.1 hc.2.2.1 hc.2.2.2 e)
    have nT : ∀ c o, s.heap.get? c = some o → c ≠ s.heap.objs.size := fun c o e => Nat.ne_of_lt (Heap.lt_size e)
    have nch : ∀ c o, H c = some o → c ∉ [z, TO, i, j] := fun c o e hc => by
      have := (hf c (ch c hc)).1
      rw [e] at this; cases this
    have hn : H s.heap.objs.size = none := I.fresh
    have nzT : s.heap.objs.size ≠ z := (nT _ _ Z.hz).symm
    have I2 : Inv X pins σ (upd H s.heap.objs.size (.tup [x, y])) { s with heap := h2, gens := s.gens, drawn := s.drawn, toks := s.toks } := by
      refine I.step (ch := [z, TO, i, j]) (fun c hc => ?_) (fun c o _ _ hc e _ => k2 c o hc e) (fun c o _ _ hc e _ => ⟨o.slots, k2 c o hc e⟩) (fun c o _ e q => by rw [upd_ne (nT c o e)]; exact q) (fun c o hc e => ⟨o, k2 c o hc e⟩)
        (fun c q e => by rw [upd_ne (ne_of_none e hn)]; exact e) (fun c o q e => by rw [upd_ne (ne_of_none e hn)]; exact e) (fun c q e => ⟨#[], by rw [upd_ne (ne_of_none e hn), e]; simp⟩) (fun m hm => ?_) (fun c o e => ?_) I.bare
      · obtain ⟨f0, f1, f2, f3, f4, f5⟩ := hf c (ch c hc)
        exact ⟨f3, f1, f4, f5⟩
      · obtain ⟨o, q1, q2, ho, r⟩ := hm
        exact ⟨o, q1, q2, k2 _ o (fun hc => (hf _ (ch _ hc)).2.1 rfl) ho, r⟩
      · by_cases hc : c = s.heap.objs.size
        · subst hc
          rw [upd_same] at e
          cases e
          refine ⟨(show 2 ≤ sizeLine by decide), [u, v], .cons ru (.cons rv' .nil), ?_⟩
          exact ⟨_, sb.extBut _ _ nzT T', rfl, _, rfl⟩
        · rw [upd_ne hc] at e
          refine (I.hok c o e).stay (fun d w hd q => k2 d w ?_ q) (fun d q => by rw [upd_ne (ne_of_none q hn)]; exact q) fun d q r => by rw [upd_ne (ne_of_none r hn)]; exact r
          rcases hd with rfl | hd
          · exact nch _ _ e
          · exact nch _ _ hd
    have sbk : ∀ c o, c ≠ z → h'.get? c = some o → h2.get? c = some o := fun c o hc e => sb.extBut c o hc e
    obtain ⟨_, hi', ⟨u', v', ho'⟩, ⟨o1, e1, r1⟩, ⟨o2, e2, r2⟩⟩ := Z'
    refine ⟨.ref s.heap.objs.size, _, I2, rfl, ⟨s.heap.objs.size, x, y, rfl, hn, rfl, fun xs' ys' q1 q2 => ?_⟩, ⟨hz2, sbk _ _ D.TIz hi', ⟨u', v', sbk _ _ D.TOz ho'⟩, ⟨o1, sbk _ _ D.i1z e1, r1⟩, ⟨o2, sbk _ _ D.i2z e2, r2⟩⟩, fun c hc => ?_⟩
    · rw [I.tuple_inj q1 qa, I.tuple_inj q2 qb]
      exact ⟨hx, hy⟩
    · rw [upd_ne]
      · exact (hf c hc).1
      · rintro rfl
        obtain ⟨hz, hi, ⟨u, v, ho⟩, ⟨o1, e1, _⟩, ⟨o2, e2, _⟩⟩ := Z
        simp only [List.mem_cons, List.not_mem_nil, or_false] at hc
        rcases hc with q | q | q | q | q
        · rw [← q] at hz; exact nT _ _ hz rfl
        · rw [← q] at hi; exact nT _ _ hi rfl
        · rw [← q] at ho; exact nT _ _ ho rfl
        · rw [← q] at e1; exact nT _ _ e1 rfl
        · rw [← q] at e2; exact nT _ _ e2 rfl
  done := by
    intro X hP hw hK hc n pins s σ H E I hf Z hg
    subst hP hw hK
    obtain ⟨xs, ys, qa, qb, hend⟩ := hg
    obtain ⟨its, rv, p, _⟩ := I.tuple qa
    obtain ⟨jts, rw', p', _⟩ := I.tuple qb
    have hT : s.TypeIs (.ref z) "zip" := ⟨_, Z.hz, rfl⟩
    have ch : ∀ c ∈ [z, TO, i, j], c ∈ [z, TI, TO, i, j] := fun c hc => by simp only [List.mem_cons, List.not_mem_nil, or_false] at hc ⊢; rcases hc with e | e | e | e <;> simp [e]
    unfold pyNext
    refine wpAny_bind (wpAny_attempt (wpAny_callSpecial?_slot (name := Str.ofString "__next__") hT F.slot_zip_next (wpAny_call_entry F.slot_zip_next hT F.entry_zip_next
      (zipStop (A := X.A.in1) (I.ok.hd hc) D Z (show s.heap.IsTuple a its.toArray from p) (show s.heap.IsTuple b jts.toArray from p') (hend.imp (fun q => by simpa using rv.none_of q) (fun q => by simpa using rw'.none_of q)) fun h' e keep ⟨o, ho, hcl⟩ => ?_) (F.args_zip_next_1 _))))
    refine wpAny_bind (wpAny_isInstance (T := "StopIteration") (b := true) ⟨o, ho, hcl⟩ isSubtype_stop (wpAny_pure ⟨rfl, ?_⟩))
    have k2 : ∀ c o, c ∉ [z, TO, i, j] → s.heap.get? c = some o → h'.get? c = some o := fun c o hc e => by
      simp only [List.mem_cons, List.not_mem_nil, or_false, not_or] at hc
      exact keep c o hc.1 hc.2.1 hc.2.2.1 hc.2.2.2 e
    have nch : ∀ c o, H c = some o → c ∉ [z, TO, i, j] := fun c o e hc => by
      have := (hf c (ch c hc)).1
      rw [e] at this; cases this
    refine I.step (g' := s.gens) (d' := s.drawn) (t' := s.toks) (ch := [z, TO, i, j]) (fun c hc => ?_) (fun c o _ _ hc e _ => k2 c o hc e) (fun c o _ _ hc e _ => ⟨o.slots, k2 c o hc e⟩) (fun c o _ e q => q) (fun c o hc e => ⟨o, k2 c o hc e⟩)
      (fun c q e => e) (fun c o q e => e) (fun c q e => ⟨#[], by rw [e]; simp⟩) (fun m hm => ?_) (fun c o e => ?_) I.bare
    · obtain ⟨f0, f1, f2, f3, f4, f5⟩ := hf c (ch c hc)
      exact ⟨f3, f1, f4, f5⟩
    · obtain ⟨o, q1, q2, ho, r⟩ := hm
      exact ⟨o, q1, q2, k2 _ o (fun hc => (hf _ (ch _ hc)).2.1 rfl) ho, r⟩
    · refine (I.hok c o e).stay (fun d w hd q => k2 d w ?_ q) (fun d q => q) fun d q r => r
      rcases hd with rfl | hd
      · exact nch _ _ e
      · exact nch _ _ hd
  self := fun _ _ _ _ _ Z q => wpAny_pyIter_zip Z.hz q
def iZip (K : PySem.W.Frag) (ta : TA) : TI := fun σ H R => ta σ H fun vs H1 => ∃ a b xs ys, vs = [.ref a, .ref b] ∧ SqT K H1 a xs ∧ SqT K H1 b ys ∧ R (Itz K a b) H1
section
variable {X : Cx}
theorem pi_zip {e1 e2 : Expr} {ta : TA} {p pos : Pos} {es : List Expr} {kk : Nat} {tp : Pos} (hg : Gl X "zip") (hm : X.mg "zip" = none) (ha : PA X [e1, e2] ta) (hs : starEach [e1, e2] X.env = [(false, eval e1 X.env), (false, eval e2 X.env)] := by rfl) (hs2 : starEach [e2] X.env = [(false, eval e2 X.env)] := by rfl) :
    PI X (.Tuple es kk tp) (.Call (.Name "zip" p) [e1, e2] [] pos) (iZip X.K ta) := by
  intro pins s σ H R I h
  refine Call_ (ld_blt I hg hm bt_zip (PyProof.Rows.callWith_type1 (thn (ha pos pins s σ H _ I h) fun us s1 ⟨vs, H1, I1, r1, q1⟩ => ?_) (by rw [hs, hs2]) (by rw [hs2]; rfl)))
  obtain ⟨a, b, xs, ys, rfl, qa, qb, q⟩ := q1
  obtain ⟨u, v, rfl, r, r'⟩ := r1.two
  cases r
  cases r'
  obtain ⟨its, rv, pa, _⟩ := I1.tuple qa
  obtain ⟨jts, rw', pb, _⟩ := I1.tuple qb
  have la : a < s1.heap.objs.size := by obtain ⟨o, e, _⟩ := pa; exact Heap.lt_size e
  have lb : b < s1.heap.objs.size := by obtain ⟨o, e, _⟩ := pb; exact Heap.lt_size e
  refine call_zipT (show s1.heap.IsTuple a its.toArray from pa) (show s1.heap.IsTuple b jts.toArray from pb) fun h' Z keep => ?_
  have I2 : Inv X pins σ H1 { s1 with heap := h' } := I1.kept (t' := s1.toks) keep
  refine wpAny_pyIter_zip (s := { s1 with heap := h' }) Z.hz ⟨_, [s1.heap.objs.size + 4, s1.heap.objs.size + 2, s1.heap.objs.size + 3, s1.heap.objs.size, s1.heap.objs.size + 1], _, _, H1, rfl, I2, turn_zip (zipApart_new la lb), Z, fun c hc => ?_, q⟩
  have hle : s1.heap.objs.size ≤ c := by
    simp only [List.mem_cons, List.not_mem_nil, or_false] at hc
    rcases hc with rfl | rfl | rfl | rfl | rfl <;> first | exact Nat.le_add_right _ _ | exact Nat.le_refl _
  exact I1.fpOk hle (I1.hok.fresh hle)
theorem q_pi_zip {e1 e2 : Expr} {ta : TA} {p pos : Pos} {es : List Expr} {kk : Nat} {tp : Pos} (hg : Gl X "zip") (hm : X.mg "zip" = none) (ha : QA X [e1, e2] ta) (hs : starEach [e1, e2] X.env = [(false, eval e1 X.env), (false, eval e2 X.env)] := by rfl) (hs2 : starEach [e2] X.env = [(false, eval e2 X.env)] := by rfl) :
    QI X (.Tuple es kk tp) (.Call (.Name "zip" p) [e1, e2] [] pos) (iZip X.K ta) := .of (pi_zip hg hm ha.to hs hs2)
theorem x_izip {K : PySem.W.Frag} {ta : TA} {σ : St} {H : Hp} {R : It → Hp → Prop} : iZip K ta σ H R = ta σ H fun vs H1 => ∃ a b xs ys, vs = [.ref a, .ref b] ∧ SqT K H1 a xs ∧ SqT K H1 b ys ∧ R (Itz K a b) H1 := rfl
end
end L2

set_option Elab.async false
set_option linter.all false
set_option maxRecDepth 100000
set_option maxHeartbeats 4000000
namespace L2
open PySem PySem.Spec PyProof.Rows PySem.W
section
variable {X : Cx} {o i e f value : Expr} {pos pos' apos cpos : Pos} {td ty tx tv : TE}
theorem q_pe_dget (hu : X.A.units + 1 < cLine) (ho : QE X o td) (hi : QE X i ty) (hs : NoSl i) : QE X (.Subscript o i pos) (tDGet td ty) := .of (pe_dget hu ho.to hi.to hs)
theorem q_pe_dget2 (hu : X.A.units + 1 < cLine) (ho : QE X o td) (he : QE X e ty) (hf : QE X f tx) (m : M2 X o "get" apos e f cpos) : QE X (.Call (.Attribute o "get" apos) [e, f] [] cpos) (tDGet2 td ty tx) := .of (pe_dget2 hu ho.to he.to hf.to m)
theorem q_ps_dput (hu : X.A.units + 1 < cLine) (ho : QE X o td) (hi : QE X i ty) (hv : QE X value tv) (hs : swapsWith value (some (.Subscript o i pos')) pos.line X.env = pure false) :
    QS X (.Assign [.Subscript o i pos'] value pos) (sDPut td ty tv) := .of (ps_dput hu ho.to hi.to hv.to hs)
end
section
variable {K : PySem.W.Frag} {σ : St} {H : Hp} {Q : VK} {td ty tx tv : TE} {D : Ends} {g : TG} {tb : TS}
theorem x_dget : tDGet td ty σ H Q = td σ H fun x H1 => ty σ H1 fun y H2 => ∃ a v, x = .ref a ∧ DGet H2 a y (some v) ∧ Q v H2 := rfl
theorem x_dget2 : tDGet2 td ty tx σ H Q = td σ H fun x H1 => ∃ a, x = .ref a ∧ IsD H1 a ∧ ty σ H1 fun y H2 => tx σ H2 fun z H3 => ∃ o, DGet H3 a y o ∧ Q (o.getD z) H3 := rfl
theorem x_dput : sDPut td ty tv D σ H = tv σ H fun v H1 => td σ H1 fun x H2 => ty σ H2 fun y H3 => ∃ a H4, x = .ref a ∧ DPut H3 a y v H4 ∧ D.nx σ H4 := rfl
/-- over two tuples of one length -/
theorem forB_zip {a b : Addr} {xs ys : List V} (Pv : Nat → St → Hp → Prop) (h0 : Pv 0 σ H) (hn : xs.length = ys.length) (hl : ∀ i σ H, Pv i σ H → SqT K H a xs ∧ SqT K H b ys)
    (hs : ∀ i x y t σ H, xs[i]? = some x → ys[i]? = some y → H t = none → Pv i σ H → g (.ref t) σ (upd H t (.tup [x, y])) fun σ2 H2 => tb { D with nx := Pv (i + 1), ct := Pv (i + 1), bk := D.nx } σ2 H2)
    (hd : ∀ σ H, Pv xs.length σ H → D.nx σ H) : ForB (Itz K a b) g tb D σ H := by
  refine ⟨fun i m σ H => m = xs.length - i ∧ i ≤ xs.length ∧ Pv i σ H, ⟨xs.length, by simp, Nat.zero_le _, h0⟩, ?_⟩
  rintro i m σ H ⟨rfl, hi, p⟩
  obtain ⟨q1, q2⟩ := hl i σ H p
  by_cases hlt : i < xs.length
  · refine .inr ⟨⟨xs, ys, xs[i], ys[i]'(by omega), q1, q2, by simp [hlt], by simp [show i < ys.length by omega]⟩, Pv (i + 1), fun σ' H' p' => ⟨xs.length - (i + 1), by omega, rfl, hlt, p'⟩, fun v H' y => ?_⟩
    obtain ⟨t, x, y, rfl, ht, rfl, q⟩ := y
    obtain ⟨e1, e2⟩ := q xs ys q1 q2
    exact hs i x y t σ H e1 e2 ht p
  · have e : i = xs.length := by omega
    subst e
    exact .inl ⟨⟨xs, ys, q1, q2, .inl (by simp)⟩, hd σ H p⟩
end
theorem op_neDK {X : Cx} {K : PySem.W.Frag} (hK : X.K = K) (hu : X.A.units + 64 < cLine) : OpR X (compareOp .NotEq) (rNeD K) := by subst hK; exact op_neD hu
theorem op_eqDK {X : Cx} {K : PySem.W.Frag} (hK : X.K = K) (hu : X.A.units + 64 < cLine) : OpR X (compareOp .Eq) (rEqD K) := by subst hK; exact op_eqD hu
theorem ix_dK {X : Cx} {K : PySem.W.Frag} (hK : X.K = K) : IxR X (rIxD K) := by subst hK; exact ix_d
end L2

namespace W
theorem fmod_neg_range (p : Int) {q : Int} (h : q < 0) : q < p.fmod q ∧ p.fmod q ≤ 0 := by
  rw [Int.fmod_eq_emod]
  have h1 := Int.emod_nonneg p (show q ≠ 0 by omega)
  have h2 := Int.emod_lt_of_neg p h
  by_cases d : q ∣ p
  · rw [if_pos (Or.inr d), Int.emod_eq_zero_of_dvd d]; omega
  · rw [if_neg (by intro z; rcases z with z | z; omega; exact d z)]
    have h3 : p % q ≠ 0 := fun z => d (Int.dvd_of_emod_eq_zero z)
    omega
theorem fmod_abs (p : Int) {q : Int} (h : q ≠ 0) : (p.fmod q).natAbs < q.natAbs := by
  rcases Int.lt_or_gt_of_ne h with z | z
  · have := fmod_neg_range p z; omega
  · have h1 := Int.fmod_lt_of_pos p z
    have h2 := Int.fmod_nonneg_of_pos p z
    omega
theorem gcd_fmod (p q : Int) : Int.gcd q (p.fmod q) = Int.gcd p q := by
  have h : p.fmod q = p - p.fdiv q * q := by rw [Int.fmod_def, Int.mul_comm]
  rw [h, Int.gcd_sub_mul_right_right, Int.gcd_comm]
/-- the greatest common divisor, with the sign of y -/
def cd (x y : Int) : Int := if y < 0 then -(Int.gcd x y : Int) else (Int.gcd x y : Int)
theorem cd_zero {p q : Int} (h : q ≠ 0) (z : p.fmod q = 0) : q = cd p q := by
  have e := gcd_fmod p q
  rw [z, Int.gcd_zero_right] at e
  unfold cd
  rw [← e]
  split <;> omega
theorem cd_step {p q : Int} (h : q ≠ 0) (z : p.fmod q ≠ 0) : cd q (p.fmod q) = cd p q := by
  unfold cd
  rw [gcd_fmod]
  rcases Int.lt_or_gt_of_ne h with g | g
  · have := fmod_neg_range p g
    rw [if_pos (by omega), if_pos g]
  · have h2 := Int.fmod_nonneg_of_pos p g
    rw [if_neg (by omega), if_neg (by omega)]
theorem cd_dvd_left (x y : Int) : cd x y ∣ x := by
  unfold cd; split
  · exact (Int.neg_dvd).mpr (Int.gcd_dvd_left x y)
  · exact Int.gcd_dvd_left x y
theorem cd_dvd_right (x y : Int) : cd x y ∣ y := by
  unfold cd; split
  · exact (Int.neg_dvd).mpr (Int.gcd_dvd_right x y)
  · exact Int.gcd_dvd_right x y
theorem cd_ne {x y : Int} (h : y ≠ 0) : cd x y ≠ 0 := by
  have := Int.gcd_pos_of_ne_zero_right x h
  unfold cd; split <;> omega
theorem cd_abs (x y : Int) : (cd x y).natAbs = Int.gcd x y := by unfold cd; split <;> omega
theorem cd_le {x y : Int} (h : y ≠ 0) : (cd x y).natAbs ≤ y.natAbs := by
  rw [cd_abs]
  have h1 : Int.gcd x y ∣ y.natAbs := Int.natCast_dvd_natCast.mp (Int.dvd_natAbs.mpr (Int.gcd_dvd_right x y))
  exact Nat.le_of_dvd (by omega) h1
abbrev Num := Int × Int
/-- lowest terms -/
def nrm (t b : Int) : Num := (t.fdiv (cd t b), b.fdiv (cd t b))
def lnum (t b : Int) : Num := if b < 0 then ((-t).fdiv (Int.gcd (-t) (-b)), (-b).fdiv (Int.gcd (-t) (-b))) else (t.fdiv (Int.gcd t b), b.fdiv (Int.gcd t b))
theorem fdiv_neg_neg {t g : Int} (hg : g ≠ 0) (d : g ∣ t) : (-t).fdiv g = t.fdiv (-g) := by
  obtain ⟨k, rfl⟩ := d
  have e1 : -(g * k) = g * (-k) := by rw [Int.mul_neg]
  have e2 : g * k = (-g) * (-k) := by rw [Int.neg_mul_neg]
  rw [e1, Int.mul_fdiv_cancel_left _ hg, e2, Int.mul_fdiv_cancel_left _ (by omega)]
theorem lnum_eq {t b : Int} (h : b ≠ 0) : lnum t b = nrm t b := by
  unfold lnum nrm cd
  by_cases z : b < 0
  · rw [if_pos z, if_pos z, Int.gcd_neg, Int.neg_gcd]
    have g0 := Int.gcd_pos_of_ne_zero_right t h
    rw [fdiv_neg_neg (by omega) (Int.gcd_dvd_left t b), fdiv_neg_neg (by omega) (Int.gcd_dvd_right t b)]
  · rw [if_neg z, if_neg z]
theorem nrm_zero {b : Int} (h : b ≠ 0) : nrm 0 b = (0, 1) := by
  have e : cd 0 b = b := by unfold cd; rw [Int.gcd_comm, Int.gcd_zero_right]; split <;> omega
  unfold nrm
  rw [e]
  have h1 : (b * 0).fdiv b = 0 := Int.mul_fdiv_cancel_left 0 h
  have h2 : (b * 1).fdiv b = 1 := Int.mul_fdiv_cancel_left 1 h
  rw [Int.mul_zero] at h1; rw [Int.mul_one] at h2
  rw [h1, h2]
theorem nrm_one (t : Int) : nrm t 1 = (t, 1) := by
  have e : cd t 1 = 1 := by
    have h1 := cd_le (x := t) (y := 1) (by decide)
    have h2 := cd_ne (x := t) (y := 1) (by decide)
    unfold cd at *
    rw [if_neg (by decide)] at *
    omega
  unfold nrm
  rw [e]
  have h1 : (1 * t).fdiv 1 = t := Int.mul_fdiv_cancel_left t (by decide)
  rw [Int.one_mul] at h1
  rw [h1]; rfl
end W

set_option linter.all false
namespace W
open L2
/-- in lowest terms -/
def Ok (q : Num) : Prop := 0 < q.2 ∧ Int.gcd q.1 q.2 = 1
theorem fdiv_cd {t b : Int} (h : b ≠ 0) : cd t b * (nrm t b).1 = t ∧ cd t b * (nrm t b).2 = b := by
  have h0 := cd_ne (x := t) h
  obtain ⟨k, hk⟩ := cd_dvd_left t b
  obtain ⟨m, hm⟩ := cd_dvd_right t b
  have e1 : t.fdiv (cd t b) = k := by
    have := Int.mul_fdiv_cancel_left k h0
    rwa [← hk] at this
  have e2 : b.fdiv (cd t b) = m := by
    have := Int.mul_fdiv_cancel_left m h0
    rwa [← hm] at this
  exact ⟨by show cd t b * t.fdiv (cd t b) = t; rw [e1]; exact hk.symm, by show cd t b * b.fdiv (cd t b) = b; rw [e2]; exact hm.symm⟩
theorem cd_sign {t b : Int} (h : b ≠ 0) : (0 < b → 0 < cd t b) ∧ (b < 0 → cd t b < 0) := by
  have := Int.gcd_pos_of_ne_zero_right t h
  unfold cd
  constructor
  · intro z; rw [if_neg (by omega)]; omega
  · intro z; rw [if_pos z]; omega
theorem nrm_pos {t b : Int} (h : b ≠ 0) : 0 < (nrm t b).2 := by
  obtain ⟨_, e⟩ := fdiv_cd (t := t) h
  obtain ⟨s1, s2⟩ := cd_sign (t := t) h
  rcases Int.lt_or_gt_of_ne h with z | z
  · have c := s2 z
    rcases Int.lt_or_le 0 (nrm t b).2 with q | q
    · exact q
    · have := Int.mul_nonneg_of_nonpos_of_nonpos (Int.le_of_lt c) q
      omega
  · have c := s1 z
    rcases Int.lt_or_le 0 (nrm t b).2 with q | q
    · exact q
    · have := Int.mul_nonpos_of_nonneg_of_nonpos (Int.le_of_lt c) q
      omega
theorem nrm_ok {t b : Int} (h : b ≠ 0) : Ok (nrm t b) := by
  refine ⟨nrm_pos h, ?_⟩
  obtain ⟨e1, e2⟩ := fdiv_cd (t := t) h
  have g : Int.gcd (cd t b * (nrm t b).1) (cd t b * (nrm t b).2) = (cd t b).natAbs * Int.gcd (nrm t b).1 (nrm t b).2 := Int.gcd_mul_left _ _ _
  rw [e1, e2, cd_abs] at g
  have p := Int.gcd_pos_of_ne_zero_right t h
  have : Int.gcd t b * 1 = Int.gcd t b * Int.gcd (nrm t b).1 (nrm t b).2 := by rw [Nat.mul_one]; exact g
  exact (Nat.eq_of_mul_eq_mul_left p this).symm
theorem nrm_self {q : Num} (h : Ok q) : nrm q.1 q.2 = q := by
  have e : cd q.1 q.2 = 1 := by
    unfold cd
    rw [if_neg (by have := h.1; omega), h.2]; rfl
  unfold nrm
  rw [e]
  have h1 : ∀ x : Int, x.fdiv 1 = x := fun x => by
    have := Int.mul_fdiv_cancel_left (a := 1) x (by decide)
    rwa [Int.one_mul] at this
  rw [h1, h1]
theorem Ok.neg {q : Num} (h : Ok q) : Ok (-q.1, q.2) := ⟨h.1, by show Int.gcd (-q.1) q.2 = 1; rw [Int.neg_gcd]; exact h.2⟩
theorem nrm_lt {t b : Int} (h : 0 < b) : (nrm t b).1 < 0 ↔ t < 0 := by
  obtain ⟨e, _⟩ := fdiv_cd (t := t) (b := b) (by omega)
  have c := (cd_sign (t := t) (b := b) (by omega)).1 h
  constructor
  · intro z
    have := Int.mul_neg_of_pos_of_neg c z
    omega
  · intro z
    rcases Int.lt_or_le (nrm t b).1 0 with q | q
    · exact q
    · have := Int.mul_nonneg (Int.le_of_lt c) q
      omega
theorem abs_le_mul {c x : Int} (h : c ≠ 0) : x.natAbs ≤ (c * x).natAbs := by
  rw [Int.natAbs_mul]
  exact Nat.le_mul_of_pos_left _ (by omega)
theorem nrm_bd {t b : Int} {m n : Nat} (h : b ≠ 0) (h1 : Bd m t) (h2 : Bd n b) : Bd m (nrm t b).1 ∧ Bd n (nrm t b).2 := by
  obtain ⟨e1, e2⟩ := fdiv_cd (t := t) h
  have a1 := abs_le_mul (x := (nrm t b).1) (cd_ne (x := t) h)
  have a2 := abs_le_mul (x := (nrm t b).2) (cd_ne (x := t) h)
  rw [e1] at a1; rw [e2] at a2
  exact ⟨Nat.lt_of_le_of_lt a1 h1, Nat.lt_of_le_of_lt a2 h2⟩
/-- a number within bounds -/
structure NB (n : Nat) (q : Num) : Prop where
  ok : Ok q
  b1 : Bd n q.1
  b2 : Bd n q.2
theorem NB.mono {m n : Nat} {q : Num} (h : NB m q) (k : m ≤ n) : NB n q := ⟨h.ok, h.b1.mono k, h.b2.mono k⟩
theorem NB.nz {n : Nat} {q : Num} (h : NB n q) : q.2 ≠ 0 := by have := h.ok.1; omega
theorem NB.nrm {t b : Int} {n : Nat} (h : b ≠ 0) (h1 : Bd n t) (h2 : Bd n b) : NB n (nrm t b) := ⟨nrm_ok h, (nrm_bd h h1 h2).1, (nrm_bd h h1 h2).2⟩
def nAdd (x y : Num) : Num := nrm (x.1 * y.2 + y.1 * x.2) (x.2 * y.2)
def nSub (x y : Num) : Num := nrm (x.1 * y.2 - y.1 * x.2) (x.2 * y.2)
def nMul (x y : Num) : Num := nrm (x.1 * y.1) (x.2 * y.2)
def nDiv (x y : Num) : Num := nrm (x.1 * y.2) (x.2 * y.1)
theorem NB.add {n : Nat} {x y : Num} (h : NB n x) (k : NB n y) : NB (2 * n + 1) (nAdd x y) :=
  .nrm (Int.mul_ne_zero h.nz k.nz) (((h.b1.mul k.b2).add (k.b1.mul h.b2)).mono (by omega)) ((h.b2.mul k.b2).mono (by omega))
theorem NB.sub {n : Nat} {x y : Num} (h : NB n x) (k : NB n y) : NB (2 * n + 1) (nSub x y) :=
  .nrm (Int.mul_ne_zero h.nz k.nz) (((h.b1.mul k.b2).sub (k.b1.mul h.b2)).mono (by omega)) ((h.b2.mul k.b2).mono (by omega))
theorem NB.mul {n : Nat} {x y : Num} (h : NB n x) (k : NB n y) : NB (2 * n + 1) (nMul x y) :=
  .nrm (Int.mul_ne_zero h.nz k.nz) ((h.b1.mul k.b1).mono (by omega)) ((h.b2.mul k.b2).mono (by omega))
theorem nMul_neg {y : Num} (h : Ok y) : nMul y (-1, 1) = (-y.1, y.2) := by
  have e := nrm_self h.neg
  unfold nMul
  simp only [Int.mul_neg, Int.mul_one]
  exact e
theorem nAdd_neg (x y : Num) : nAdd x (-y.1, y.2) = nSub x y := by
  unfold nAdd nSub
  simp only [Int.neg_mul, Int.sub_eq_add_neg]
theorem zero_iff {y : Num} (h : Ok y) : y.1 = 0 ↔ y = (0, 1) := by
  obtain ⟨y1, y2⟩ := y
  constructor
  · intro e
    have e : y1 = 0 := e
    subst e
    have g := h.2
    have p := h.1
    simp only at g p
    rw [Int.gcd_comm, Int.gcd_zero_right] at g
    have : y2 = 1 := by omega
    rw [this]
  · intro e
    exact congrArg Prod.fst e
theorem NB.neg {n : Nat} {y : Num} (h : NB n y) : NB n (-y.1, y.2) := ⟨h.ok.neg, h.b1.neg, h.b2⟩
theorem nSub_lt {x y : Num} (h : Ok x) (k : Ok y) : (nSub x y).1 < 0 ↔ x.1 * y.2 < y.1 * x.2 := by
  unfold nSub
  rw [nrm_lt (Int.mul_pos h.1 k.1)]
  omega
theorem NB.zero {n : Nat} : NB (n + 1) (0, 1) := ⟨⟨by decide, by decide⟩, Nat.lt_of_lt_of_le (by decide) (Nat.pow_le_pow_right (by decide) (Nat.le_add_left 1 n)), Nat.lt_of_lt_of_le (by decide : 1 < 2 ^ 1) (Nat.pow_le_pow_right (by decide) (Nat.le_add_left 1 n))⟩
end W

set_option linter.all false
namespace W
open L2
/-! ### the numbers as fractions -/
def nv (x : Num) : Rat := Rat.divInt x.1 x.2
theorem nv_nrm {t b : Int} (h : b ≠ 0) : nv (nrm t b) = Rat.divInt t b := by
  obtain ⟨e1, e2⟩ := fdiv_cd (t := t) h
  have p := nrm_pos (t := t) h
  unfold nv
  rw [Rat.divInt_eq_divInt_iff (by omega) h]
  generalize (nrm t b).1 = k at e1 ⊢
  generalize (nrm t b).2 = m at e2 p ⊢
  rw [← e1]
  rw [show k * b = k * (cd t b * m) from by rw [e2]]
  rw [Int.mul_left_comm, Int.mul_assoc]
theorem nv_add {x y : Num} (h : Ok x) (k : Ok y) : nv (nAdd x y) = nv x + nv y := by
  have h1 := h.1; have k1 := k.1
  unfold nAdd
  rw [nv_nrm (Int.mul_ne_zero (by omega) (by omega))]
  exact (Rat.divInt_add_divInt _ _ (by omega) (by omega)).symm
theorem nv_sub {x y : Num} (h : Ok x) (k : Ok y) : nv (nSub x y) = nv x - nv y := by
  have h1 := h.1; have k1 := k.1
  unfold nSub
  rw [nv_nrm (Int.mul_ne_zero (by omega) (by omega))]
  exact (Rat.divInt_sub_divInt _ _ (by omega) (by omega)).symm
theorem nv_mul {x y : Num} (h : Ok x) (k : Ok y) : nv (nMul x y) = nv x * nv y := by
  have h1 := h.1; have k1 := k.1
  unfold nMul
  rw [nv_nrm (Int.mul_ne_zero (by omega) (by omega))]
  exact (Rat.divInt_mul_divInt _ _).symm
theorem nv_div {x y : Num} (h : Ok x) (n : y.1 ≠ 0) : nv (nDiv x y) = nv x / nv y := by
  have h1 := h.1
  unfold nDiv
  rw [nv_nrm (Int.mul_ne_zero (by omega) n), Rat.div_def]
  show _ = Rat.divInt x.1 x.2 * (Rat.divInt y.1 y.2)⁻¹
  rw [Rat.inv_divInt, Rat.divInt_mul_divInt]
theorem ok_add {x y : Num} (h : Ok x) (k : Ok y) : Ok (nAdd x y) := nrm_ok (Int.mul_ne_zero (by have := h.1; omega) (by have := k.1; omega))
theorem ok_sub {x y : Num} (h : Ok x) (k : Ok y) : Ok (nSub x y) := nrm_ok (Int.mul_ne_zero (by have := h.1; omega) (by have := k.1; omega))
theorem ok_mul {x y : Num} (h : Ok x) (k : Ok y) : Ok (nMul x y) := nrm_ok (Int.mul_ne_zero (by have := h.1; omega) (by have := k.1; omega))
theorem ok_div {x y : Num} (h : Ok x) (n : y.1 ≠ 0) : Ok (nDiv x y) := nrm_ok (Int.mul_ne_zero (by have := h.1; omega) n)
theorem idvd {a b c : Int} (h : a ∣ b * c) (g : Int.gcd a b = 1) : a ∣ c := by
  have h1 : a.natAbs ∣ b.natAbs * c.natAbs := by rw [← Int.natAbs_mul]; exact Int.natAbs_dvd_natAbs.mpr h
  exact Int.natAbs_dvd_natAbs.mp (Nat.Coprime.dvd_of_dvd_mul_left (show Nat.Coprime a.natAbs b.natAbs from g) h1)
theorem nv_eq {x y : Num} (h : Ok x) (k : Ok y) (e : nv x = nv y) : x = y := by
  have h1 := h.1; have k1 := k.1
  unfold nv at e
  rw [Rat.divInt_eq_divInt_iff (by omega) (by omega)] at e
  have d1 : x.2 ∣ y.2 := idvd (show x.2 ∣ x.1 * y.2 from ⟨y.1, by rw [e, Int.mul_comm]⟩) (by rw [Int.gcd_comm]; exact h.2)
  have d2 : y.2 ∣ x.2 := idvd (show y.2 ∣ y.1 * x.2 from ⟨x.1, by rw [← e, Int.mul_comm]⟩) (by rw [Int.gcd_comm]; exact k.2)
  have e2 : x.2 = y.2 := Int.dvd_antisymm (by omega) (by omega) d1 d2
  rw [e2] at e
  have e1 : x.1 = y.1 := Int.eq_of_mul_eq_mul_right (by omega) e
  exact Prod.ext e1 e2
theorem nv_lt {x y : Num} (h : Ok x) (k : Ok y) : x.1 * y.2 < y.1 * x.2 ↔ nv x < nv y := by
  have h1 := h.1; have k1 := k.1
  have hx : (x.2 : Rat) ≠ 0 := by intro z; have := Rat.intCast_inj.mp (show ((x.2 : Int) : Rat) = ((0 : Int) : Rat) from z); omega
  have hy : (y.2 : Rat) ≠ 0 := by intro z; have := Rat.intCast_inj.mp (show ((y.2 : Int) : Rat) = ((0 : Int) : Rat) from z); omega
  have ex : nv x * (x.2 : Rat) = x.1 := by unfold nv; rw [Rat.divInt_eq_div]; grind
  have ey : nv y * (y.2 : Rat) = y.1 := by unfold nv; rw [Rat.divInt_eq_div]; grind
  have px : (0 : Rat) < (x.2 : Rat) := by have := Rat.intCast_lt_intCast.mpr h1; simpa using this
  have py : (0 : Rat) < (y.2 : Rat) := by have := Rat.intCast_lt_intCast.mpr k1; simpa using this
  have pp : (0 : Rat) < (x.2 : Rat) * (y.2 : Rat) := Rat.mul_pos px py
  rw [← Rat.intCast_lt_intCast, Rat.intCast_mul, Rat.intCast_mul, ← ex, ← ey]
  rw [show nv x * (x.2 : Rat) * (y.2 : Rat) = nv x * ((x.2 : Rat) * (y.2 : Rat)) by grind, show nv y * (y.2 : Rat) * (x.2 : Rat) = nv y * ((x.2 : Rat) * (y.2 : Rat)) by grind]
  exact Rat.mul_lt_mul_right pp
theorem nv_zero : nv (0, 1) = 0 := by decide +kernel
theorem ok_zero : Ok (0, 1) := ⟨by decide, by decide⟩
theorem nv_ne {y : Num} (h : Ok y) (n : y.1 ≠ 0) : nv y ≠ 0 := fun z => n ((zero_iff h).mpr (nv_eq h ok_zero (by rw [z, nv_zero])))
/-! ### what is asked of them -/
section
variable {x y z : Num} (hx : Ok x) (hy : Ok y) (hz : Ok z)
theorem n_addC : nAdd x y = nAdd y x := by unfold nAdd; rw [Int.add_comm, Int.mul_comm x.2]
theorem n_mulC : nMul x y = nMul y x := by unfold nMul; rw [Int.mul_comm x.1, Int.mul_comm x.2]
include hx hy hz in
theorem n_addA : nAdd (nAdd x y) z = nAdd x (nAdd y z) := nv_eq (ok_add (ok_add hx hy) hz) (ok_add hx (ok_add hy hz)) (by rw [nv_add (ok_add hx hy) hz, nv_add hx hy, nv_add hx (ok_add hy hz), nv_add hy hz]; grind)
include hx hy hz in
theorem n_mulA : nMul (nMul x y) z = nMul x (nMul y z) := nv_eq (ok_mul (ok_mul hx hy) hz) (ok_mul hx (ok_mul hy hz)) (by rw [nv_mul (ok_mul hx hy) hz, nv_mul hx hy, nv_mul hx (ok_mul hy hz), nv_mul hy hz]; grind)
include hx hy hz in
theorem n_dist : nMul x (nAdd y z) = nAdd (nMul x y) (nMul x z) := nv_eq (ok_mul hx (ok_add hy hz)) (ok_add (ok_mul hx hy) (ok_mul hx hz)) (by rw [nv_mul hx (ok_add hy hz), nv_add hy hz, nv_add (ok_mul hx hy) (ok_mul hx hz), nv_mul hx hy, nv_mul hx hz]; grind)
include hx hy in
theorem n_addSub : nSub (nAdd x y) y = x := nv_eq (ok_sub (ok_add hx hy) hy) hx (by rw [nv_sub (ok_add hx hy) hy, nv_add hx hy]; grind)
include hx hy in
theorem n_subAdd : nAdd (nSub x y) y = x := nv_eq (ok_add (ok_sub hx hy) hy) hx (by rw [nv_add (ok_sub hx hy) hy, nv_sub hx hy]; grind)
include hx hy in
theorem n_mulDiv (n : y.1 ≠ 0) : nDiv (nMul x y) y = x := nv_eq (ok_div (ok_mul hx hy) n) hx (by have := nv_ne hy n; rw [nv_div (ok_mul hx hy) n, nv_mul hx hy]; grind)
include hx hy in
theorem n_divMul (n : y.1 ≠ 0) : nMul (nDiv x y) y = x := nv_eq (ok_mul (ok_div hx n) hy) hx (by have := nv_ne hy n; rw [nv_mul (ok_div hx n) hy, nv_div hx n]; grind)
def nlt (x y : Num) : Bool := decide (x.1 * y.2 < y.1 * x.2)
include hx hy in
theorem nlt_iff : nlt x y = true ↔ nv x < nv y := by unfold nlt; rw [decide_eq_true_eq]; exact nv_lt hx hy
include hx hy hz in
theorem n_ltAdd : nlt (nAdd x z) (nAdd y z) = nlt x y := by
  rw [Bool.eq_iff_iff, nlt_iff (ok_add hx hz) (ok_add hy hz), nlt_iff hx hy, nv_add hx hz, nv_add hy hz]
  constructor <;> intro h <;> grind
include hx hy hz in
theorem n_ltMul (h : nlt (0, 1) z = true) : nlt (nMul x z) (nMul y z) = nlt x y := by
  rw [nlt_iff ok_zero hz, nv_zero] at h
  rw [Bool.eq_iff_iff, nlt_iff (ok_mul hx hz) (ok_mul hy hz), nlt_iff hx hy, nv_mul hx hz, nv_mul hy hz]
  exact Rat.mul_lt_mul_right h
include hx hy hz in
theorem n_gtMul (h : nlt z (0, 1) = true) : nlt (nMul x z) (nMul y z) = nlt y x := by
  rw [nlt_iff hz ok_zero, nv_zero] at h
  rw [Bool.eq_iff_iff, nlt_iff (ok_mul hx hz) (ok_mul hy hz), nlt_iff hy hx, nv_mul hx hz, nv_mul hy hz]
  have h2 : (0 : Rat) < - nv z := by grind
  have e := Rat.mul_lt_mul_right (a := nv y) (b := nv x) h2
  rw [← e]
  constructor <;> intro h <;> grind
include hx hy hz in
theorem n_ltTrans (h : nlt x y = true) (k : nlt y z = true) : nlt x z = true := by
  rw [nlt_iff hx hy] at h
  rw [nlt_iff hy hz] at k
  rw [nlt_iff hx hz]
  grind
include hx hy in
theorem n_tri : (nlt x y = true ∧ nlt y x = false ∧ x ≠ y) ∨ (nlt x y = false ∧ nlt y x = true ∧ x ≠ y) ∨ (nlt x y = false ∧ nlt y x = false ∧ x = y) := by
  have a := nlt_iff hx hy
  have b := nlt_iff hy hx
  have c : x = y ↔ nv x = nv y := ⟨fun e => by rw [e], nv_eq hx hy⟩
  rw [Ne, c]
  rw [← Bool.not_eq_true, ← Bool.not_eq_true, a, b]
  grind
end
theorem nrm_scale {q : Num} (h : Ok q) {b : Int} (n : b ≠ 0) : nrm (q.1 * b) (q.2 * b) = q := by
  have h1 := h.1
  refine nv_eq (nrm_ok (Int.mul_ne_zero (by omega) n)) h ?_
  rw [nv_nrm (Int.mul_ne_zero (by omega) n)]
  unfold nv
  rw [Rat.divInt_eq_divInt_iff (Int.mul_ne_zero (by omega) n) (by omega), Int.mul_assoc, Int.mul_comm b]
theorem nrm_neg {q : Num} (h : Ok q) : nrm (0 - q.1) (0 - q.2) = q := by
  have := nrm_scale h (b := -1) (by decide)
  rw [show q.1 * -1 = 0 - q.1 by omega, show q.2 * -1 = 0 - q.2 by omega] at this
  exact this
theorem n_subSelf {x : Num} (h : Ok x) : nSub x x = (0, 1) := by
  unfold nSub
  rw [Int.sub_self]
  exact nrm_zero (Int.mul_ne_zero (by have := h.1; omega) (by have := h.1; omega))
end W

set_option linter.all false
set_option maxHeartbeats 1000000
namespace W
open L2 PySem
theorem NB.add2 {m n : Nat} {x y : Num} (h : NB m x) (k : NB n y) : NB (m + n + 1) (nAdd x y) :=
  .nrm (Int.mul_ne_zero h.nz k.nz) (((h.b1.mul k.b2).add ((k.b1.mul h.b2).mono (n := m + n) (by omega))).mono (by omega)) ((h.b2.mul k.b2).mono (by omega))
abbrev Pr := Str × Num
/-- what the pairs of a name come to, from the first to the last -/
def tot (ps : List Pr) (n : Str) : Num := ps.foldl (fun acc p => if p.1 = n then nAdd acc p.2 else acc) (0, 1)
def cnt (ps : List Pr) (n : Str) : Nat := ps.countP (fun p => decide (p.1 = n))
theorem tot_snoc (ps : List Pr) (p : Pr) (n : Str) : tot (ps ++ [p]) n = if p.1 = n then nAdd (tot ps n) p.2 else tot ps n := by unfold tot; rw [List.foldl_append]; rfl
theorem snoc_ind {α : Type} {M : List α → Prop} (h0 : M []) (h1 : ∀ l a, M l → M (l ++ [a])) : ∀ l, M l := by
  intro l
  rw [← List.reverse_reverse l]
  induction l.reverse with
  | nil => exact h0
  | cons a r ih => rw [List.reverse_cons]; exact h1 _ _ ih
theorem tot_nb {b : Nat} {ps : List Pr} (h : ∀ p ∈ ps, NB b p.2) (n : Str) : NB ((b + 1) * cnt ps n + 1) (tot ps n) := by
  revert n h
  revert ps
  intro ps
  refine snoc_ind (M := fun ps : List Pr => (∀ p ∈ ps, NB b p.2) → ∀ n, NB ((b + 1) * cnt ps n + 1) (tot ps n)) ?_ ?_ ps
  all_goals clear ps
  case refine_1 => exact fun _ n => NB.zero (n := 0)
  case refine_2 =>
   intro l a ih h n
   have i1 := ih (fun p hp => h p (List.mem_append_left _ hp)) n
   have i2 := h a (by simp)
   rw [tot_snoc]
   have e : cnt (l ++ [a]) n = cnt l n + (if a.1 = n then 1 else 0) := by unfold cnt; rw [List.countP_append]; simp [List.countP_cons]
   rw [e]
   by_cases c : a.1 = n
   · rw [if_pos c, if_pos c]
     refine (i1.add2 i2).mono ?_
     rw [Nat.mul_add, Nat.mul_one]; omega
   · rw [if_neg c, if_neg c]
     exact i1
theorem tot_ok {ps : List Pr} (h : ∀ p ∈ ps, Ok p.2) (n : Str) : Ok (tot ps n) := by
  revert h
  refine snoc_ind (M := fun ps : List Pr => (∀ p ∈ ps, Ok p.2) → Ok (tot ps n)) (fun _ => ok_zero) (fun l a ih h => ?_) ps
  rw [tot_snoc]
  have i1 := ih (fun p hp => h p (List.mem_append_left _ hp))
  by_cases c : a.1 = n
  · rw [if_pos c]; exact ok_add i1 (h a (by simp))
  · rw [if_neg c]; exact i1
def rsum : List Pr → Str → Rat
  | [], _ => 0
  | p :: r, n => (if p.1 = n then nv p.2 else 0) + rsum r n
theorem rsum_append (ps qs : List Pr) (n : Str) : rsum (ps ++ qs) n = rsum ps n + rsum qs n := by
  induction ps with
  | nil => show rsum qs n = 0 + rsum qs n; grind
  | cons p r ih =>
    show (if p.1 = n then nv p.2 else 0) + rsum (r ++ qs) n = (if p.1 = n then nv p.2 else 0) + rsum r n + rsum qs n
    rw [ih]; grind
theorem rsum_reverse (ps : List Pr) (n : Str) : rsum ps.reverse n = rsum ps n := by
  induction ps with
  | nil => rfl
  | cons p r ih =>
    rw [List.reverse_cons, rsum_append, ih]
    show rsum r n + ((if p.1 = n then nv p.2 else 0) + 0) = (if p.1 = n then nv p.2 else 0) + rsum r n
    grind
theorem nv_tot {ps : List Pr} (h : ∀ p ∈ ps, Ok p.2) (n : Str) : nv (tot ps n) = rsum ps n := by
  revert h
  refine snoc_ind (M := fun ps : List Pr => (∀ p ∈ ps, Ok p.2) → nv (tot ps n) = rsum ps n) (fun _ => ?_) (fun l a ih h => ?_) ps
  · exact nv_zero
  · have i1 := ih (fun p hp => h p (List.mem_append_left _ hp))
    have o1 := tot_ok (fun p hp => h p (List.mem_append_left _ hp)) n
    rw [tot_snoc, rsum_append, ← i1]
    show _ = nv (tot l n) + ((if a.1 = n then nv a.2 else 0) + 0)
    by_cases c : a.1 = n
    · rw [if_pos c, if_pos c, nv_add o1 (h a (by simp))]; grind
    · rw [if_neg c, if_neg c]; grind
theorem tot_reverse {ps : List Pr} (h : ∀ p ∈ ps, Ok p.2) (n : Str) : tot ps.reverse n = tot ps n :=
  nv_eq (tot_ok (fun p hp => h p (List.mem_reverse.mp hp)) n) (tot_ok h n) (by rw [nv_tot (fun p hp => h p (List.mem_reverse.mp hp)), nv_tot h, rsum_reverse])
/-- one name ahead of another one -/
def SLt (a b : Str) : Prop := ¬ b.cps.toList < a.cps.toList ∧ a ≠ b
theorem sle_antisymm {a b : Str} (h : ¬ b.cps.toList < a.cps.toList) (k : ¬ a.cps.toList < b.cps.toList) : a = b := by
  have e : a.cps.toList = b.cps.toList := List.le_antisymm (List.not_lt.mp h) (List.not_lt.mp k)
  obtain ⟨⟨x⟩⟩ := a
  obtain ⟨⟨y⟩⟩ := b
  have e : x = y := e
  rw [e]
theorem SLt.asymm {a b : Str} (h : SLt a b) (k : SLt b a) : False := h.2 (sle_antisymm h.1 k.1)
/-- two rows, rising, of the same members are the same -/
theorem rows_eq {α : Type} {f : α → Str} : ∀ {l m : List α}, l.Pairwise (fun a b => SLt (f a) (f b)) → m.Pairwise (fun a b => SLt (f a) (f b)) → (∀ a, a ∈ l ↔ a ∈ m) → l = m
  | [], m, _, _, h => by
    cases m with
    | nil => rfl
    | cons b m => exact absurd ((h b).mpr (by simp)) (by simp)
  | a :: l, [], _, _, h => absurd ((h a).mp (by simp)) (by simp)
  | a :: l, b :: m, hl, hm, h => by
    rw [List.pairwise_cons] at hl hm
    have hab : a = b := by
      rcases List.mem_cons.mp ((h a).mp (by simp)) with e | e
      · exact e
      · rcases List.mem_cons.mp ((h b).mpr (by simp)) with e' | e'
        · exact e'.symm
        · exact (SLt.asymm (hm.1 a e) (hl.1 b e')).elim
    subst hab
    rw [rows_eq hl.2 hm.2 fun c => ⟨fun hc => ?_, fun hc => ?_⟩]
    · rcases List.mem_cons.mp ((h c).mp (List.mem_cons_of_mem _ hc)) with e | e
      · subst e; exact ((hl.1 c hc).2 rfl).elim
      · exact e
    · rcases List.mem_cons.mp ((h c).mpr (List.mem_cons_of_mem _ hc)) with e | e
      · subst e; exact ((hm.1 c hc).2 rfl).elim
      · exact e
/-- the pairs of a sum -/
structure Canon (ps L : List Pr) : Prop where
  rise : L.Pairwise (fun a b => SLt a.1 b.1)
  mem : ∀ p : Pr, p ∈ L ↔ (p.2 = tot ps p.1 ∧ p.2 ≠ (0, 1))
theorem Canon.eq {ps L M : List Pr} (h : Canon ps L) (k : Canon ps M) : L = M := rows_eq h.rise k.rise fun p => by rw [h.mem, k.mem]
theorem Canon.rev {ps L : List Pr} (o : ∀ p ∈ ps, Ok p.2) (h : Canon ps.reverse L) : Canon ps L := ⟨h.rise, fun p => by rw [h.mem, tot_reverse o]⟩
theorem Canon.nil : Canon [] [] := ⟨.nil, fun p => ⟨fun h => (by cases h), fun h => (h.2 h.1).elim⟩⟩
theorem Canon.ok {ps L : List Pr} (o : ∀ p ∈ ps, Ok p.2) (h : Canon ps L) : ∀ p ∈ L, Ok p.2 := fun p hp => by rw [((h.mem p).mp hp).1]; exact tot_ok o _
theorem rsum_rise : ∀ {L : List Pr}, L.Pairwise (fun a b => SLt a.1 b.1) → (∀ p ∈ L, rsum L p.1 = nv p.2) ∧ ∀ n, (∀ p ∈ L, p.1 ≠ n) → rsum L n = 0
  | [], _ => ⟨fun p hp => (by cases hp), fun n _ => rfl⟩
  | q :: L, h => by
    rw [List.pairwise_cons] at h
    obtain ⟨i1, i2⟩ := rsum_rise h.2
    refine ⟨fun p hp => ?_, fun n hn => ?_⟩
    · rcases List.mem_cons.mp hp with e | e
      · subst e
        show (if p.1 = p.1 then nv p.2 else 0) + rsum L p.1 = nv p.2
        rw [if_pos rfl, i2 p.1 fun r hr z => (h.1 r hr).2 z.symm]
        grind
      · show (if q.1 = p.1 then nv q.2 else 0) + rsum L p.1 = nv p.2
        rw [if_neg (h.1 p e).2, i1 p e]
        grind
    · show (if q.1 = n then nv q.2 else 0) + rsum L n = 0
      rw [if_neg (hn q (by simp)), i2 n fun p hp => hn p (List.mem_cons_of_mem _ hp)]
      grind
theorem Canon.self {ps L : List Pr} (o : ∀ p ∈ ps, Ok p.2) (h : Canon ps L) : Canon L L := by
  have oL := h.ok o
  obtain ⟨r1, r2⟩ := rsum_rise h.rise
  refine ⟨h.rise, fun p => ⟨fun hp => ⟨?_, ((h.mem p).mp hp).2⟩, fun ⟨e, n⟩ => ?_⟩⟩
  · exact nv_eq (oL p hp) (tot_ok oL _) (by rw [nv_tot oL, r1 p hp])
  · by_cases c : ∃ q ∈ L, q.1 = p.1
    · obtain ⟨q, hq, e2⟩ := c
      have : q.2 = p.2 := by
        rw [e]
        exact nv_eq (oL q hq) (tot_ok oL _) (by rw [nv_tot oL, ← e2, r1 q hq])
      rw [show p = q from Prod.ext e2.symm this.symm]
      exact hq
    · refine absurd ?_ n
      rw [e]
      exact nv_eq (tot_ok oL _) ok_zero (by rw [nv_tot oL, nv_zero]; exact r2 _ fun q hq z => c ⟨q, hq, z⟩)
theorem cnt_self {L : List Pr} (h : L.Pairwise (fun a b => SLt a.1 b.1)) (n : Str) : cnt L n ≤ 1 := by
  induction L with
  | nil => exact Nat.zero_le _
  | cons q L ih =>
    rw [List.pairwise_cons] at h
    unfold cnt
    rw [List.countP_cons]
    by_cases c : q.1 = n
    · have : L.countP (fun p => decide (p.1 = n)) = 0 := List.countP_eq_zero.mpr fun p hp => by
        have := (h.1 p hp).2
        simp only [decide_eq_true_eq]
        exact fun z => this (c.trans z.symm)
      rw [this]; simp [c]
    · have := ih h.2
      unfold cnt at this
      simp [c]; exact this
theorem cnt_le (ps : List Pr) (n : Str) : cnt ps n ≤ ps.length := List.countP_le_length
end W

set_option Elab.async false
set_option linter.all false
set_option maxRecDepth 100000
set_option maxHeartbeats 4000000
namespace W
open PySem L2
def tNum (q : Num) : HO := .tup [.int q.1, .int q.2]
def numV (x : Num) : List V := [.int x.1, .int x.2]
theorem _root_.L2.SqT.sbO {K : PySem.W.Frag} {H H' : Hp} {p a : Addr} {xs : List V} {o : HO} (s : SB p H H') (m : H p = some o) (n1 : ∀ ys, o ≠ .tup ys) (n2 : ∀ ob u, o ≠ .frz ob u) (h : SqT K H a xs) : SqT K H' a xs := by
  rcases h with (h | ⟨ob, h⟩) | h
  · exact .inl (.inl (s _ _ (fun z => by rw [z, m] at h; exact n1 _ (Option.some.inj h)) h))
  · exact .inl (.inr ⟨ob, s _ _ (fun z => by rw [z, m] at h; exact n2 _ _ (Option.some.inj h)) h⟩)
  · exact .inr h
theorem _root_.L2.SqT.sbL {K : PySem.W.Frag} {H H' : Hp} {p a : Addr} {xs ys : List V} (s : SB p H H') (m : H p = some (.lst ys)) (h : SqT K H a xs) : SqT K H' a xs := h.sbO s m (fun _ z => by cases z) (fun _ _ z => by cases z)
theorem _root_.L2.SqT.sbD {K : PySem.W.Frag} {H H' : Hp} {p a : Addr} {xs : List V} {kvs : List (Key × V)} (s : SB p H H') (m : H p = some (.dK kvs)) (h : SqT K H a xs) : SqT K H' a xs := h.sbO s m (fun _ z => by cases z) (fun _ _ z => by cases z)
theorem _root_.L2.SqL.sbD {K : PySem.W.Frag} {H H' : Hp} {p a : Addr} {xs : List V} {kvs : List (Key × V)} (s : SB p H H') (m : H p = some (.dK kvs)) (h : SqL K H a xs) : SqL K H' a xs := by
  rcases h with (h | ⟨ob, h⟩) | h
  · exact .inl (.inl (s _ _ (fun z => by rw [z, m] at h; cases h) h))
  · exact .inl (.inr ⟨ob, s _ _ (fun z => by rw [z, m] at h; cases h) h⟩)
  · exact .inr h
/-- a pair of a name and a number -/
def PairAt (K : PySem.W.Frag) (H : Hp) (v : V) (p : Pr) : Prop := ∃ (t a : Addr), v = .ref t ∧ SqT K H t [.str p.1, .ref a] ∧ SqT K H a (numV p.2)
abbrev PairsAt (K : PySem.W.Frag) (H : Hp) (vs : List V) (ps : List Pr) : Prop := Paired (PairAt K H) vs ps
theorem PairAt.same {K : PySem.W.Frag} {H H' : Hp} {v : V} {p : Pr} (h : PairAt K H v p) (s : Same H H') : PairAt K H' v p := by
  obtain ⟨t, a, e, q1, q2⟩ := h
  exact ⟨t, a, e, q1.keeps s, q2.keeps s⟩
theorem PairAt.sbD {K : PySem.W.Frag} {H H' : Hp} {v : V} {p : Pr} {d : Addr} {kvs : List (Key × V)} (h : PairAt K H v p) (s : SB d H H') (m : H d = some (.dK kvs)) : PairAt K H' v p := by
  obtain ⟨t, a, e, q1, q2⟩ := h
  exact ⟨t, a, e, q1.sbD s m, q2.sbD s m⟩
theorem PairAt.sbL {K : PySem.W.Frag} {H H' : Hp} {v : V} {p : Pr} {d : Addr} {ys : List V} (h : PairAt K H v p) (s : SB d H H') (m : H d = some (.lst ys)) : PairAt K H' v p := by
  obtain ⟨t, a, e, q1, q2⟩ := h
  exact ⟨t, a, e, q1.sbL s m, q2.sbL s m⟩
theorem PairsAt.same {K : PySem.W.Frag} {H H' : Hp} {vs : List V} {ps : List Pr} (h : PairsAt K H vs ps) (s : Same H H') : PairsAt K H' vs ps := L2.Paired.imp' (fun _ _ q => q.same s) h
theorem PairsAt.sbL {K : PySem.W.Frag} {H H' : Hp} {vs : List V} {ps : List Pr} {d : Addr} {ys : List V} (h : PairsAt K H vs ps) (s : SB d H H') (m : H d = some (.lst ys)) : PairsAt K H' vs ps := L2.Paired.imp' (fun _ _ q => q.sbL s m) h
theorem Paired.at {α β : Type} {F : α → β → Prop} {l : List α} {m : List β} (h : Paired F l m) : ∀ {i : Nat} {a : α}, l[i]? = some a → ∃ b, m[i]? = some b ∧ F a b := by
  induction h with
  | nil => intro i a e; simp at e
  | cons h t ih =>
    intro i a e
    cases i with
    | zero => cases e; exact ⟨_, rfl, h⟩
    | succ i => exact ih e
theorem Paired.mem {α β : Type} {F : α → β → Prop} : ∀ {l : List α} {m : List β} {a : α}, Paired F l m → a ∈ l → ∃ b, b ∈ m ∧ F a b
  | _, _, _, .cons h t, e => by
    rcases List.mem_cons.mp e with z | z
    · subst z; exact ⟨_, List.mem_cons_self, h⟩
    · obtain ⟨b, h1, h2⟩ := Paired.mem t z
      exact ⟨b, List.mem_cons_of_mem _ h1, h2⟩
theorem Paired.rev {α β : Type} {F : α → β → Prop} : ∀ {l : List α} {m : List β}, Paired F l m → Paired F l.reverse m.reverse
  | _, _, .nil => .nil
  | _, _, .cons h t => by rw [List.reverse_cons, List.reverse_cons]; exact Paired.snoc (Paired.rev t) h
/-- what a dict holds of names and numbers -/
structure DAt (H : Hp) (d : Addr) (ks : List Str) (f : Str → Num) : Prop where
  ex : ∃ kvs : List (Key × V), H d = some (.dK kvs) ∧ kvs.map (·.1) = ks.map Sum.inr ∧ (∀ n, n ∈ ks → ∃ a, valV kvs (Sum.inr n) = some (.ref a) ∧ H a = some (tNum (f n))) ∧ ∀ n, n ∉ ks → valV kvs (Sum.inr n) = none
  nd : ks.Nodup
theorem putK_keys {kvs : List (Key × V)} {ks : List Str} {n : Str} {v : V} (e : kvs.map (·.1) = ks.map Sum.inr) : (putK kvs (Sum.inr n) v).map (·.1) = (if n ∈ ks then ks else ks ++ [n]).map Sum.inr := by
  have hm : (kvs.any fun kv => decide (kv.1 = Sum.inr n)) = decide (n ∈ ks) := by
    rw [Bool.eq_iff_iff, List.any_eq_true, decide_eq_true_eq]
    constructor
    · rintro ⟨kv, h1, h2⟩
      have : kv.1 ∈ ks.map Sum.inr := by rw [← e]; exact List.mem_map_of_mem h1
      rw [of_decide_eq_true h2] at this
      obtain ⟨m, hm, z⟩ := List.mem_map.mp this
      cases z; exact hm
    · intro h
      have : (Sum.inr n : Key) ∈ kvs.map (·.1) := by rw [e]; exact List.mem_map_of_mem h
      obtain ⟨kv, h1, h2⟩ := List.mem_map.mp this
      exact ⟨kv, h1, decide_eq_true h2⟩
  unfold putK
  rw [hm]
  by_cases c : n ∈ ks
  · rw [decide_eq_true c, if_pos rfl, if_pos c, ← e, List.map_map]
    refine List.map_congr_left fun kv _ => ?_
    show (if kv.1 = Sum.inr n then (kv.1, v) else kv).1 = kv.1
    split <;> rfl
  · rw [decide_eq_false c, if_neg (by decide), if_neg c, List.map_append, List.map_append, e]
    rfl
theorem DAt.put {H : Hp} {d r : Addr} {ks : List Str} {f f' : Str → Num} {n : Str} {x : Num} (h : DAt H d ks f) (hr : H r = none) (e1 : f' n = x) (e2 : ∀ m, m ≠ n → f' m = f m) :
    ∃ kvs, upd H r (tNum x) d = some (.dK kvs) ∧ kvs.length = ks.length ∧ DAt (upd (upd H r (tNum x)) d (.dK (putK kvs (Sum.inr n) (.ref r)))) d (if n ∈ ks then ks else ks ++ [n]) f' := by
  obtain ⟨⟨kvs, hd, ek, hv, hn⟩, nd⟩ := h
  have ndr : d ≠ r := ne_of_none hd hr
  refine ⟨kvs, by rw [upd_ne ndr]; exact hd, by have := congrArg List.length ek; simpa using this, ⟨⟨_, upd_same, putK_keys ek, fun m hm => ?_, fun m hm => ?_⟩, ?_⟩⟩
  · rw [valV_put]
    by_cases c : m = n
    · subst c
      rw [if_pos rfl]
      refine ⟨r, rfl, ?_⟩
      rw [upd_ne (Ne.symm ndr), upd_same, e1]
    · rw [if_neg (fun z => c (Sum.inr.inj z))]
      have hm' : m ∈ ks := by
        by_cases c2 : n ∈ ks
        · rw [if_pos c2] at hm; exact hm
        · rw [if_neg c2] at hm
          rcases List.mem_append.mp hm with z | z
          · exact z
          · exact absurd (List.mem_singleton.mp z) c
      obtain ⟨a, h1, h2⟩ := hv m hm'
      refine ⟨a, h1, ?_⟩
      rw [upd_ne (ne_of h2 hd (by intro z; cases z)), upd_ne (ne_of_none h2 hr), e2 m c]
      exact h2
  · rw [valV_put]
    have hmn : m ≠ n := fun z => hm (by subst z; split <;> simp_all)
    rw [if_neg (fun z => hmn (Sum.inr.inj z))]
    refine hn m fun z => hm ?_
    split
    · exact z
    · exact List.mem_append_left _ z
  · split
    · exact nd
    · rename_i c; exact nd_snoc nd c
theorem forB_seq {K : PySem.W.Frag} {g : TG} {tb : TS} {D : Ends} {σ : St} {H : Hp} {a : Addr} {xs : List V} (hq : SqL K H a xs ∨ SqT K H a xs) (Pv : Nat → St → Hp → Prop) (h0 : Pv 0 σ H)
    (hl : ∀ i σ H', Pv i σ H' → (SqL K H a xs → SqL K H' a xs) ∧ (SqT K H a xs → SqT K H' a xs))
    (hs : ∀ i x σ H, xs[i]? = some x → Pv i σ H → g x σ H fun σ2 H2 => tb { D with nx := Pv (i + 1), ct := Pv (i + 1), bk := D.nx } σ2 H2) (hd : ∀ σ H, Pv xs.length σ H → D.nx σ H) :
    ((∃ xs, SqL K H a xs) ∧ ForB (Itl K a) g tb D σ H) ∨ ((∃ xs, SqT K H a xs) ∧ ForB (Itt K a) g tb D σ H) := by
  rcases hq with hq | hq
  · exact .inl ⟨⟨xs, hq⟩, forB_list Pv h0 (fun i σ H' _ p => (hl i σ H' p).1 hq) hs hd⟩
  · exact .inr ⟨⟨xs, hq⟩, forB_tup Pv h0 (fun i σ H' _ p => (hl i σ H' p).2 hq) hs hd⟩
theorem tot_out {ps : List Pr} {n : Str} (h : ∀ p ∈ ps, p.1 ≠ n) : tot ps n = (0, 1) := by
  revert h
  refine snoc_ind (M := fun ps : List Pr => (∀ p ∈ ps, p.1 ≠ n) → tot ps n = (0, 1)) (fun _ => rfl) (fun l a ih h => ?_) ps
  rw [tot_snoc, if_neg (h a (by simp)), ih fun p hp => h p (List.mem_append_left _ hp)]
theorem take_snoc {α : Type} {l : List α} {i : Nat} {a : α} (h : l[i]? = some a) : l.take (i + 1) = l.take i ++ [a] := by rw [List.take_add_one, h]; rfl
theorem cnt_take (ps : List Pr) (i : Nat) (n : Str) : cnt (ps.take i) n ≤ cnt ps n := List.Sublist.countP_le (List.take_sublist _ _)
theorem rising {ss : List Str} (h : PyProof.Rows.sortedS ss = true) (nd : ss.Nodup) : ss.Pairwise SLt := by
  have key : ∀ (l : List Str) (p : Str), PyProof.Rows.risingS p l = true → (∀ q ∈ l, ¬ q.cps.toList < p.cps.toList) ∧ l.Pairwise (fun a b => ¬ b.cps.toList < a.cps.toList) := by
    intro l
    induction l with
    | nil => intro p _; exact ⟨fun q hq => (by cases hq), .nil⟩
    | cons q l ih =>
      intro p hp
      have hp : (!PySem.Spec.ltCps q.cps.toList p.cps.toList && PyProof.Rows.risingS q l) = true := hp
      rw [Bool.and_eq_true, Bool.not_eq_true', PyProof.Rows.ltCps_eq, decide_eq_false_iff_not] at hp
      obtain ⟨i1, i2⟩ := ih q hp.2
      refine ⟨fun r hr => ?_, List.pairwise_cons.mpr ⟨i1, i2⟩⟩
      rcases List.mem_cons.mp hr with z | z
      · subst z; exact hp.1
      · exact fun lt => (PyProof.Rows.strKind.negTrans r.cps.toList q.cps.toList p.cps.toList (decide_eq_true lt)).elim (fun h => i1 r z (of_decide_eq_true h)) (fun h => hp.1 (of_decide_eq_true h))
  have pw : ss.Pairwise (fun a b => ¬ b.cps.toList < a.cps.toList) := by
    cases ss with
    | nil => exact .nil
    | cons p l =>
      obtain ⟨i1, i2⟩ := key l p h
      exact List.pairwise_cons.mpr ⟨i1, i2⟩
  exact pw.imp₂ (fun a b h1 h2 => ⟨h1, h2⟩) nd
/-- a sum: its number, its pairs -/
def SumAt (K : PySem.W.Frag) (H : Hp) (v : V) (an : Addr) (L : List Pr) : Prop := ∃ (r f : Addr) (vs : List V), v = .ref r ∧ SqT K H r [.ref an, .ref f] ∧ SqT K H f vs ∧ PairsAt K H vs L
def nz (ps : List Pr) (n : Str) : Bool := !decide (tot ps n = (0, 1))
def canonL (ps : List Pr) (ss : List Str) : List Pr := (ss.filter (nz ps)).map fun n => (n, tot ps n)
theorem canon_of {ps : List Pr} {ss ks : List Str} (h : PyProof.Rows.sortedS ss = true) (pm : ss.Perm ks) (nd : ks.Nodup) (hk : ∀ n, n ∈ ks ↔ ∃ p ∈ ps, p.1 = n) : Canon ps (canonL ps ss) := by
  have hr := rising h (pm.nodup_iff.mpr nd)
  refine ⟨List.pairwise_map.mpr (hr.sublist List.filter_sublist), fun p => ?_⟩
  unfold canonL
  rw [List.mem_map]
  constructor
  · rintro ⟨n, hn, rfl⟩
    have := (List.mem_filter.mp hn).2
    exact ⟨rfl, by simpa [nz] using this⟩
  · rintro ⟨e, n0⟩
    refine ⟨p.1, List.mem_filter.mpr ⟨pm.mem_iff.mpr ((hk p.1).mpr ?_), by unfold nz; rw [← e, decide_eq_false n0]; rfl⟩, Prod.ext rfl e.symm⟩
    by_cases c : ∃ q ∈ ps, q.1 = p.1
    · exact c
    · exact absurd (e.trans (tot_out fun q hq z => c ⟨q, hq, z⟩)) n0
end W

set_option Elab.async false
set_option linter.all false
set_option maxRecDepth 100000
set_option maxHeartbeats 4000000
namespace W
open PySem L2
def top (i : Nat) : Stmt := PySem.Challenge.pw_fitwhatever_k04_sums_made.main.body.getD i (.Pass ⟨0, 0, 0, 0⟩)
abbrev s_common_divisor : Stmt := top 2
abbrev s_lowest_terms : Stmt := top 3
abbrev s_plus : Stmt := top 4
abbrev s_sum_of : Stmt := top 6
abbrev s__law_well : Stmt := top 8
abbrev s__law_take : Stmt := top 9
abbrev s__law_common : Stmt := top 10
abbrev s__law_num : Stmt := top 11
abbrev s__law_add : Stmt := top 12
abbrev s__law_mul : Stmt := top 13
abbrev s__law_number : Stmt := top 14
abbrev s__law_whole : Stmt := top 15
abbrev s__law_is : Stmt := top 16
abbrev s__law_name : Stmt := top 17
abbrev s__law_names : Stmt := top 18
abbrev s__law_is_sum : Stmt := top 19
abbrev s__law_pairs : Stmt := top 20
abbrev s__law_due : Stmt := top 21
abbrev s_law : Stmt := top 22
structure Adr where
  f_common_divisor : Addr
  d_common_divisor : FuncData
  f_lowest_terms : Addr
  d_lowest_terms : FuncData
  f_plus : Addr
  d_plus : FuncData
  f_sum_of : Addr
  d_sum_of : FuncData
  f__law_well : Addr
  d__law_well : FuncData
  f__law_take : Addr
  d__law_take : FuncData
  f__law_common : Addr
  d__law_common : FuncData
  f__law_num : Addr
  d__law_num : FuncData
  f__law_add : Addr
  d__law_add : FuncData
  f__law_mul : Addr
  d__law_mul : FuncData
  f__law_number : Addr
  d__law_number : FuncData
  f__law_whole : Addr
  d__law_whole : FuncData
  f__law_is : Addr
  d__law_is : FuncData
  f__law_name : Addr
  d__law_name : FuncData
  f__law_names : Addr
  d__law_names : FuncData
  f__law_is_sum : Addr
  d__law_is_sum : FuncData
  f__law_pairs : Addr
  d__law_pairs : FuncData
  f__law_due : Addr
  d__law_due : FuncData
  f_law : Addr
  d_law : FuncData
  K_ZERO : Addr
structure Txt (K : PySem.W.Frag) (mg : Str → Option Value) (a : Adr) : Prop where
  mg_common_divisor : mg "common_divisor" = some (.ref a.f_common_divisor)
  fun_common_divisor : FunD K "common_divisor" "common_divisor" s_common_divisor a.f_common_divisor a.d_common_divisor .none
  kp_common_divisor : PySem.W.keepIn K (.ref a.f_common_divisor) = true
  bn_common_divisor : Binds K a.d_common_divisor ["a", "b"] []
  mg_lowest_terms : mg "lowest_terms" = some (.ref a.f_lowest_terms)
  fun_lowest_terms : FunD K "lowest_terms" "lowest_terms" s_lowest_terms a.f_lowest_terms a.d_lowest_terms .none
  kp_lowest_terms : PySem.W.keepIn K (.ref a.f_lowest_terms) = true
  bn_lowest_terms : Binds K a.d_lowest_terms ["top", "bottom"] []
  mg_plus : mg "plus" = some (.ref a.f_plus)
  fun_plus : FunD K "plus" "plus" s_plus a.f_plus a.d_plus .none
  kp_plus : PySem.W.keepIn K (.ref a.f_plus) = true
  bn_plus : Binds K a.d_plus ["a", "b"] []
  mg_sum_of : mg "sum_of" = some (.ref a.f_sum_of)
  fun_sum_of : FunD K "sum_of" "sum_of" s_sum_of a.f_sum_of a.d_sum_of .none
  kp_sum_of : PySem.W.keepIn K (.ref a.f_sum_of) = true
  bn_sum_of : Binds K a.d_sum_of ["number", "pairs"] []
  mg__law_well : mg "_law_well" = some (.ref a.f__law_well)
  fun__law_well : FunD K "_law_well" "_law_well" s__law_well a.f__law_well a.d__law_well .none
  kp__law_well : PySem.W.keepIn K (.ref a.f__law_well) = true
  bn__law_well : Binds K a.d__law_well ["_law_script", "_law_k"] []
  mg__law_take : mg "_law_take" = some (.ref a.f__law_take)
  fun__law_take : FunD K "_law_take" "_law_take" s__law_take a.f__law_take a.d__law_take .none
  kp__law_take : PySem.W.keepIn K (.ref a.f__law_take) = true
  bn__law_take : Binds K a.d__law_take ["_law_well_here", "_law_many"] []
  mg__law_common : mg "_law_common" = some (.ref a.f__law_common)
  fun__law_common : FunD K "_law_common" "_law_common" s__law_common a.f__law_common a.d__law_common .none
  kp__law_common : PySem.W.keepIn K (.ref a.f__law_common) = true
  bn__law_common : Binds K a.d__law_common ["_law_one", "_law_other"] []
  mg__law_num : mg "_law_num" = some (.ref a.f__law_num)
  fun__law_num : FunD K "_law_num" "_law_num" s__law_num a.f__law_num a.d__law_num .none
  kp__law_num : PySem.W.keepIn K (.ref a.f__law_num) = true
  bn__law_num : Binds K a.d__law_num ["_law_top", "_law_bottom"] []
  mg__law_add : mg "_law_add" = some (.ref a.f__law_add)
  fun__law_add : FunD K "_law_add" "_law_add" s__law_add a.f__law_add a.d__law_add .none
  kp__law_add : PySem.W.keepIn K (.ref a.f__law_add) = true
  bn__law_add : Binds K a.d__law_add ["_law_one", "_law_other"] []
  mg__law_mul : mg "_law_mul" = some (.ref a.f__law_mul)
  fun__law_mul : FunD K "_law_mul" "_law_mul" s__law_mul a.f__law_mul a.d__law_mul .none
  kp__law_mul : PySem.W.keepIn K (.ref a.f__law_mul) = true
  bn__law_mul : Binds K a.d__law_mul ["_law_one", "_law_other"] []
  mg__law_number : mg "_law_number" = some (.ref a.f__law_number)
  fun__law_number : FunD K "_law_number" "_law_number" s__law_number a.f__law_number a.d__law_number .none
  kp__law_number : PySem.W.keepIn K (.ref a.f__law_number) = true
  bn__law_number : Binds K a.d__law_number ["_law_well_here"] []
  mg__law_whole : mg "_law_whole" = some (.ref a.f__law_whole)
  fun__law_whole : FunD K "_law_whole" "_law_whole" s__law_whole a.f__law_whole a.d__law_whole .none
  kp__law_whole : PySem.W.keepIn K (.ref a.f__law_whole) = true
  bn__law_whole : Binds K a.d__law_whole ["_law_found"] []
  mg__law_is : mg "_law_is" = some (.ref a.f__law_is)
  fun__law_is : FunD K "_law_is" "_law_is" s__law_is a.f__law_is a.d__law_is .none
  kp__law_is : PySem.W.keepIn K (.ref a.f__law_is) = true
  bn__law_is : Binds K a.d__law_is ["_law_found", "_law_due_here"] []
  mg__law_name : mg "_law_name" = some (.ref a.f__law_name)
  fun__law_name : FunD K "_law_name" "_law_name" s__law_name a.f__law_name a.d__law_name .none
  kp__law_name : PySem.W.keepIn K (.ref a.f__law_name) = true
  bn__law_name : Binds K a.d__law_name ["_law_well_here", "_law_most"] []
  mg__law_names : mg "_law_names" = some (.ref a.f__law_names)
  fun__law_names : FunD K "_law_names" "_law_names" s__law_names a.f__law_names a.d__law_names .none
  kp__law_names : PySem.W.keepIn K (.ref a.f__law_names) = true
  bn__law_names : Binds K a.d__law_names ["_law_well_here", "_law_many"] []
  mg__law_is_sum : mg "_law_is_sum" = some (.ref a.f__law_is_sum)
  fun__law_is_sum : FunD K "_law_is_sum" "_law_is_sum" s__law_is_sum a.f__law_is_sum a.d__law_is_sum .none
  kp__law_is_sum : PySem.W.keepIn K (.ref a.f__law_is_sum) = true
  bn__law_is_sum : Binds K a.d__law_is_sum ["_law_found", "_law_due_here"] []
  mg__law_pairs : mg "_law_pairs" = some (.ref a.f__law_pairs)
  fun__law_pairs : FunD K "_law_pairs" "_law_pairs" s__law_pairs a.f__law_pairs a.d__law_pairs .none
  kp__law_pairs : PySem.W.keepIn K (.ref a.f__law_pairs) = true
  bn__law_pairs : Binds K a.d__law_pairs ["_law_well_here"] []
  mg__law_due : mg "_law_due" = some (.ref a.f__law_due)
  fun__law_due : FunD K "_law_due" "_law_due" s__law_due a.f__law_due a.d__law_due .none
  kp__law_due : PySem.W.keepIn K (.ref a.f__law_due) = true
  bn__law_due : Binds K a.d__law_due ["_law_number_here", "_law_pairs_here"] []
  mg_law : mg "law" = some (.ref a.f_law)
  fun_law : FunD K "law" "law" s_law a.f_law a.d_law .none
  kp_law : PySem.W.keepIn K (.ref a.f_law) = true
  bn_law : Binds K a.d_law ["_law_script"] []
  b_len : mg "len" = none
  b_isinstance : mg "isinstance" = none
  b_abs : mg "abs" = none
  b_max : mg "max" = none
  b_min : mg "min" = none
  b_int : mg "int" = none
  b_bool : mg "bool" = none
  b_str : mg "str" = none
  b_tuple : mg "tuple" = none
  b_list : mg "list" = none
  b_range : mg "range" = none
  b_sorted : mg "sorted" = none
  b_zip : mg "zip" = none
  mg_ZERO : mg "ZERO" = some (.ref a.K_ZERO)
  z_ZERO : ∀ H, SqT K H a.K_ZERO [.int 0, .int 1]
theorem sc_common_divisor : FnScope ["a", "b", "rest"] ["a", "b"] (defScope s_common_divisor) := ⟨rfl, rfl, rfl, by decide +kernel, rfl, by decide +kernel, by decide +kernel⟩
theorem sc_lowest_terms : FnScope ["top", "bottom", "divisor"] ["top", "bottom"] (defScope s_lowest_terms) := ⟨rfl, rfl, rfl, by decide +kernel, rfl, by decide +kernel, by decide +kernel⟩
theorem sc_plus : FnScope ["a", "b"] ["a", "b"] (defScope s_plus) := ⟨rfl, rfl, rfl, by decide +kernel, rfl, by decide +kernel, by decide +kernel⟩
theorem sc_sum_of : FnScope ["number", "pairs", "factors", "name", "factor"] ["number", "pairs"] (defScope s_sum_of) := ⟨rfl, rfl, rfl, by decide +kernel, rfl, by decide +kernel, by decide +kernel⟩
theorem sc__law_well : FnScope ["_law_script", "_law_k", "_law_cell"] ["_law_script", "_law_k"] (defScope s__law_well) := ⟨rfl, rfl, rfl, by decide +kernel, rfl, by decide +kernel, by decide +kernel⟩
theorem sc__law_take : FnScope ["_law_well_here", "_law_many", "_law_digit", "_law_turn", "_law_number_here"] ["_law_well_here", "_law_many"] (defScope s__law_take) := ⟨rfl, rfl, rfl, by decide +kernel, rfl, by decide +kernel, by decide +kernel⟩
theorem sc__law_common : FnScope ["_law_one", "_law_other"] ["_law_one", "_law_other"] (defScope s__law_common) := ⟨rfl, rfl, rfl, by decide +kernel, rfl, by decide +kernel, by decide +kernel⟩
theorem sc__law_num : FnScope ["_law_top", "_law_bottom", "_law_by"] ["_law_top", "_law_bottom"] (defScope s__law_num) := ⟨rfl, rfl, rfl, by decide +kernel, rfl, by decide +kernel, by decide +kernel⟩
theorem sc__law_add : FnScope ["_law_one", "_law_other"] ["_law_one", "_law_other"] (defScope s__law_add) := ⟨rfl, rfl, rfl, by decide +kernel, rfl, by decide +kernel, by decide +kernel⟩
theorem sc__law_mul : FnScope ["_law_one", "_law_other"] ["_law_one", "_law_other"] (defScope s__law_mul) := ⟨rfl, rfl, rfl, by decide +kernel, rfl, by decide +kernel, by decide +kernel⟩
theorem sc__law_number : FnScope ["_law_well_here", "_law_way"] ["_law_well_here"] (defScope s__law_number) := ⟨rfl, rfl, rfl, by decide +kernel, rfl, by decide +kernel, by decide +kernel⟩
theorem sc__law_whole : FnScope ["_law_found"] ["_law_found"] (defScope s__law_whole) := ⟨rfl, rfl, rfl, by decide +kernel, rfl, by decide +kernel, by decide +kernel⟩
theorem sc__law_is : FnScope ["_law_found", "_law_due_here"] ["_law_found", "_law_due_here"] (defScope s__law_is) := ⟨rfl, rfl, rfl, by decide +kernel, rfl, by decide +kernel, by decide +kernel⟩
theorem sc__law_name : FnScope ["_law_well_here", "_law_most", "_law_signs", "_law_size"] ["_law_well_here", "_law_most"] (defScope s__law_name) := ⟨rfl, rfl, rfl, by decide +kernel, rfl, by decide +kernel, by decide +kernel⟩
theorem sc__law_names : FnScope ["_law_well_here", "_law_many", "_law_names_here", "_law_name_here", "_law_turn"] ["_law_well_here", "_law_many"] (defScope s__law_names) := ⟨rfl, rfl, rfl, by decide +kernel, rfl, by decide +kernel, by decide +kernel⟩
theorem sc__law_is_sum : FnScope ["_law_found", "_law_due_here", "_law_one", "_law_other"] ["_law_found", "_law_due_here"] (defScope s__law_is_sum) := ⟨rfl, rfl, rfl, by decide +kernel, rfl, by decide +kernel, by decide +kernel⟩
theorem sc__law_pairs : FnScope ["_law_well_here", "_law_names_here", "_law_pairs_here", "_law_k", "_law_name_here", "_law_number_here"] ["_law_well_here"] (defScope s__law_pairs) := ⟨rfl, rfl, rfl, by decide +kernel, rfl, by decide +kernel, by decide +kernel⟩
theorem sc__law_due : FnScope ["_law_number_here", "_law_pairs_here", "_law_factors", "_law_name_here", "_law_factor"] ["_law_number_here", "_law_pairs_here"] (defScope s__law_due) := ⟨rfl, rfl, rfl, by decide +kernel, rfl, by decide +kernel, by decide +kernel⟩
theorem sc_law : FnScope ["_law_script", "_law_k", "_law_well_here", "_law_number_here", "_law_pairs_here", "_law_handed", "_law_due_here", "_law_found"] ["_law_script"] (defScope s_law) := ⟨rfl, rfl, rfl, by decide +kernel, rfl, by decide +kernel, by decide +kernel⟩
/-- where a comprehension stands -/
def eK (e : Expr) (i : Nat) : Expr := (match e with
  | .BoolOp _ vs _ => vs | .BinOp a _ b _ => [a, b] | .UnaryOp _ a _ => [a] | .IfExp a b c _ => [a, b, c] | .Compare a _ bs _ => a :: bs
  | .Call f as _ _ => f :: as | .Attribute v _ _ => [v] | .Subscript a b _ => [a, b] | .List es _ => es | .Tuple es _ _ => es | _ => []).getD i (.Name "" ⟨0, 0, 0, 0⟩)
def eI (e : Expr) : Expr := match e with
  | .ListComp _ (g :: _) _ _ => g.iter
  | _ => .Name "" ⟨0, 0, 0, 0⟩
def sK (s : Stmt) (i : Nat) : Stmt := (match s with
  | .FunctionDef _ _ b _ _ _ _ _ _ _ => b | .For _ _ b _ _ => b | .While _ b _ _ => b | .If _ b o _ => b ++ o | .Try b _ _ _ _ => b | _ => []).getD i (.Pass ⟨0, 0, 0, 0⟩)
def sE (s : Stmt) : Expr := match s with
  | .Assign _ v _ => v | .Return (some v) _ => v | .Expr v _ => v | .If t _ _ _ => t | .While t _ _ _ => t | .For _ it _ _ _ => it
  | _ => .Name "" ⟨0, 0, 0, 0⟩
def eS (e : Expr) : Scope := match e with
  | .ListComp _ _ sc _ => sc
  | _ => defScope (.Pass ⟨0, 0, 0, 0⟩)
abbrev cs_sum_of_0 : Scope := eS (eK (eK (sE (sK s_sum_of 2)) 1) 1)
theorem csc_sum_of_0 : CompSc ["number", "pairs", "factors", "name", "factor"] ["number", "pairs", "factors", "name (of the def)", "factor", "name"] 1 cs_sum_of_0 (defScope s_sum_of) := ⟨rfl, by decide +kernel, by decide +kernel, rfl, by decide +kernel, by decide +kernel, by decide +kernel, by decide +kernel⟩
abbrev cs__law_name_0 : Scope := eS (eK (sE (sK s__law_name 2)) 1)
theorem csc__law_name_0 : CompSc ["_law_well_here", "_law_most", "_law_signs", "_law_size"] ["_law_well_here", "_law_most", "_law_signs", "_law_size", "_law_k"] 1 cs__law_name_0 (defScope s__law_name) := ⟨rfl, by decide +kernel, by decide +kernel, rfl, by decide +kernel, by decide +kernel, by decide +kernel, by decide +kernel⟩
abbrev cs__law_due_0 : Scope := eS (eK (eK (sE (sK s__law_due 2)) 1) 1)
theorem csc__law_due_0 : CompSc ["_law_number_here", "_law_pairs_here", "_law_factors", "_law_name_here", "_law_factor"] ["_law_number_here", "_law_pairs_here", "_law_factors", "_law_name_here (of the def)", "_law_factor", "_law_name_here"] 1 cs__law_due_0 (defScope s__law_due) := ⟨rfl, by decide +kernel, by decide +kernel, rfl, by decide +kernel, by decide +kernel, by decide +kernel, by decide +kernel⟩
theorem lc_sum_of_0_name : cs_sum_of_0.names.lookup ("name" : Str) = some NameKind.local := by decide +kernel
theorem lc_sum_of_0_factors : cs_sum_of_0.names.lookup ("factors" : Str) = some NameKind.free := by decide +kernel
theorem lc_sum_of_0_ZERO : cs_sum_of_0.names.lookup ("ZERO" : Str) = some NameKind.globalImplicit := by decide +kernel
theorem lc__law_name_0__law_k : cs__law_name_0.names.lookup ("_law_k" : Str) = some NameKind.local := by decide +kernel
theorem lc__law_name_0__law_signs : cs__law_name_0.names.lookup ("_law_signs" : Str) = some NameKind.free := by decide +kernel
theorem lc__law_name_0__law_take : cs__law_name_0.names.lookup ("_law_take" : Str) = some NameKind.globalImplicit := by decide +kernel
theorem lc__law_name_0__law_well_here : cs__law_name_0.names.lookup ("_law_well_here" : Str) = some NameKind.free := by decide +kernel
theorem lc__law_due_0__law_name_here : cs__law_due_0.names.lookup ("_law_name_here" : Str) = some NameKind.local := by decide +kernel
theorem lc__law_due_0__law_factors : cs__law_due_0.names.lookup ("_law_factors" : Str) = some NameKind.free := by decide +kernel
theorem lk_common_divisor_b : (defScope s_common_divisor).names.lookup ("b" : Str) = some NameKind.local := by decide +kernel
theorem lk_common_divisor_rest : (defScope s_common_divisor).names.lookup ("rest" : Str) = some NameKind.local := by decide +kernel
theorem lk_common_divisor_a : (defScope s_common_divisor).names.lookup ("a" : Str) = some NameKind.local := by decide +kernel
theorem lk_lowest_terms_divisor : (defScope s_lowest_terms).names.lookup ("divisor" : Str) = some NameKind.local := by decide +kernel
theorem lk_lowest_terms_common_divisor : (defScope s_lowest_terms).names.lookup ("common_divisor" : Str) = some NameKind.globalImplicit := by decide +kernel
theorem lk_lowest_terms_bottom : (defScope s_lowest_terms).names.lookup ("bottom" : Str) = some NameKind.local := by decide +kernel
theorem lk_lowest_terms_top : (defScope s_lowest_terms).names.lookup ("top" : Str) = some NameKind.local := by decide +kernel
theorem lk_plus_lowest_terms : (defScope s_plus).names.lookup ("lowest_terms" : Str) = some NameKind.globalImplicit := by decide +kernel
theorem lk_plus_a : (defScope s_plus).names.lookup ("a" : Str) = some NameKind.local := by decide +kernel
theorem lk_plus_b : (defScope s_plus).names.lookup ("b" : Str) = some NameKind.local := by decide +kernel
theorem lk_sum_of_factors : (defScope s_sum_of).names.lookup ("factors" : Str) = some NameKind.cell := by decide +kernel
theorem lk_sum_of_pairs : (defScope s_sum_of).names.lookup ("pairs" : Str) = some NameKind.local := by decide +kernel
theorem lk_sum_of_factor : (defScope s_sum_of).names.lookup ("factor" : Str) = some NameKind.local := by decide +kernel
theorem lk_sum_of_name : (defScope s_sum_of).names.lookup ("name" : Str) = some NameKind.local := by decide +kernel
theorem lk_sum_of_plus : (defScope s_sum_of).names.lookup ("plus" : Str) = some NameKind.globalImplicit := by decide +kernel
theorem lk_sum_of_ZERO : (defScope s_sum_of).names.lookup ("ZERO" : Str) = some NameKind.globalImplicit := by decide +kernel
theorem lk_sum_of_tuple : (defScope s_sum_of).names.lookup ("tuple" : Str) = some NameKind.globalImplicit := by decide +kernel
theorem lk_sum_of_sorted : (defScope s_sum_of).names.lookup ("sorted" : Str) = some NameKind.globalImplicit := by decide +kernel
theorem lk_sum_of_number : (defScope s_sum_of).names.lookup ("number" : Str) = some NameKind.local := by decide +kernel
theorem lk__law_well__law_cell : (defScope s__law_well).names.lookup ("_law_cell" : Str) = some NameKind.local := by decide +kernel
theorem lk__law_well__law_k : (defScope s__law_well).names.lookup ("_law_k" : Str) = some NameKind.local := by decide +kernel
theorem lk__law_well_len : (defScope s__law_well).names.lookup ("len" : Str) = some NameKind.globalImplicit := by decide +kernel
theorem lk__law_well__law_script : (defScope s__law_well).names.lookup ("_law_script" : Str) = some NameKind.local := by decide +kernel
theorem lk__law_well_int : (defScope s__law_well).names.lookup ("int" : Str) = some NameKind.globalImplicit := by decide +kernel
theorem lk__law_well_abs : (defScope s__law_well).names.lookup ("abs" : Str) = some NameKind.globalImplicit := by decide +kernel
theorem lk__law_take__law_well_here : (defScope s__law_take).names.lookup ("_law_well_here" : Str) = some NameKind.local := by decide +kernel
theorem lk__law_take__law_digit : (defScope s__law_take).names.lookup ("_law_digit" : Str) = some NameKind.local := by decide +kernel
theorem lk__law_take__law_many : (defScope s__law_take).names.lookup ("_law_many" : Str) = some NameKind.local := by decide +kernel
theorem lk__law_take__law_turn : (defScope s__law_take).names.lookup ("_law_turn" : Str) = some NameKind.local := by decide +kernel
theorem lk__law_take__law_number_here : (defScope s__law_take).names.lookup ("_law_number_here" : Str) = some NameKind.local := by decide +kernel
theorem lk__law_common__law_other : (defScope s__law_common).names.lookup ("_law_other" : Str) = some NameKind.local := by decide +kernel
theorem lk__law_common__law_one : (defScope s__law_common).names.lookup ("_law_one" : Str) = some NameKind.local := by decide +kernel
theorem lk__law_common_abs : (defScope s__law_common).names.lookup ("abs" : Str) = some NameKind.globalImplicit := by decide +kernel
theorem lk__law_num__law_bottom : (defScope s__law_num).names.lookup ("_law_bottom" : Str) = some NameKind.local := by decide +kernel
theorem lk__law_num__law_top : (defScope s__law_num).names.lookup ("_law_top" : Str) = some NameKind.local := by decide +kernel
theorem lk__law_num__law_by : (defScope s__law_num).names.lookup ("_law_by" : Str) = some NameKind.local := by decide +kernel
theorem lk__law_num__law_common : (defScope s__law_num).names.lookup ("_law_common" : Str) = some NameKind.globalImplicit := by decide +kernel
theorem lk__law_add__law_num : (defScope s__law_add).names.lookup ("_law_num" : Str) = some NameKind.globalImplicit := by decide +kernel
theorem lk__law_add__law_one : (defScope s__law_add).names.lookup ("_law_one" : Str) = some NameKind.local := by decide +kernel
theorem lk__law_add__law_other : (defScope s__law_add).names.lookup ("_law_other" : Str) = some NameKind.local := by decide +kernel
theorem lk__law_mul__law_num : (defScope s__law_mul).names.lookup ("_law_num" : Str) = some NameKind.globalImplicit := by decide +kernel
theorem lk__law_mul__law_one : (defScope s__law_mul).names.lookup ("_law_one" : Str) = some NameKind.local := by decide +kernel
theorem lk__law_mul__law_other : (defScope s__law_mul).names.lookup ("_law_other" : Str) = some NameKind.local := by decide +kernel
theorem lk__law_number__law_way : (defScope s__law_number).names.lookup ("_law_way" : Str) = some NameKind.local := by decide +kernel
theorem lk__law_number__law_take : (defScope s__law_number).names.lookup ("_law_take" : Str) = some NameKind.globalImplicit := by decide +kernel
theorem lk__law_number__law_well_here : (defScope s__law_number).names.lookup ("_law_well_here" : Str) = some NameKind.local := by decide +kernel
theorem lk__law_number__law_num : (defScope s__law_number).names.lookup ("_law_num" : Str) = some NameKind.globalImplicit := by decide +kernel
theorem lk__law_whole_isinstance : (defScope s__law_whole).names.lookup ("isinstance" : Str) = some NameKind.globalImplicit := by decide +kernel
theorem lk__law_whole_bool : (defScope s__law_whole).names.lookup ("bool" : Str) = some NameKind.globalImplicit := by decide +kernel
theorem lk__law_whole__law_found : (defScope s__law_whole).names.lookup ("_law_found" : Str) = some NameKind.local := by decide +kernel
theorem lk__law_whole_int : (defScope s__law_whole).names.lookup ("int" : Str) = some NameKind.globalImplicit := by decide +kernel
theorem lk__law_is__law_whole : (defScope s__law_is).names.lookup ("_law_whole" : Str) = some NameKind.globalImplicit := by decide +kernel
theorem lk__law_is__law_found : (defScope s__law_is).names.lookup ("_law_found" : Str) = some NameKind.local := by decide +kernel
theorem lk__law_is_len : (defScope s__law_is).names.lookup ("len" : Str) = some NameKind.globalImplicit := by decide +kernel
theorem lk__law_is_isinstance : (defScope s__law_is).names.lookup ("isinstance" : Str) = some NameKind.globalImplicit := by decide +kernel
theorem lk__law_is_tuple : (defScope s__law_is).names.lookup ("tuple" : Str) = some NameKind.globalImplicit := by decide +kernel
theorem lk__law_is__law_due_here : (defScope s__law_is).names.lookup ("_law_due_here" : Str) = some NameKind.local := by decide +kernel
theorem lk__law_name__law_signs : (defScope s__law_name).names.lookup ("_law_signs" : Str) = some NameKind.cell := by decide +kernel
theorem lk__law_name__law_size : (defScope s__law_name).names.lookup ("_law_size" : Str) = some NameKind.local := by decide +kernel
theorem lk__law_name__law_take : (defScope s__law_name).names.lookup ("_law_take" : Str) = some NameKind.globalImplicit := by decide +kernel
theorem lk__law_name__law_most : (defScope s__law_name).names.lookup ("_law_most" : Str) = some NameKind.local := by decide +kernel
theorem lk__law_name_int : (defScope s__law_name).names.lookup ("int" : Str) = some NameKind.globalImplicit := by decide +kernel
theorem lk__law_name__law_well_here : (defScope s__law_name).names.lookup ("_law_well_here" : Str) = some NameKind.cell := by decide +kernel
theorem lk__law_name_range : (defScope s__law_name).names.lookup ("range" : Str) = some NameKind.globalImplicit := by decide +kernel
theorem lk__law_names__law_names_here : (defScope s__law_names).names.lookup ("_law_names_here" : Str) = some NameKind.local := by decide +kernel
theorem lk__law_names__law_name : (defScope s__law_names).names.lookup ("_law_name" : Str) = some NameKind.globalImplicit := by decide +kernel
theorem lk__law_names__law_well_here : (defScope s__law_names).names.lookup ("_law_well_here" : Str) = some NameKind.local := by decide +kernel
theorem lk__law_names_len : (defScope s__law_names).names.lookup ("len" : Str) = some NameKind.globalImplicit := by decide +kernel
theorem lk__law_names__law_many : (defScope s__law_names).names.lookup ("_law_many" : Str) = some NameKind.local := by decide +kernel
theorem lk__law_names__law_name_here : (defScope s__law_names).names.lookup ("_law_name_here" : Str) = some NameKind.local := by decide +kernel
theorem lk__law_names__law_take : (defScope s__law_names).names.lookup ("_law_take" : Str) = some NameKind.globalImplicit := by decide +kernel
theorem lk__law_names__law_turn : (defScope s__law_names).names.lookup ("_law_turn" : Str) = some NameKind.local := by decide +kernel
theorem lk__law_is_sum_isinstance : (defScope s__law_is_sum).names.lookup ("isinstance" : Str) = some NameKind.globalImplicit := by decide +kernel
theorem lk__law_is_sum_tuple : (defScope s__law_is_sum).names.lookup ("tuple" : Str) = some NameKind.globalImplicit := by decide +kernel
theorem lk__law_is_sum__law_found : (defScope s__law_is_sum).names.lookup ("_law_found" : Str) = some NameKind.local := by decide +kernel
theorem lk__law_is_sum_len : (defScope s__law_is_sum).names.lookup ("len" : Str) = some NameKind.globalImplicit := by decide +kernel
theorem lk__law_is_sum__law_due_here : (defScope s__law_is_sum).names.lookup ("_law_due_here" : Str) = some NameKind.local := by decide +kernel
theorem lk__law_is_sum__law_is : (defScope s__law_is_sum).names.lookup ("_law_is" : Str) = some NameKind.globalImplicit := by decide +kernel
theorem lk__law_is_sum_zip : (defScope s__law_is_sum).names.lookup ("zip" : Str) = some NameKind.globalImplicit := by decide +kernel
theorem lk__law_is_sum__law_other : (defScope s__law_is_sum).names.lookup ("_law_other" : Str) = some NameKind.local := by decide +kernel
theorem lk__law_is_sum__law_one : (defScope s__law_is_sum).names.lookup ("_law_one" : Str) = some NameKind.local := by decide +kernel
theorem lk__law_is_sum_str : (defScope s__law_is_sum).names.lookup ("str" : Str) = some NameKind.globalImplicit := by decide +kernel
theorem lk__law_pairs__law_names_here : (defScope s__law_pairs).names.lookup ("_law_names_here" : Str) = some NameKind.local := by decide +kernel
theorem lk__law_pairs__law_names : (defScope s__law_pairs).names.lookup ("_law_names" : Str) = some NameKind.globalImplicit := by decide +kernel
theorem lk__law_pairs__law_take : (defScope s__law_pairs).names.lookup ("_law_take" : Str) = some NameKind.globalImplicit := by decide +kernel
theorem lk__law_pairs__law_well_here : (defScope s__law_pairs).names.lookup ("_law_well_here" : Str) = some NameKind.local := by decide +kernel
theorem lk__law_pairs__law_pairs_here : (defScope s__law_pairs).names.lookup ("_law_pairs_here" : Str) = some NameKind.local := by decide +kernel
theorem lk__law_pairs_range : (defScope s__law_pairs).names.lookup ("range" : Str) = some NameKind.globalImplicit := by decide +kernel
theorem lk__law_pairs__law_k : (defScope s__law_pairs).names.lookup ("_law_k" : Str) = some NameKind.local := by decide +kernel
theorem lk__law_pairs__law_name_here : (defScope s__law_pairs).names.lookup ("_law_name_here" : Str) = some NameKind.local := by decide +kernel
theorem lk__law_pairs_len : (defScope s__law_pairs).names.lookup ("len" : Str) = some NameKind.globalImplicit := by decide +kernel
theorem lk__law_pairs__law_number_here : (defScope s__law_pairs).names.lookup ("_law_number_here" : Str) = some NameKind.local := by decide +kernel
theorem lk__law_pairs__law_number : (defScope s__law_pairs).names.lookup ("_law_number" : Str) = some NameKind.globalImplicit := by decide +kernel
theorem lk__law_pairs__law_mul : (defScope s__law_pairs).names.lookup ("_law_mul" : Str) = some NameKind.globalImplicit := by decide +kernel
theorem lk__law_pairs_int : (defScope s__law_pairs).names.lookup ("int" : Str) = some NameKind.globalImplicit := by decide +kernel
theorem lk__law_due__law_factors : (defScope s__law_due).names.lookup ("_law_factors" : Str) = some NameKind.cell := by decide +kernel
theorem lk__law_due__law_pairs_here : (defScope s__law_due).names.lookup ("_law_pairs_here" : Str) = some NameKind.local := by decide +kernel
theorem lk__law_due__law_factor : (defScope s__law_due).names.lookup ("_law_factor" : Str) = some NameKind.local := by decide +kernel
theorem lk__law_due__law_name_here : (defScope s__law_due).names.lookup ("_law_name_here" : Str) = some NameKind.local := by decide +kernel
theorem lk__law_due__law_add : (defScope s__law_due).names.lookup ("_law_add" : Str) = some NameKind.globalImplicit := by decide +kernel
theorem lk__law_due_tuple : (defScope s__law_due).names.lookup ("tuple" : Str) = some NameKind.globalImplicit := by decide +kernel
theorem lk__law_due_sorted : (defScope s__law_due).names.lookup ("sorted" : Str) = some NameKind.globalImplicit := by decide +kernel
theorem lk__law_due_list : (defScope s__law_due).names.lookup ("list" : Str) = some NameKind.globalImplicit := by decide +kernel
theorem lk__law_due__law_number_here : (defScope s__law_due).names.lookup ("_law_number_here" : Str) = some NameKind.local := by decide +kernel
theorem lk_law_range : (defScope s_law).names.lookup ("range" : Str) = some NameKind.globalImplicit := by decide +kernel
theorem lk_law_max : (defScope s_law).names.lookup ("max" : Str) = some NameKind.globalImplicit := by decide +kernel
theorem lk_law_min : (defScope s_law).names.lookup ("min" : Str) = some NameKind.globalImplicit := by decide +kernel
theorem lk_law_len : (defScope s_law).names.lookup ("len" : Str) = some NameKind.globalImplicit := by decide +kernel
theorem lk_law__law_script : (defScope s_law).names.lookup ("_law_script" : Str) = some NameKind.local := by decide +kernel
theorem lk_law__law_k : (defScope s_law).names.lookup ("_law_k" : Str) = some NameKind.local := by decide +kernel
theorem lk_law__law_well_here : (defScope s_law).names.lookup ("_law_well_here" : Str) = some NameKind.local := by decide +kernel
theorem lk_law__law_well : (defScope s_law).names.lookup ("_law_well" : Str) = some NameKind.globalImplicit := by decide +kernel
theorem lk_law__law_number_here : (defScope s_law).names.lookup ("_law_number_here" : Str) = some NameKind.local := by decide +kernel
theorem lk_law__law_number : (defScope s_law).names.lookup ("_law_number" : Str) = some NameKind.globalImplicit := by decide +kernel
theorem lk_law__law_pairs_here : (defScope s_law).names.lookup ("_law_pairs_here" : Str) = some NameKind.local := by decide +kernel
theorem lk_law__law_pairs : (defScope s_law).names.lookup ("_law_pairs" : Str) = some NameKind.globalImplicit := by decide +kernel
theorem lk_law__law_handed : (defScope s_law).names.lookup ("_law_handed" : Str) = some NameKind.local := by decide +kernel
theorem lk_law_list : (defScope s_law).names.lookup ("list" : Str) = some NameKind.globalImplicit := by decide +kernel
theorem lk_law__law_due_here : (defScope s_law).names.lookup ("_law_due_here" : Str) = some NameKind.local := by decide +kernel
theorem lk_law__law_due : (defScope s_law).names.lookup ("_law_due" : Str) = some NameKind.globalImplicit := by decide +kernel
theorem lk_law__law_found : (defScope s_law).names.lookup ("_law_found" : Str) = some NameKind.local := by decide +kernel
theorem lk_law_sum_of : (defScope s_law).names.lookup ("sum_of" : Str) = some NameKind.globalImplicit := by decide +kernel
theorem lk_law__law_is_sum : (defScope s_law).names.lookup ("_law_is_sum" : Str) = some NameKind.globalImplicit := by decide +kernel
theorem lk_law_tuple : (defScope s_law).names.lookup ("tuple" : Str) = some NameKind.globalImplicit := by decide +kernel
theorem nd_ZERO : (("ZERO" : Str) == ("__debug__" : Str)) = false ∧ (("ZERO" : Str) == ("__classdict__" : Str)) = false := by decide +kernel
theorem nd__law_add : (("_law_add" : Str) == ("__debug__" : Str)) = false ∧ (("_law_add" : Str) == ("__classdict__" : Str)) = false := by decide +kernel
theorem nd__law_bottom : (("_law_bottom" : Str) == ("__debug__" : Str)) = false ∧ (("_law_bottom" : Str) == ("__classdict__" : Str)) = false := by decide +kernel
theorem nd__law_by : (("_law_by" : Str) == ("__debug__" : Str)) = false ∧ (("_law_by" : Str) == ("__classdict__" : Str)) = false := by decide +kernel
theorem nd__law_cell : (("_law_cell" : Str) == ("__debug__" : Str)) = false ∧ (("_law_cell" : Str) == ("__classdict__" : Str)) = false := by decide +kernel
theorem nd__law_common : (("_law_common" : Str) == ("__debug__" : Str)) = false ∧ (("_law_common" : Str) == ("__classdict__" : Str)) = false := by decide +kernel
theorem nd__law_digit : (("_law_digit" : Str) == ("__debug__" : Str)) = false ∧ (("_law_digit" : Str) == ("__classdict__" : Str)) = false := by decide +kernel
theorem nd__law_due : (("_law_due" : Str) == ("__debug__" : Str)) = false ∧ (("_law_due" : Str) == ("__classdict__" : Str)) = false := by decide +kernel
theorem nd__law_due_here : (("_law_due_here" : Str) == ("__debug__" : Str)) = false ∧ (("_law_due_here" : Str) == ("__classdict__" : Str)) = false := by decide +kernel
theorem nd__law_factor : (("_law_factor" : Str) == ("__debug__" : Str)) = false ∧ (("_law_factor" : Str) == ("__classdict__" : Str)) = false := by decide +kernel
theorem nd__law_factors : (("_law_factors" : Str) == ("__debug__" : Str)) = false ∧ (("_law_factors" : Str) == ("__classdict__" : Str)) = false := by decide +kernel
theorem nd__law_found : (("_law_found" : Str) == ("__debug__" : Str)) = false ∧ (("_law_found" : Str) == ("__classdict__" : Str)) = false := by decide +kernel
theorem nd__law_handed : (("_law_handed" : Str) == ("__debug__" : Str)) = false ∧ (("_law_handed" : Str) == ("__classdict__" : Str)) = false := by decide +kernel
theorem nd__law_is : (("_law_is" : Str) == ("__debug__" : Str)) = false ∧ (("_law_is" : Str) == ("__classdict__" : Str)) = false := by decide +kernel
theorem nd__law_is_sum : (("_law_is_sum" : Str) == ("__debug__" : Str)) = false ∧ (("_law_is_sum" : Str) == ("__classdict__" : Str)) = false := by decide +kernel
theorem nd__law_k : (("_law_k" : Str) == ("__debug__" : Str)) = false ∧ (("_law_k" : Str) == ("__classdict__" : Str)) = false := by decide +kernel
theorem nd__law_many : (("_law_many" : Str) == ("__debug__" : Str)) = false ∧ (("_law_many" : Str) == ("__classdict__" : Str)) = false := by decide +kernel
theorem nd__law_most : (("_law_most" : Str) == ("__debug__" : Str)) = false ∧ (("_law_most" : Str) == ("__classdict__" : Str)) = false := by decide +kernel
theorem nd__law_mul : (("_law_mul" : Str) == ("__debug__" : Str)) = false ∧ (("_law_mul" : Str) == ("__classdict__" : Str)) = false := by decide +kernel
theorem nd__law_name : (("_law_name" : Str) == ("__debug__" : Str)) = false ∧ (("_law_name" : Str) == ("__classdict__" : Str)) = false := by decide +kernel
theorem nd__law_name_here : (("_law_name_here" : Str) == ("__debug__" : Str)) = false ∧ (("_law_name_here" : Str) == ("__classdict__" : Str)) = false := by decide +kernel
theorem nd__law_names : (("_law_names" : Str) == ("__debug__" : Str)) = false ∧ (("_law_names" : Str) == ("__classdict__" : Str)) = false := by decide +kernel
theorem nd__law_names_here : (("_law_names_here" : Str) == ("__debug__" : Str)) = false ∧ (("_law_names_here" : Str) == ("__classdict__" : Str)) = false := by decide +kernel
theorem nd__law_num : (("_law_num" : Str) == ("__debug__" : Str)) = false ∧ (("_law_num" : Str) == ("__classdict__" : Str)) = false := by decide +kernel
theorem nd__law_number : (("_law_number" : Str) == ("__debug__" : Str)) = false ∧ (("_law_number" : Str) == ("__classdict__" : Str)) = false := by decide +kernel
theorem nd__law_number_here : (("_law_number_here" : Str) == ("__debug__" : Str)) = false ∧ (("_law_number_here" : Str) == ("__classdict__" : Str)) = false := by decide +kernel
theorem nd__law_one : (("_law_one" : Str) == ("__debug__" : Str)) = false ∧ (("_law_one" : Str) == ("__classdict__" : Str)) = false := by decide +kernel
theorem nd__law_other : (("_law_other" : Str) == ("__debug__" : Str)) = false ∧ (("_law_other" : Str) == ("__classdict__" : Str)) = false := by decide +kernel
theorem nd__law_pairs : (("_law_pairs" : Str) == ("__debug__" : Str)) = false ∧ (("_law_pairs" : Str) == ("__classdict__" : Str)) = false := by decide +kernel
theorem nd__law_pairs_here : (("_law_pairs_here" : Str) == ("__debug__" : Str)) = false ∧ (("_law_pairs_here" : Str) == ("__classdict__" : Str)) = false := by decide +kernel
theorem nd__law_script : (("_law_script" : Str) == ("__debug__" : Str)) = false ∧ (("_law_script" : Str) == ("__classdict__" : Str)) = false := by decide +kernel
theorem nd__law_signs : (("_law_signs" : Str) == ("__debug__" : Str)) = false ∧ (("_law_signs" : Str) == ("__classdict__" : Str)) = false := by decide +kernel
theorem nd__law_size : (("_law_size" : Str) == ("__debug__" : Str)) = false ∧ (("_law_size" : Str) == ("__classdict__" : Str)) = false := by decide +kernel
theorem nd__law_take : (("_law_take" : Str) == ("__debug__" : Str)) = false ∧ (("_law_take" : Str) == ("__classdict__" : Str)) = false := by decide +kernel
theorem nd__law_top : (("_law_top" : Str) == ("__debug__" : Str)) = false ∧ (("_law_top" : Str) == ("__classdict__" : Str)) = false := by decide +kernel
theorem nd__law_turn : (("_law_turn" : Str) == ("__debug__" : Str)) = false ∧ (("_law_turn" : Str) == ("__classdict__" : Str)) = false := by decide +kernel
theorem nd__law_way : (("_law_way" : Str) == ("__debug__" : Str)) = false ∧ (("_law_way" : Str) == ("__classdict__" : Str)) = false := by decide +kernel
theorem nd__law_well : (("_law_well" : Str) == ("__debug__" : Str)) = false ∧ (("_law_well" : Str) == ("__classdict__" : Str)) = false := by decide +kernel
theorem nd__law_well_here : (("_law_well_here" : Str) == ("__debug__" : Str)) = false ∧ (("_law_well_here" : Str) == ("__classdict__" : Str)) = false := by decide +kernel
theorem nd__law_whole : (("_law_whole" : Str) == ("__debug__" : Str)) = false ∧ (("_law_whole" : Str) == ("__classdict__" : Str)) = false := by decide +kernel
theorem nd_a : (("a" : Str) == ("__debug__" : Str)) = false ∧ (("a" : Str) == ("__classdict__" : Str)) = false := by decide +kernel
theorem nd_abs : (("abs" : Str) == ("__debug__" : Str)) = false ∧ (("abs" : Str) == ("__classdict__" : Str)) = false := by decide +kernel
theorem nd_b : (("b" : Str) == ("__debug__" : Str)) = false ∧ (("b" : Str) == ("__classdict__" : Str)) = false := by decide +kernel
theorem nd_bool : (("bool" : Str) == ("__debug__" : Str)) = false ∧ (("bool" : Str) == ("__classdict__" : Str)) = false := by decide +kernel
theorem nd_bottom : (("bottom" : Str) == ("__debug__" : Str)) = false ∧ (("bottom" : Str) == ("__classdict__" : Str)) = false := by decide +kernel
theorem nd_common_divisor : (("common_divisor" : Str) == ("__debug__" : Str)) = false ∧ (("common_divisor" : Str) == ("__classdict__" : Str)) = false := by decide +kernel
theorem nd_divisor : (("divisor" : Str) == ("__debug__" : Str)) = false ∧ (("divisor" : Str) == ("__classdict__" : Str)) = false := by decide +kernel
theorem nd_factor : (("factor" : Str) == ("__debug__" : Str)) = false ∧ (("factor" : Str) == ("__classdict__" : Str)) = false := by decide +kernel
theorem nd_factors : (("factors" : Str) == ("__debug__" : Str)) = false ∧ (("factors" : Str) == ("__classdict__" : Str)) = false := by decide +kernel
theorem nd_int : (("int" : Str) == ("__debug__" : Str)) = false ∧ (("int" : Str) == ("__classdict__" : Str)) = false := by decide +kernel
theorem nd_isinstance : (("isinstance" : Str) == ("__debug__" : Str)) = false ∧ (("isinstance" : Str) == ("__classdict__" : Str)) = false := by decide +kernel
theorem nd_len : (("len" : Str) == ("__debug__" : Str)) = false ∧ (("len" : Str) == ("__classdict__" : Str)) = false := by decide +kernel
theorem nd_list : (("list" : Str) == ("__debug__" : Str)) = false ∧ (("list" : Str) == ("__classdict__" : Str)) = false := by decide +kernel
theorem nd_lowest_terms : (("lowest_terms" : Str) == ("__debug__" : Str)) = false ∧ (("lowest_terms" : Str) == ("__classdict__" : Str)) = false := by decide +kernel
theorem nd_max : (("max" : Str) == ("__debug__" : Str)) = false ∧ (("max" : Str) == ("__classdict__" : Str)) = false := by decide +kernel
theorem nd_min : (("min" : Str) == ("__debug__" : Str)) = false ∧ (("min" : Str) == ("__classdict__" : Str)) = false := by decide +kernel
theorem nd_name : (("name" : Str) == ("__debug__" : Str)) = false ∧ (("name" : Str) == ("__classdict__" : Str)) = false := by decide +kernel
theorem nd_number : (("number" : Str) == ("__debug__" : Str)) = false ∧ (("number" : Str) == ("__classdict__" : Str)) = false := by decide +kernel
theorem nd_pairs : (("pairs" : Str) == ("__debug__" : Str)) = false ∧ (("pairs" : Str) == ("__classdict__" : Str)) = false := by decide +kernel
theorem nd_plus : (("plus" : Str) == ("__debug__" : Str)) = false ∧ (("plus" : Str) == ("__classdict__" : Str)) = false := by decide +kernel
theorem nd_rest : (("rest" : Str) == ("__debug__" : Str)) = false ∧ (("rest" : Str) == ("__classdict__" : Str)) = false := by decide +kernel
theorem nd_sorted : (("sorted" : Str) == ("__debug__" : Str)) = false ∧ (("sorted" : Str) == ("__classdict__" : Str)) = false := by decide +kernel
theorem nd_str : (("str" : Str) == ("__debug__" : Str)) = false ∧ (("str" : Str) == ("__classdict__" : Str)) = false := by decide +kernel
theorem nd_sum_of : (("sum_of" : Str) == ("__debug__" : Str)) = false ∧ (("sum_of" : Str) == ("__classdict__" : Str)) = false := by decide +kernel
theorem nd_top : (("top" : Str) == ("__debug__" : Str)) = false ∧ (("top" : Str) == ("__classdict__" : Str)) = false := by decide +kernel
theorem nd_tuple : (("tuple" : Str) == ("__debug__" : Str)) = false ∧ (("tuple" : Str) == ("__classdict__" : Str)) = false := by decide +kernel
theorem nn_len : ("len" : Str) ≠ "__name__" := by decide +kernel
theorem nn_isinstance : ("isinstance" : Str) ≠ "__name__" := by decide +kernel
theorem nn_abs : ("abs" : Str) ≠ "__name__" := by decide +kernel
theorem nn_max : ("max" : Str) ≠ "__name__" := by decide +kernel
theorem nn_min : ("min" : Str) ≠ "__name__" := by decide +kernel
theorem nn_int : ("int" : Str) ≠ "__name__" := by decide +kernel
theorem nn_bool : ("bool" : Str) ≠ "__name__" := by decide +kernel
theorem nn_str : ("str" : Str) ≠ "__name__" := by decide +kernel
theorem nn_tuple : ("tuple" : Str) ≠ "__name__" := by decide +kernel
theorem nn_list : ("list" : Str) ≠ "__name__" := by decide +kernel
theorem nn_dict : ("dict" : Str) ≠ "__name__" := by decide +kernel
theorem nn_range : ("range" : Str) ≠ "__name__" := by decide +kernel
theorem nn_ValueError : ("ValueError" : Str) ≠ "__name__" := by decide +kernel
theorem nn_sorted : ("sorted" : Str) ≠ "__name__" := by decide +kernel
theorem nn_all : ("all" : Str) ≠ "__name__" := by decide +kernel
theorem nn_zip : ("zip" : Str) ≠ "__name__" := by decide +kernel
theorem nn_set : ("set" : Str) ≠ "__name__" := by decide +kernel
theorem nn_sum : ("sum" : Str) ≠ "__name__" := by decide +kernel
theorem nn_enumerate : ("enumerate" : Str) ≠ "__name__" := by decide +kernel
end W

set_option Elab.async false
set_option linter.all false
set_option maxRecDepth 100000
set_option maxHeartbeats 4000000
local macro_rules | `(tactic| walk_at "rd") => `(tactic| ((try simp only [L2.later_iff]); simp only [L2.x_iseq, L2.x_izip, L2.x_dget, L2.x_dget2, L2.x_dput, L2.x_comp, L2.x_true, L2.x_glst, L2.x_rev, L2.x_bm, L2.x_bm0, L2.x_sl, L2.x_nop, L2.x_part, L2.cxOf_K, L2.x_seq, L2.x_ret, L2.x_retN, L2.x_next, L2.x_break, L2.x_cont, L2.x_asg, L2.x_drop, L2.x_if, L2.x_par, L2.x_raise, L2.x_try, L2.x_name, L2.x_gtup, L2.x_gcons, L2.x_gnil, L2.x_gsub, L2.x_var, L2.x_c, L2.x_op, L2.x_un, L2.x_rI, L2.x_rI0, L2.x_rU, L2.x_B, L2.x_cmp, L2.x_isN, L2.x_notN, L2.x_test, L2.x_chain, L2.x_cons, L2.x_nil, L2.x_tup, L2.x_lst, L2.x_cb, L2.x_call, L2.x_xcall, L2.x_and, L2.x_or, L2.x_not, L2.x_andV, L2.x_orV, L2.x_notV, L2.x_ifE, L2.x_start, L2.x_for, L2.x_rng1, L2.x_rng2, L2.x_ilist, L2.x_itup, L2.x_dnew, L2.x_un0, L2.x_un1, List.map_cons, List.map_nil, List.length_cons, List.length_nil, List.cons_append, List.nil_append, List.append_nil, List.getElem?_cons_zero, List.getElem?_cons_succ, List.set_cons_zero, List.set_cons_succ, List.replicate_succ, List.replicate_zero, Nat.reduceAdd, Nat.reduceSub, Option.some.injEq, L2.V.int.injEq, L2.V.bl.injEq, L2.V.str.injEq, L2.V.ref.injEq, List.cons.injEq, exists_eq_left', exists_and_left, exists_eq', and_true, true_and, and_assoc, Bool.not_true, Bool.not_false, Bool.true_eq_false, Bool.false_eq_true, if_true, if_false, ite_true, ite_false, Bool.not_eq_true', decide_eq_true_eq, decide_eq_false_iff_not]))
local macro_rules | `(tactic| walk_at "rdd") => `(tactic| simp only [L2.later_iff, L2.x_iseq, L2.x_izip, L2.x_dget, L2.x_dget2, L2.x_dput, L2.x_comp, L2.x_true, L2.x_glst, L2.x_rev, L2.x_bm, L2.x_bm0, L2.x_sl, L2.x_nop, L2.x_part, L2.cxOf_K, L2.x_seq, L2.x_ret, L2.x_retN, L2.x_next, L2.x_break, L2.x_cont, L2.x_asg, L2.x_drop, L2.x_if, L2.x_par, L2.x_raise, L2.x_try, L2.x_name, L2.x_gtup, L2.x_gcons, L2.x_gnil, L2.x_gsub, L2.x_var, L2.x_c, L2.x_op, L2.x_un, L2.x_rI, L2.x_rI0, L2.x_rU, L2.x_B, L2.x_cmp, L2.x_isN, L2.x_notN, L2.x_test, L2.x_chain, L2.x_cons, L2.x_nil, L2.x_tup, L2.x_lst, L2.x_cb, L2.x_call, L2.x_xcall, L2.x_and, L2.x_or, L2.x_not, L2.x_andV, L2.x_orV, L2.x_notV, L2.x_ifE, L2.x_start, L2.x_for, L2.x_rng1, L2.x_rng2, L2.x_ilist, L2.x_itup, L2.x_dnew, L2.x_un0, L2.x_un1, List.map_cons, List.map_nil, List.length_cons, List.length_nil, List.cons_append, List.nil_append, List.append_nil, List.getElem?_cons_zero, List.getElem?_cons_succ, List.set_cons_zero, List.set_cons_succ, List.replicate_succ, List.replicate_zero, Nat.reduceAdd, Nat.reduceSub, Option.some.injEq, L2.V.int.injEq, L2.V.bl.injEq, L2.V.str.injEq, L2.V.ref.injEq, List.cons.injEq, exists_eq_left', exists_and_left, exists_eq', and_true, true_and, and_assoc, Bool.not_true, Bool.not_false, Bool.true_eq_false, Bool.false_eq_true, if_true, if_false, ite_true, ite_false, Bool.not_eq_true', decide_eq_true_eq, decide_eq_false_iff_not])
namespace W
open PySem L2
section
variable {P : Program} {w : World} {K : PySem.W.Frag} {mg : Str → Option Value} {base : Heap} {a : Adr}
def kinds : List Value := [.type "int", .type "bool", .type "NoneType", .type "str", .type "tuple", .type "list", .type "dict"]
theorem kit_int (K : PySem.W.Frag) {t : Value} (h : t ∈ kinds) : PySem.W.kitOne K t (.type "int") = some (t == .type "int" || t == .type "bool") := by
  simp only [kinds, List.mem_cons, List.not_mem_nil, or_false] at h
  rcases h with rfl | rfl | rfl | rfl | rfl | rfl | rfl <;> kernel_rfl
theorem kit_bool (K : PySem.W.Frag) {t : Value} (h : t ∈ kinds) : PySem.W.kitOne K t (.type "bool") = some (t == .type "bool") := by
  simp only [kinds, List.mem_cons, List.not_mem_nil, or_false] at h
  rcases h with rfl | rfl | rfl | rfl | rfl | rfl | rfl <;> kernel_rfl
theorem kit_tup (K : PySem.W.Frag) : PySem.W.kitOne K (.type "tuple") (.type "tuple") = some true := by kernel_rfl
theorem whole_eq {t : Value} (h : t ∈ kinds) : (if (t == .type "int" || t == .type "bool") = true then !(t == .type "bool") else false) = (t == .type "int") := by
  simp only [kinds, List.mem_cons, List.not_mem_nil, or_false] at h
  rcases h with rfl | rfl | rfl | rfl | rfl | rfl | rfl <;> decide +kernel
def sp_whole (K : PySem.W.Frag) : Sp := fun vs H Q _ => ∃ v t, vs = [v] ∧ TyX K H v t ∧ t ∈ kinds ∧ Q (.bl (t == .type "int")) H
def sp_cd : Sp := fun vs H Q _ => ∃ x y : Int, vs = [.int x, .int y] ∧ y ≠ 0 ∧ Q (.int (cd x y)) H
def sp_low : Sp := fun vs H Q _ => ∃ t b : Int, vs = [.int t, .int b] ∧ b ≠ 0 ∧ Bd 9000 b ∧ ∀ p, H p = none → Q (.ref p) (upd H p (tNum (nrm t b)))
theorem ty_int {K : PySem.W.Frag} {H : Hp} {v : V} {t : Value} (h : TyX K H v t) (e : t = .type "int") : ∃ i, v = .int i := by
  cases h with
  | of h =>
    cases h with
    | int i => exact ⟨i, rfl⟩
    | ins => cases e
    | _ => exact absurd (Value.type.inj e) (by decide)
  | exc => cases e
  | _ => exact absurd (Value.type.inj e) (by decide)
theorem int_ty {K : PySem.W.Frag} {H : Hp} {i : Int} {t : Value} (h : TyX K H (.int i) t) : t = .type "int" := by
  cases h with
  | of h => cases h with | int i => rfl

/-- the well: its flag, what is left, its turn -/
def WA (H : Hp) (p : Addr) (n : Int) : Prop := ∃ f c t : Int, H p = some (.lst [.int f, .int c, .int t]) ∧ 0 ≤ t ∧ t ≤ n
theorem WA.sb {H H' : Hp} {p q : Addr} {n : Int} (h : WA H p n) (s : SB q H H') (ne : p ≠ q) : WA H' p n := by
  obtain ⟨f, c, t, e, r⟩ := h
  exact ⟨f, c, t, s _ _ ne e, r⟩
theorem WA.same {H H' : Hp} {p : Addr} {n : Int} (h : WA H p n) (s : Same H H') : WA H' p n := by
  obtain ⟨f, c, t, e, r⟩ := h
  exact ⟨f, c, t, s _ _ e, r⟩
theorem WA.mono {H : Hp} {p : Addr} {m n : Int} (h : WA H p m) (s : m ≤ n) : WA H p n := by
  obtain ⟨f, c, t, e, r, q⟩ := h
  exact ⟨f, c, t, e, r, by omega⟩
def sp_well (K : PySem.W.Frag) : Sp := fun vs H Q _ => ∃ (p : Addr) (ns : List Int) (k : Int), vs = [.ref p, .int k] ∧ SqL K H p (ns.map V.int) ∧ 0 ≤ k ∧ k < 1000 ∧
  ∀ q H', H q = none → Same H H' → WA H' q (17 * k) → Q (.ref q) H'
def sp_take : Sp := fun vs H Q _ => ∃ (p : Addr) (m n : Int), vs = [.ref p, .int m] ∧ WA H p n ∧ n < 1000000 ∧ 0 < m ∧ m < 1000000000000000000000 ∧
  ∀ r H', 0 ≤ r → r < m → WA H' p (n + 1) → SB p H H' → Q (.int r) H'
theorem Bd.of {x : Int} {n : Nat} (h1 : x < 2 ^ n) (h2 : -(2 ^ n) < x) : Bd n x := by
  have e : ((2 ^ n : Nat) : Int) = (2 : Int) ^ n := by simp
  unfold Bd
  omega
def sp_gcd : Sp := fun vs H Q _ => ∃ x y : Int, vs = [.int x, .int y] ∧ Q (.int (Int.gcd x y)) H
def sp_num : Sp := fun vs H Q _ => ∃ t b : Int, vs = [.int t, .int b] ∧ b ≠ 0 ∧ Bd 9000 b ∧ ∀ p, H p = none → Q (.ref p) (upd H p (tNum (lnum t b)))
theorem atI_mem {xs : List Int} {k : Int} (h0 : 0 ≤ k) (h1 : k < xs.length) : ∃ c, atI (xs.map V.int) k = some (.int c) := by
  obtain ⟨j, rfl⟩ : ∃ j : Nat, k = j := ⟨k.toNat, by omega⟩
  have hj : j < xs.length := by omega
  exact ⟨xs[j], atI_nat (by rw [List.getElem?_map, List.getElem?_eq_getElem hj]; rfl)⟩

theorem gcd_cdv {i t b : Int} (hb : b ≠ 0) (hB : Bd 9000 b) : CDv i (Int.gcd t b) := by
  have h0 := Int.gcd_pos_of_ne_zero_right t hb
  refine ⟨by omega, ?_⟩
  have h1 : Int.gcd t b ∣ b.natAbs := Int.natCast_dvd_natCast.mp (Int.dvd_natAbs.mpr (Int.gcd_dvd_right t b))
  have h2 := Nat.le_of_dvd (by omega) h1
  exact Nat.lt_of_le_of_lt (by simpa using h2) hB
theorem int_kind : Value.type "int" ∈ kinds := by simp [kinds]
theorem eq_num (x y : Num) : D.eq (.tup [.int x.1, .int x.2]) (.tup [.int y.1, .int y.2]) = decide (x = y) := by
  obtain ⟨x1, x2⟩ := x
  obtain ⟨y1, y2⟩ := y
  simp [D.eq, D.eqs, Bool.beq_eq_decide_eq]
theorem kit_self (K : PySem.W.Frag) (C : Addr) : PySem.W.kitOne K (.ref C) (.ref C) = some true := by
  unfold PySem.W.kitOne
  rw [if_pos (beq_self_eq_true _)]

def sp_is (K : PySem.W.Frag) : Sp := fun vs H Q _ => ∃ (p q : Addr) (x y : Num), vs = [.ref p, .ref q] ∧ SqT K H p [.int x.1, .int x.2] ∧ SqT K H q [.int y.1, .int y.2] ∧ Q (.bl (decide (x = y))) H

theorem atI0 (x : Num) : atI (numV x) 0 = some (.int x.1) := rfl
theorem atI1 (x : Num) : atI (numV x) 1 = some (.int x.2) := rfl
def sp_2 (K : PySem.W.Frag) (f : Num → Num → Num) : Sp := fun vs H Q _ => ∃ (p q : Addr) (x y : Num) (n : Nat), vs = [.ref p, .ref q] ∧ SqT K H p (numV x) ∧ SqT K H q (numV y) ∧ NB n x ∧ NB n y ∧ n ≤ 4000 ∧ ∀ r, H r = none → Q (.ref r) (upd H r (tNum (f x y)))
def sp_less (K : PySem.W.Frag) : Sp := fun vs H Q _ => ∃ (p q : Addr) (x y : Num) (n : Nat), vs = [.ref p, .ref q] ∧ SqT K H p (numV x) ∧ SqT K H q (numV y) ∧ NB n x ∧ NB n y ∧ n ≤ 4000 ∧ Q (.bl (decide (x.1 * y.2 < y.1 * x.2))) H
def sp_over (K : PySem.W.Frag) (C : Addr) : Sp := fun vs H Q E => ∃ (p q : Addr) (x y : Num) (n : Nat), vs = [.ref p, .ref q] ∧ SqT K H p (numV x) ∧ SqT K H q (numV y) ∧ NB n x ∧ NB n y ∧ n ≤ 4000 ∧
  ((y.1 ≠ 0 ∧ ∀ r, H r = none → Q (.ref r) (upd H r (tNum (nDiv x y)))) ∨ (y.1 = 0 ∧ E (.ref C) none H))
theorem m2 {n : Nat} {x y : Int} (h : Bd n x) (k : Bd n y) (hn : n ≤ 4000) : IntMulOk x y := h.mulOk k (by omega)
theorem b2 {n : Nat} {x y : Int} (h : Bd n x) (k : Bd n y) (hn : n ≤ 4000) : Bd 9000 (x * y) := (h.mul k).mono (by omega)
def sp_number : Sp := fun vs H Q _ => ∃ (p : Addr) (n : Int), vs = [.ref p] ∧ WA H p n ∧ n < 100000 ∧
  ∀ r H' x, NB 60 x → SB p H H' → WA H' p (n + 3) → H' r = some (tNum x) → Q (.ref r) H'
def sp_ok (K : PySem.W.Frag) : Sp := fun vs H Q _ => ∃ (p q : Addr) (x y : Num) (n : Nat), vs = [.ref p, .ref q] ∧ SqT K H p (numV x) ∧ SqT K H q (numV y) ∧ NB n x ∧ NB n y ∧ n ≤ 1900 ∧ ∀ H', Same H H' → Q (.bl true) H'
theorem neg1 {n : Nat} : NB (n + 1) (-1, 1) := ⟨⟨by decide, by decide⟩, Nat.lt_of_lt_of_le (by decide : 1 < 2 ^ 1) (Nat.pow_le_pow_right (by decide) (Nat.le_add_left 1 n)), Nat.lt_of_lt_of_le (by decide : 1 < 2 ^ 1) (Nat.pow_le_pow_right (by decide) (Nat.le_add_left 1 n))⟩
def sp_law (K : PySem.W.Frag) : Sp := fun vs H Q _ => ∃ (p : Addr) (ns : List Int), vs = [.ref p] ∧ SqL K H p (ns.map V.int) ∧ ns.length ≤ 63 ∧ ∀ H', Q (.bl true) H'

theorem den_num {K : PySem.W.Frag} {H : Hp} {p : Addr} {x : Num} (h : SqT K H p (numV x)) : Den K H (.ref p) (.tup [.int x.1, .int x.2]) := .tup h (.cons (.int _) (.cons (.int _) .nil))
theorem DAt.same {H H' : Hp} {d : Addr} {ks : List Str} {f : Str → Num} (h : DAt H d ks f) (s : Same H H') : DAt H' d ks f := by
  obtain ⟨⟨kvs, h1, h2, h3, h4⟩, nd⟩ := h
  refine ⟨⟨kvs, s _ _ h1, h2, fun n hn => ?_, h4⟩, nd⟩
  obtain ⟨a, q1, q2⟩ := h3 n hn
  exact ⟨a, q1, s _ _ q2⟩
def sp_sum (K : PySem.W.Frag) : Sp := fun vs H Q _ => ∃ (an lp : Addr) (vl : List V) (ps : List Pr) (b c : Nat), vs = [.ref an, .ref lp] ∧ (SqL K H lp vl ∨ SqT K H lp vl) ∧ PairsAt K H vl ps ∧ (∀ p ∈ ps, NB b p.2) ∧ (∀ n, cnt ps n ≤ c) ∧ (b + 1) * c + 1 ≤ 2000 ∧ b ≤ 2000 ∧ ps.length ≤ 60 ∧
  ∀ r H' L, Same H H' → Canon ps L → L.length ≤ ps.length → SumAt K H' (.ref r) an L → Q (.ref r) H'

theorem kit_str (K : PySem.W.Frag) : PySem.W.kitOne K (.type "str") (.type "str") = some true := by kernel_rfl
def sp_issum (K : PySem.W.Frag) : Sp := fun vs H Q _ => ∃ (v1 v2 : V) (n1 n2 : Addr) (x : Num) (L : List Pr), vs = [v1, v2] ∧ SumAt K H v1 n1 L ∧ SumAt K H v2 n2 L ∧ SqT K H n1 (numV x) ∧ SqT K H n2 (numV x) ∧ ∀ H', Same H H' → Q (.bl true) H'

def sp_name : Sp := fun vs H Q _ => ∃ (p : Addr) (m n : Int), vs = [.ref p, .int m] ∧ WA H p n ∧ n < 90000 ∧ 0 < m ∧ m ≤ 100 ∧ ∀ z H', z.length ≤ 200 → SB p H H' → WA H' p (n + 200) → Q (.str z) H'
theorem at_str {z : Str} {r : Int} (h0 : 0 ≤ r) (h1 : r < z.length) : ∃ c, atI z.cps.toList r = some c := by
  obtain ⟨j, rfl⟩ : ∃ j : Nat, r = j := ⟨r.toNat, by omega⟩
  have hj : j < z.cps.toList.length := by
    have e : z.cps.toList.length = z.length := by simp [Str.length]
    omega
  exact ⟨_, atI_nat (List.getElem?_eq_getElem hj)⟩
theorem line200 : 200 ≤ sizeLine := by rw [sizeLine_eq]; decide

theorem join2 {c : Prop} [Decidable c] {R : TS} {D : Ends} {H : Hp} {Z : Prop} {v : V} (σ : V → St) (P : V → Hp → Prop) (k : ∀ v H', P v H' → Later R D (σ v) H') (h1 : c → (∀ v H', P v H' → Later R D (σ v) H') → Z) (h2 : ¬ c → P v H) : if c then Z else Later R D (σ v) H := by
  by_cases h : c
  · rw [if_pos h]; exact h1 h k
  · rw [if_neg h]; exact k _ _ (h2 h)
theorem inV_str (z : Str) : ∀ ss : List Str, inV (.str z) (ss.map V.str) = decide (z ∈ ss)
  | [] => by simp [inV]
  | y :: ss => by
    have ih := inV_str z ss
    unfold inV at ih ⊢
    rw [List.map_cons, List.any_cons, ih]
    show (y == z || decide (z ∈ ss)) = decide (z ∈ y :: ss)
    by_cases c : y = z
    · subst c; simp
    · have c2 : z ≠ y := fun e => c e.symm
      have : (y == z) = false := by rw [beq_eq_false_iff_ne]; exact c
      rw [this]; simp [c2]
theorem flat_strs (ss : List Str) : (ss.map V.str).all flatV = true := by
  rw [List.all_eq_true]
  intro v hv
  obtain ⟨z, _, rfl⟩ := List.mem_map.mp hv
  rfl
/-- the last sign but one -/
def sec (z : Str) : Option Nat := z.cps.toList.reverse[1]?
theorem sec_app (x : Str) (a b : Nat) : sec ((x ++ ⟨#[a]⟩) ++ ⟨#[b]⟩) = some a := by
  show (((x.cps ++ #[a]) ++ #[b]).toList.reverse)[1]? = some a
  simp
def mu (ss : List Str) (t : Nat) : Nat := ss.countP fun y => decide (47 + t ≤ (sec y).getD 0)
theorem mu_le (ss : List Str) (t : Nat) : mu ss t ≤ ss.length := List.countP_le_length
theorem mu_step {ss : List Str} {t : Nat} {z : Str} (hz : z ∈ ss) (hs : sec z = some (47 + t)) : mu ss (t + 1) < mu ss t := by
  unfold mu
  induction ss with
  | nil => cases hz
  | cons y ss ih =>
    rw [List.countP_cons, List.countP_cons]
    have le : ss.countP (fun y => decide (47 + (t + 1) ≤ (sec y).getD 0)) ≤ ss.countP (fun y => decide (47 + t ≤ (sec y).getD 0)) := List.countP_mono_left fun q _ h => by
      rw [decide_eq_true_eq] at h ⊢; omega
    rcases List.mem_cons.mp hz with e | e
    · subst e
      have e1 : decide (47 + t ≤ (sec z).getD 0) = true := by rw [hs]; simp
      have e2 : decide (47 + (t + 1) ≤ (sec z).getD 0) = false := by rw [hs]; simp
      rw [e1, e2]
      simp
      omega
    · have := ih e
      have d : decide (47 + (t + 1) ≤ (sec y).getD 0) = true → decide (47 + t ≤ (sec y).getD 0) = true := fun h => by rw [decide_eq_true_eq] at h ⊢; omega
      cases h1 : decide (47 + (t + 1) ≤ (sec y).getD 0) with
      | true => rw [d h1]; simp; omega
      | false => simp; split <;> omega
theorem dig : ∀ t : Nat, t < 10 → atI (Str.ofString "0123456789").cps.toList (t : Int) = some (48 + t) := by decide +kernel
theorem let0 : atI (Str.ofString "abcdefghij").cps.toList (0 : Int) = some 97 := by decide +kernel
def sp_names : Sp := fun vs H Q _ => ∃ (p : Addr) (m n : Int), vs = [.ref p, .int m] ∧ WA H p n ∧ n < 50000 ∧ 1 ≤ m ∧ m ≤ 8 ∧
  ∀ (l : Addr) (H' : Hp) (ss : List Str), H l = none → H' l = some (.lst (ss.map V.str)) → 1 ≤ ss.length → ss.length ≤ 8 → SB p H H' → WA H' p (n + 5000) → Q (.ref l) H'
theorem app_len (x y : Str) : (x ++ y).length = x.length + y.length := by
  show (x.cps ++ y.cps).size = x.cps.size + y.cps.size
  simp

theorem join3 {c : Prop} [Decidable c] {R : TS} {D : Ends} {H : Hp} {Z : Prop} {v w : V} (σ : V → V → St) (P : V → V → Hp → Prop) (k : ∀ v w H', P v w H' → Later R D (σ v w) H') (h1 : c → (∀ v w H', P v w H' → Later R D (σ v w) H') → Z) (h2 : ¬ c → P v w H) : if c then Z else Later R D (σ v w) H := by
  by_cases h : c
  · rw [if_pos h]; exact h1 h k
  · rw [if_neg h]; exact k _ _ _ (h2 h)
theorem none_sb {H H' : Hp} {p l : Addr} {n : Int} (sb : SB p H H') (wa : WA H' p n) (hl : H' l = none) : H l = none := by
  cases e : H l with
  | none => rfl
  | some o =>
    by_cases c : l = p
    · obtain ⟨_, _, _, f, _⟩ := wa
      rw [c, f] at hl; cases hl
    · rw [sb l o c e] at hl; cases hl
theorem WA.ne {H : Hp} {p l : Addr} {n : Int} (wa : WA H p n) (hl : H l = none) : l ≠ p := by
  obtain ⟨_, _, _, f, _⟩ := wa
  exact (ne_of_none f hl).symm
theorem WA.sqT {K : PySem.W.Frag} {H H' : Hp} {p a : Addr} {n : Int} {xs : List V} (wa : WA H p n) (sb : SB p H H') (h : SqT K H a xs) : SqT K H' a xs := by
  obtain ⟨_, _, _, f, _⟩ := wa
  exact h.sbL sb f
theorem WA.pairs {K : PySem.W.Frag} {H H' : Hp} {p : Addr} {n : Int} {vs : List V} {ps : List Pr} (wa : WA H p n) (sb : SB p H H') (h : PairsAt K H vs ps) : PairsAt K H' vs ps := by
  obtain ⟨_, _, _, f, _⟩ := wa
  exact PairsAt.sbL h sb f
def dP (p : Pr) : D := .tup [.str p.1, .tup [.int p.2.1, .int p.2.2]]
theorem den_pair {K : PySem.W.Frag} {H : Hp} {v : V} {p : Pr} (h : PairAt K H v p) : Den K H v (dP p) := by
  obtain ⟨t, a, rfl, q1, q2⟩ := h
  exact .tup q1 (.cons (.str _) (.cons (den_num q2) .nil))
theorem den_pairs {K : PySem.W.Frag} {H : Hp} : ∀ {vs : List V} {ps : List Pr}, PairsAt K H vs ps → Dens K H vs (ps.map dP)
  | _, _, .nil => .nil
  | _, _, .cons h t => .cons (den_pair h) (den_pairs t)
theorem depth_pairs : ∀ ps : List Pr, D.depths (ps.map dP) ≤ 2
  | [] => by simp [D.depths]
  | p :: ps => by
    rw [List.map_cons, D.depths]
    have := depth_pairs ps
    have e : D.depth (dP p) ≤ 2 := by simp [dP, D.depth, D.depths]
    omega
theorem eqs_nil (ps : List Pr) : D.eq (.lst (ps.map dP)) (.lst []) = decide (ps = []) := by
  cases ps with
  | nil => rfl
  | cons p ps => simp [D.eq, D.eqs]
def sp_pairs (K : PySem.W.Frag) : Sp := fun vs H Q _ => ∃ (p : Addr) (n : Int), vs = [.ref p] ∧ WA H p n ∧ n < 40000 ∧
  ∀ (l : Addr) (H' : Hp) (vs : List V) (ps : List Pr), H l = none → H' l = some (.lst vs) → PairsAt K H' vs ps → (∀ q ∈ ps, NB 60 q.2) → ps.length ≤ 12 → SB p H H' → Q (.ref l) H'
theorem nMul_one {y : Num} (h : Ok y) : nMul y (1, 1) = y := by
  unfold nMul
  simp only [Int.mul_one]
  exact nrm_self h
theorem one1 {n : Nat} : NB (n + 1) (1, 1) := ⟨⟨by decide, by decide⟩, Nat.lt_of_lt_of_le (by decide : 1 < 2 ^ 1) (Nat.pow_le_pow_right (by decide) (Nat.le_add_left 1 n)), Nat.lt_of_lt_of_le (by decide : 1 < 2 ^ 1) (Nat.pow_le_pow_right (by decide) (Nat.le_add_left 1 n))⟩
theorem ok_common_divisor (T : Txt K mg a) : FnOk P w K mg base (CXE P w) 2 a.f_common_divisor a.d_common_divisor ["a", "b"] sp_cd := by
  have S := sc_common_divisor
  refine T.fun_common_divisor.okQ S (fun vs H Q E h => ?_) (fun cdv A outer s H vs Q E hr h => ?_)
  · obtain ⟨x, y, rfl, hy, k⟩ := h; rfl
  · obtain ⟨x, y, rfl, hy, k⟩ := h
    refine ⟨_, (q_pss_cons (q_ps_while PassesOwn.leaving (q_pt_cmp (q_pc_neI (q_pe_var (i := 1) rfl (Or.inl lk_common_divisor_b) nd_b.1 nd_b.2) q_pe_int)) (q_pss_cons (q_ps_set (i := 2) S.nd rfl (Or.inl lk_common_divisor_rest) (q_pe_op op_modN (q_pe_var (i := 0) rfl (Or.inl lk_common_divisor_a) nd_a.1 nd_a.2) (q_pe_var (i := 1) rfl (Or.inl lk_common_divisor_b) nd_b.1 nd_b.2)))
      (q_pss_cons (q_ps_set (i := 0) S.nd rfl (Or.inl lk_common_divisor_a) (q_pe_var (i := 1) rfl (Or.inl lk_common_divisor_b) nd_b.1 nd_b.2))
      (q_pss_one (q_ps_set (i := 1) S.nd rfl (Or.inl lk_common_divisor_b) (q_pe_var (i := 2) rfl (Or.inl lk_common_divisor_rest) nd_rest.1 nd_rest.2))))))
      (q_pss_one (q_ps_ret (q_pe_var (i := 0) rfl (Or.inl lk_common_divisor_a) nd_a.1 nd_a.2)))), ?_⟩
    refine while_w (fun m σ H' => ∃ (p q : Int) (r : Option V), σ = [some (.int p), some (.int q), r] ∧ H' = H ∧ m = q.natAbs ∧ (q = 0 → p = cd x y) ∧ (q ≠ 0 → cd p q = cd x y)) y.natAbs
      ⟨x, y, none, rfl, rfl, rfl, fun z => absurd z hy, fun _ => rfl⟩ ?_
    rintro m σ H' ⟨p, q, r, rfl, rfl, rfl, h0, h1⟩
    walk_at "rdd"
    refine ite2 (fun c => ?_) (fun c => ?_)
    · exact ⟨_, fun σ' H1 z => ⟨_, fmod_abs p c, z⟩, c, _, _, _, rfl, rfl, rfl, fun z => (cd_zero c z).trans (h1 c), fun z => (cd_step c z).trans (h1 c)⟩
    · have e : q = 0 := by omega
      rw [h0 e]; exact k
theorem ok_lowest_terms (T : Txt K mg a) : FnOk P w K mg base (CXE P w) 3 a.f_lowest_terms a.d_lowest_terms ["top", "bottom"] sp_low := by
  have S := sc_lowest_terms
  have G_common_divisor := ok_common_divisor (P := P) (w := w) (base := base) T
  refine T.fun_lowest_terms.okQ S (fun vs H Q E h => ?_) (fun cdv A outer s H vs Q E hr h => ?_)
  · obtain ⟨t, b, rfl, hb, hB, k⟩ := h; rfl
  · obtain ⟨t, b, rfl, hb, hB, k⟩ := h
    refine ⟨_, (q_pss_cons (q_ps_set (i := 2) S.nd rfl (Or.inl lk_lowest_terms_divisor) (q_pe_call G_common_divisor (hr.mono (by decide)) lk_lowest_terms_common_divisor T.mg_common_divisor T.kp_common_divisor T.bn_common_divisor .nil pass0E (q_pa_cons (q_pe_var (i := 0) rfl (Or.inl lk_lowest_terms_top) nd_top.1 nd_top.2) (q_pa_cons (q_pe_var (i := 1) rfl (Or.inl lk_lowest_terms_bottom) nd_bottom.1 nd_bottom.2) q_pa_nil)) (hdb := nd_common_divisor.1)))
      (q_pss_one (q_ps_ret (q_pe_tup (q_pa_cons (q_pe_op op_fdivB (q_pe_var (i := 0) rfl (Or.inl lk_lowest_terms_top) nd_top.1 nd_top.2) (q_pe_var (i := 2) rfl (Or.inl lk_lowest_terms_divisor) nd_divisor.1 nd_divisor.2)) (q_pa_cons (q_pe_op op_fdivB (q_pe_var (i := 1) rfl (Or.inl lk_lowest_terms_bottom) nd_bottom.1 nd_bottom.2) (q_pe_var (i := 2) rfl (Or.inl lk_lowest_terms_divisor) nd_divisor.1 nd_divisor.2)) q_pa_nil)))))), ?_⟩
    walk_at "rdd"
    refine ⟨t, b, rfl, hb, ?_⟩
    walk_at "rdd"
    have c0 : CDv 0 (cd t b) := ⟨cd_ne hb, Nat.lt_of_le_of_lt (cd_le hb) hB⟩
    exact ⟨c0, c0, by decide, k⟩
theorem ok_plus (T : Txt K mg a) : FnOk P w K mg base (CXE P w) 4 a.f_plus a.d_plus ["a", "b"] (sp_2 K nAdd) := by
  have S := sc_plus
  have G_lowest_terms := ok_lowest_terms (P := P) (w := w) (base := base) T
  refine T.fun_plus.okQ S (fun vs H Q E h => ?_) (fun cdv A outer s H vs Q E hr h => ?_)
  · obtain ⟨p, q, x, y, n, rfl, hp, hq, hx, hy, hn, k⟩ := h; rfl
  · obtain ⟨p, q, x, y, n, rfl, hp, hq, hx, hy, hn, k⟩ := h
    refine ⟨_, (q_pss_one (q_ps_ret (q_pe_call G_lowest_terms (hr.mono (by decide)) lk_plus_lowest_terms T.mg_lowest_terms T.kp_lowest_terms T.bn_lowest_terms .nil pass0E (q_pa_cons (q_pe_op op_add (q_pe_op op_mulB (q_pe_ix ix_d (q_pe_var (i := 0) rfl (Or.inl lk_plus_a) nd_a.1 nd_a.2) q_pe_int (fun _ _ => rfl)) (q_pe_ix ix_d (q_pe_var (i := 1) rfl (Or.inl lk_plus_b) nd_b.1 nd_b.2) q_pe_int (fun _ _ => rfl))) (q_pe_op op_mulB (q_pe_ix ix_d (q_pe_var (i := 1) rfl (Or.inl lk_plus_b) nd_b.1 nd_b.2) q_pe_int (fun _ _ => rfl)) (q_pe_ix ix_d (q_pe_var (i := 0) rfl (Or.inl lk_plus_a) nd_a.1 nd_a.2) q_pe_int (fun _ _ => rfl)))) (q_pa_cons (q_pe_op op_mulB (q_pe_ix ix_d (q_pe_var (i := 0) rfl (Or.inl lk_plus_a) nd_a.1 nd_a.2) q_pe_int (fun _ _ => rfl)) (q_pe_ix ix_d (q_pe_var (i := 1) rfl (Or.inl lk_plus_b) nd_b.1 nd_b.2) q_pe_int (fun _ _ => rfl))) q_pa_nil)) (hdb := nd_lowest_terms.1)))), ?_⟩
    walk_at "rdd"
    refine ixd_t hp (atI0 x) (ixd_t hq (atI1 y) ⟨_, rfl, _, rfl, m2 hx.b1 hy.b2 hn, ixd_t hq (atI0 y) (ixd_t hp (atI1 x) ⟨_, rfl, _, rfl, m2 hy.b1 hx.b2 hn, ixd_t hp (atI1 x) (ixd_t hq (atI1 y) ⟨_, rfl, _, rfl, m2 hx.b2 hy.b2 hn, ?_⟩)⟩)⟩)
    exact ⟨_, _, rfl, Int.mul_ne_zero hx.nz hy.nz, b2 hx.b2 hy.b2 hn, k⟩
theorem ok__law_well (T : Txt K mg a) : FnOk P w K mg base (CXE P w) 2 a.f__law_well a.d__law_well ["_law_script", "_law_k"] (sp_well K) := by
  have S := sc__law_well
  refine T.fun__law_well.okQ S (fun vs H Q E h => ?_) (fun cdv A outer s H vs Q E hr h => ?_)
  · obtain ⟨p, ns, k, rfl, hs, h0, h1, q⟩ := h; rfl
  · obtain ⟨p, ns, k, rfl, hs, h0, h1, q⟩ := h
    refine ⟨_, (q_pss_cons (q_ps_set (i := 2) S.nd rfl (Or.inl lk__law_well__law_cell) q_pe_int)
      (q_pss_cons (q_ps_if (q_pt_cmp (q_pc_lt (q_pe_var (i := 1) rfl (Or.inl lk__law_well__law_k) nd__law_k.1 nd__law_k.2) (q_pe_callB call_len_seq lk__law_well_len T.b_len bt_len (q_pa_cons (q_pe_var (i := 0) rfl (Or.inl lk__law_well__law_script) nd__law_script.1 nd__law_script.2) q_pa_nil) (hn := nn_len) (hdb := nd_len.1)))) (q_pss_one (q_ps_set (i := 2) S.nd rfl (Or.inl lk__law_well__law_cell) (q_pe_ix ix_d (q_pe_var (i := 0) rfl (Or.inl lk__law_well__law_script) nd__law_script.1 nd__law_script.2) (q_pe_var (i := 1) rfl (Or.inl lk__law_well__law_k) nd__law_k.1 nd__law_k.2) (fun _ _ => rfl)))) q_pss_nil)
      (q_pss_one (q_ps_ret (q_pe_lst (q_pa_cons (q_pe_callTy call_int1 lk__law_well_int T.b_int bt_int (q_pa_cons (q_pe_cmp (q_pc_ge (q_pe_callB call_abs lk__law_well_abs T.b_abs bt_abs (q_pa_cons (q_pe_var (i := 2) rfl (Or.inl lk__law_well__law_cell) nd__law_cell.1 nd__law_cell.2) q_pa_nil) (hn := nn_abs) (hdb := nd_abs.1)) (q_pe_op op_pow q_pe_int q_pe_int))) q_pa_nil) (hn := nn_int) (hdb := nd_int.1)) (q_pa_cons (q_pe_var (i := 2) rfl (Or.inl lk__law_well__law_cell) nd__law_cell.1 nd__law_cell.2) (q_pa_cons (q_pe_op op_mulB q_pe_int (q_pe_var (i := 1) rfl (Or.inl lk__law_well__law_k) nd__law_k.1 nd__law_k.2)) q_pa_nil)))))))), ?_⟩
    walk_at "rdd"
    refine ⟨_, .inl hs, ite2 (fun c => ?_) (fun c => ?_)⟩
    · rw [List.length_map] at c
      obtain ⟨x, ex⟩ := atI_mem h0 c
      exact ixd_s hs ex ⟨x, rfl, ⟨by decide, by decide, by decide⟩, .inr ⟨mulL (by decide), by decide, fun r hr' => q r _ hr' (Same.new hr') ⟨_, _, _, upd_same, by omega, by omega⟩⟩⟩
    · exact ⟨⟨by decide, by decide, by decide⟩, .inr ⟨mulL (by decide), by decide, fun r hr' => q r _ hr' (Same.new hr') ⟨_, _, _, upd_same, by omega, by omega⟩⟩⟩
theorem ok__law_take (T : Txt K mg a) : FnOk P w K mg base (CXE P w) 2 a.f__law_take a.d__law_take ["_law_well_here", "_law_many"] sp_take := by
  have S := sc__law_take
  refine T.fun__law_take.okQ S (fun vs H Q E h => ?_) (fun cdv A outer s H vs Q E hr h => ?_)
  · obtain ⟨p, m, n, rfl, wa, hn, h0, h1, q⟩ := h; rfl
  · obtain ⟨p, m, n, rfl, wa, hn, h0, h1, q⟩ := h
    refine ⟨_, (q_pss_cons (q_ps_if (q_pt_cmp (q_pc_eqI (q_pe_ix ix_d (q_pe_var (i := 0) rfl (Or.inl lk__law_take__law_well_here) nd__law_well_here.1 nd__law_well_here.2) q_pe_int (fun _ _ => rfl)) q_pe_int)) (q_pss_cons (q_ps_set (i := 2) S.nd rfl (Or.inl lk__law_take__law_digit) (q_pe_op op_modN (q_pe_ix ix_d (q_pe_var (i := 0) rfl (Or.inl lk__law_take__law_well_here) nd__law_well_here.1 nd__law_well_here.2) q_pe_int (fun _ _ => rfl)) (q_pe_var (i := 1) rfl (Or.inl lk__law_take__law_many) nd__law_many.1 nd__law_many.2)))
      (q_pss_cons (q_ps_asg (q_pe_op op_fdivB (q_pe_ix ix_d (q_pe_var (i := 0) rfl (Or.inl lk__law_take__law_well_here) nd__law_well_here.1 nd__law_well_here.2) q_pe_int (fun _ _ => rfl)) (q_pe_var (i := 1) rfl (Or.inl lk__law_take__law_many) nd__law_many.1 nd__law_many.2)) (q_pg_sub (q_pe_var (i := 0) rfl (Or.inl lk__law_take__law_well_here) nd__law_well_here.1 nd__law_well_here.2) q_pe_int set_list))
      (q_pss_one (q_ps_ret (q_pe_var (i := 2) rfl (Or.inl lk__law_take__law_digit) nd__law_digit.1 nd__law_digit.2))))) q_pss_nil)
      (q_pss_cons (q_ps_set (i := 3) S.nd rfl (Or.inl lk__law_take__law_turn) (q_pe_op op_add (q_pe_ix ix_d (q_pe_var (i := 0) rfl (Or.inl lk__law_take__law_well_here) nd__law_well_here.1 nd__law_well_here.2) q_pe_int (fun _ _ => rfl)) q_pe_int))
      (q_pss_cons (q_ps_asg (q_pe_var (i := 3) rfl (Or.inl lk__law_take__law_turn) nd__law_turn.1 nd__law_turn.2) (q_pg_sub (q_pe_var (i := 0) rfl (Or.inl lk__law_take__law_well_here) nd__law_well_here.1 nd__law_well_here.2) q_pe_int set_list))
      (q_pss_cons (q_ps_set (i := 4) S.nd rfl (Or.inl lk__law_take__law_number_here) (q_pe_op op_modN (q_pe_op op_mulB (q_pe_op op_add (q_pe_op op_add (q_pe_ix ix_d (q_pe_var (i := 0) rfl (Or.inl lk__law_take__law_well_here) nd__law_well_here.1 nd__law_well_here.2) q_pe_int (fun _ _ => rfl)) (q_pe_op op_mulB (q_pe_op op_mulB q_pe_int (q_pe_var (i := 3) rfl (Or.inl lk__law_take__law_turn) nd__law_turn.1 nd__law_turn.2)) (q_pe_var (i := 3) rfl (Or.inl lk__law_take__law_turn) nd__law_turn.1 nd__law_turn.2))) (q_pe_var (i := 3) rfl (Or.inl lk__law_take__law_turn) nd__law_turn.1 nd__law_turn.2)) q_pe_int) q_pe_int))
      (q_pss_one (q_ps_ret (q_pe_op op_modN (q_pe_op op_fdivB (q_pe_op op_modN (q_pe_op op_add (q_pe_op op_mulB (q_pe_var (i := 4) rfl (Or.inl lk__law_take__law_number_here) nd__law_number_here.1 nd__law_number_here.2) q_pe_int) q_pe_int) q_pe_int) q_pe_int) (q_pe_var (i := 1) rfl (Or.inl lk__law_take__law_many) nd__law_many.1 nd__law_many.2)))))))), ?_⟩
    obtain ⟨f, c, t, hp, t0, t1⟩ := wa
    walk_at "rdd"
    refine ixd_l hp rfl ⟨f, rfl, ite2 (fun c1 => ?_) (fun c1 => ?_)⟩
    · refine ixd_l hp rfl ⟨c, rfl, by omega, ixd_l hp rfl ⟨c, rfl, cdv1 (by omega) (by omega), setl hp rfl ?_⟩⟩
      exact q _ _ (Int.fmod_nonneg_of_pos _ h0) (Int.fmod_lt_of_pos _ h0) ⟨f, _, t, upd_same, t0, by omega⟩ (SB.upd _ _ _)
    · refine ixd_l hp rfl ⟨t, rfl, setl hp rfl ?_⟩
      refine ixd_l upd_same rfl ⟨mulL (by decide), mulR (by omega), c, rfl, mulR (by decide), by decide, mulR (by decide), by decide, cdv1 (by decide) (by decide), by omega, ?_⟩
      exact q _ _ (Int.fmod_nonneg_of_pos _ h0) (Int.fmod_lt_of_pos _ h0) ⟨f, c, t + 1, upd_same, by omega, by omega⟩ (SB.upd _ _ _)
theorem ok__law_common (T : Txt K mg a) : FnOk P w K mg base (CXE P w) 2 a.f__law_common a.d__law_common ["_law_one", "_law_other"] sp_gcd := by
  have S := sc__law_common
  refine T.fun__law_common.okQ S (fun vs H Q E h => ?_) (fun cdv A outer s H vs Q E hr h => ?_)
  · obtain ⟨x, y, rfl, k⟩ := h; rfl
  · obtain ⟨x, y, rfl, k⟩ := h
    refine ⟨_, (q_pss_cons (q_ps_while PassesOwn.leaving (q_pt_cmp (q_pc_neI (q_pe_var (i := 1) rfl (Or.inl lk__law_common__law_other) nd__law_other.1 nd__law_other.2) q_pe_int)) (q_pss_one (q_ps_par rfl S.nd (i := 0) (j := 1) rfl rfl (by decide) lk__law_common__law_one lk__law_common__law_other (q_pa_cons (q_pe_var (i := 1) rfl (Or.inl lk__law_common__law_other) nd__law_other.1 nd__law_other.2) (q_pa_cons (q_pe_op op_modN (q_pe_var (i := 0) rfl (Or.inl lk__law_common__law_one) nd__law_one.1 nd__law_one.2) (q_pe_var (i := 1) rfl (Or.inl lk__law_common__law_other) nd__law_other.1 nd__law_other.2)) q_pa_nil)) (by rfl))))
      (q_pss_one (q_ps_ret (q_pe_callB call_abs lk__law_common_abs T.b_abs bt_abs (q_pa_cons (q_pe_var (i := 0) rfl (Or.inl lk__law_common__law_one) nd__law_one.1 nd__law_one.2) q_pa_nil) (hn := nn_abs) (hdb := nd_abs.1))))), ?_⟩
    refine while_w (fun m σ H' => ∃ (p q : Int), σ = [some (.int p), some (.int q)] ∧ H' = H ∧ m = q.natAbs ∧ Int.gcd p q = Int.gcd x y) y.natAbs ⟨x, y, rfl, rfl, rfl, rfl⟩ ?_
    rintro m σ H' ⟨p, q, rfl, rfl, rfl, hg⟩
    walk_at "rdd"
    refine ite2 (fun c => ?_) (fun c => ?_)
    · exact ⟨_, fun σ' H1 z => ⟨_, fmod_abs p c, z⟩, c, _, _, rfl, rfl, rfl, by rw [gcd_fmod]; exact hg⟩
    · have e : q = 0 := by omega
      subst e
      rw [Int.gcd_zero_right] at hg
      have e2 : (if p < 0 then -p else p) = ((x.gcd y : Nat) : Int) := by split <;> omega
      rw [e2]; exact k
theorem ok__law_num (T : Txt K mg a) : FnOk P w K mg base (CXE P w) 3 a.f__law_num a.d__law_num ["_law_top", "_law_bottom"] sp_num := by
  have S := sc__law_num
  have G__law_common := ok__law_common (P := P) (w := w) (base := base) T
  refine T.fun__law_num.okQ S (fun vs H Q E h => ?_) (fun cdv A outer s H vs Q E hr h => ?_)
  · obtain ⟨t, b, rfl, hb, hB, k⟩ := h; rfl
  · obtain ⟨t, b, rfl, hb, hB, k⟩ := h
    refine ⟨_, (q_pss_cons (q_ps_if (q_pt_cmp (q_pc_lt (q_pe_var (i := 1) rfl (Or.inl lk__law_num__law_bottom) nd__law_bottom.1 nd__law_bottom.2) q_pe_int)) (q_pss_cons (q_ps_set (i := 0) S.nd rfl (Or.inl lk__law_num__law_top) (q_pe_op op_sub q_pe_int (q_pe_var (i := 0) rfl (Or.inl lk__law_num__law_top) nd__law_top.1 nd__law_top.2)))
      (q_pss_one (q_ps_set (i := 1) S.nd rfl (Or.inl lk__law_num__law_bottom) (q_pe_op op_sub q_pe_int (q_pe_var (i := 1) rfl (Or.inl lk__law_num__law_bottom) nd__law_bottom.1 nd__law_bottom.2))))) q_pss_nil)
      (q_pss_cons (q_ps_set (i := 2) S.nd rfl (Or.inl lk__law_num__law_by) (q_pe_call G__law_common (hr.mono (by decide)) lk__law_num__law_common T.mg__law_common T.kp__law_common T.bn__law_common .nil pass0E (q_pa_cons (q_pe_var (i := 0) rfl (Or.inl lk__law_num__law_top) nd__law_top.1 nd__law_top.2) (q_pa_cons (q_pe_var (i := 1) rfl (Or.inl lk__law_num__law_bottom) nd__law_bottom.1 nd__law_bottom.2) q_pa_nil)) (hdb := nd__law_common.1)))
      (q_pss_one (q_ps_ret (q_pe_tup (q_pa_cons (q_pe_op op_fdivB (q_pe_var (i := 0) rfl (Or.inl lk__law_num__law_top) nd__law_top.1 nd__law_top.2) (q_pe_var (i := 2) rfl (Or.inl lk__law_num__law_by) nd__law_by.1 nd__law_by.2)) (q_pa_cons (q_pe_op op_fdivB (q_pe_var (i := 1) rfl (Or.inl lk__law_num__law_bottom) nd__law_bottom.1 nd__law_bottom.2) (q_pe_var (i := 2) rfl (Or.inl lk__law_num__law_by) nd__law_by.1 nd__law_by.2)) q_pa_nil))))))), ?_⟩
    walk_at "rdd"
    refine ite2 (fun c => ?_) (fun c => ?_)
    · have c1 : ∀ i, CDv i (Int.gcd (0 - t) (0 - b)) := fun i => gcd_cdv (by omega) (by rw [Int.zero_sub]; exact hB.neg)
      refine ⟨0 - t, 0 - b, rfl, _, rfl, c1 _, _, rfl, c1 _, by decide, fun p hp => ?_⟩
      have z := k p hp
      unfold lnum tNum at z
      rw [if_pos c] at z
      rw [Int.zero_sub, Int.zero_sub]
      exact z
    · have c1 : ∀ i, CDv i (Int.gcd t b) := fun i => gcd_cdv hb hB
      refine ⟨t, b, rfl, _, rfl, c1 _, _, rfl, c1 _, by decide, fun p hp => ?_⟩
      have z := k p hp
      unfold lnum tNum at z
      rw [if_neg c] at z
      exact z
theorem ok__law_add (T : Txt K mg a) : FnOk P w K mg base (CXE P w) 4 a.f__law_add a.d__law_add ["_law_one", "_law_other"] (sp_2 K nAdd) := by
  have S := sc__law_add
  have G__law_num := ok__law_num (P := P) (w := w) (base := base) T
  refine T.fun__law_add.okQ S (fun vs H Q E h => ?_) (fun cdv A outer s H vs Q E hr h => ?_)
  · obtain ⟨p, q, x, y, n, rfl, hp, hq, hx, hy, hn, k⟩ := h; rfl
  · obtain ⟨p, q, x, y, n, rfl, hp, hq, hx, hy, hn, k⟩ := h
    refine ⟨_, (q_pss_one (q_ps_ret (q_pe_call G__law_num (hr.mono (by decide)) lk__law_add__law_num T.mg__law_num T.kp__law_num T.bn__law_num .nil pass0E (q_pa_cons (q_pe_op op_add (q_pe_op op_mulB (q_pe_ix ix_d (q_pe_var (i := 0) rfl (Or.inl lk__law_add__law_one) nd__law_one.1 nd__law_one.2) q_pe_int (fun _ _ => rfl)) (q_pe_ix ix_d (q_pe_var (i := 1) rfl (Or.inl lk__law_add__law_other) nd__law_other.1 nd__law_other.2) q_pe_int (fun _ _ => rfl))) (q_pe_op op_mulB (q_pe_ix ix_d (q_pe_var (i := 1) rfl (Or.inl lk__law_add__law_other) nd__law_other.1 nd__law_other.2) q_pe_int (fun _ _ => rfl)) (q_pe_ix ix_d (q_pe_var (i := 0) rfl (Or.inl lk__law_add__law_one) nd__law_one.1 nd__law_one.2) q_pe_int (fun _ _ => rfl)))) (q_pa_cons (q_pe_op op_mulB (q_pe_ix ix_d (q_pe_var (i := 0) rfl (Or.inl lk__law_add__law_one) nd__law_one.1 nd__law_one.2) q_pe_int (fun _ _ => rfl)) (q_pe_ix ix_d (q_pe_var (i := 1) rfl (Or.inl lk__law_add__law_other) nd__law_other.1 nd__law_other.2) q_pe_int (fun _ _ => rfl))) q_pa_nil)) (hdb := nd__law_num.1)))), ?_⟩
    walk_at "rdd"
    refine ixd_t hp (atI0 x) (ixd_t hq (atI1 y) ⟨_, rfl, _, rfl, m2 hx.b1 hy.b2 hn, ixd_t hq (atI0 y) (ixd_t hp (atI1 x) ⟨_, rfl, _, rfl, m2 hy.b1 hx.b2 hn, ixd_t hp (atI1 x) (ixd_t hq (atI1 y) ⟨_, rfl, _, rfl, m2 hx.b2 hy.b2 hn, ?_⟩)⟩)⟩)
    refine ⟨_, _, rfl, Int.mul_ne_zero hx.nz hy.nz, b2 hx.b2 hy.b2 hn, ?_⟩
    rw [lnum_eq (Int.mul_ne_zero hx.nz hy.nz)]
    exact k
theorem ok__law_mul (T : Txt K mg a) : FnOk P w K mg base (CXE P w) 4 a.f__law_mul a.d__law_mul ["_law_one", "_law_other"] (sp_2 K nMul) := by
  have S := sc__law_mul
  have G__law_num := ok__law_num (P := P) (w := w) (base := base) T
  refine T.fun__law_mul.okQ S (fun vs H Q E h => ?_) (fun cdv A outer s H vs Q E hr h => ?_)
  · obtain ⟨p, q, x, y, n, rfl, hp, hq, hx, hy, hn, k⟩ := h; rfl
  · obtain ⟨p, q, x, y, n, rfl, hp, hq, hx, hy, hn, k⟩ := h
    refine ⟨_, (q_pss_one (q_ps_ret (q_pe_call G__law_num (hr.mono (by decide)) lk__law_mul__law_num T.mg__law_num T.kp__law_num T.bn__law_num .nil pass0E (q_pa_cons (q_pe_op op_mulB (q_pe_ix ix_d (q_pe_var (i := 0) rfl (Or.inl lk__law_mul__law_one) nd__law_one.1 nd__law_one.2) q_pe_int (fun _ _ => rfl)) (q_pe_ix ix_d (q_pe_var (i := 1) rfl (Or.inl lk__law_mul__law_other) nd__law_other.1 nd__law_other.2) q_pe_int (fun _ _ => rfl))) (q_pa_cons (q_pe_op op_mulB (q_pe_ix ix_d (q_pe_var (i := 0) rfl (Or.inl lk__law_mul__law_one) nd__law_one.1 nd__law_one.2) q_pe_int (fun _ _ => rfl)) (q_pe_ix ix_d (q_pe_var (i := 1) rfl (Or.inl lk__law_mul__law_other) nd__law_other.1 nd__law_other.2) q_pe_int (fun _ _ => rfl))) q_pa_nil)) (hdb := nd__law_num.1)))), ?_⟩
    walk_at "rdd"
    refine ixd_t hp (atI0 x) (ixd_t hq (atI0 y) ⟨_, rfl, _, rfl, m2 hx.b1 hy.b1 hn, ixd_t hp (atI1 x) (ixd_t hq (atI1 y) ⟨_, rfl, _, rfl, m2 hx.b2 hy.b2 hn, ?_⟩)⟩)
    refine ⟨_, _, rfl, Int.mul_ne_zero hx.nz hy.nz, b2 hx.b2 hy.b2 hn, ?_⟩
    rw [lnum_eq (Int.mul_ne_zero hx.nz hy.nz)]
    exact k
theorem ok__law_number (T : Txt K mg a) : FnOk P w K mg base (CXE P w) 4 a.f__law_number a.d__law_number ["_law_well_here"] sp_number := by
  have S := sc__law_number
  have G__law_take := ok__law_take (P := P) (w := w) (base := base) T
  have G__law_num := ok__law_num (P := P) (w := w) (base := base) T
  refine T.fun__law_number.okQ S (fun vs H Q E h => ?_) (fun cdv A outer s H vs Q E hr h => ?_)
  · obtain ⟨p, n, rfl, wa, hn, q⟩ := h; rfl
  · obtain ⟨p, n, rfl, wa, hn, q⟩ := h
    refine ⟨_, (q_pss_cons (q_ps_set (i := 1) S.nd rfl (Or.inl lk__law_number__law_way) (q_pe_call G__law_take (hr.mono (by decide)) lk__law_number__law_take T.mg__law_take T.kp__law_take T.bn__law_take .nil pass0E (q_pa_cons (q_pe_var (i := 0) rfl (Or.inl lk__law_number__law_well_here) nd__law_well_here.1 nd__law_well_here.2) (q_pa_cons q_pe_int q_pa_nil)) (hdb := nd__law_take.1)))
      (q_pss_cons (q_ps_if (q_pt_cmp (q_pc_eqI (q_pe_var (i := 1) rfl (Or.inl lk__law_number__law_way) nd__law_way.1 nd__law_way.2) q_pe_int)) (q_pss_one (q_ps_ret (q_pe_call G__law_num (hr.mono (by decide)) lk__law_number__law_num T.mg__law_num T.kp__law_num T.bn__law_num .nil pass0E (q_pa_cons (q_pe_op op_sub (q_pe_call G__law_take (hr.mono (by decide)) lk__law_number__law_take T.mg__law_take T.kp__law_take T.bn__law_take .nil pass0E (q_pa_cons (q_pe_var (i := 0) rfl (Or.inl lk__law_number__law_well_here) nd__law_well_here.1 nd__law_well_here.2) (q_pa_cons (q_pe_op op_add (q_pe_op op_mulB q_pe_int (q_pe_op op_pow q_pe_int q_pe_int)) q_pe_int) q_pa_nil)) (hdb := nd__law_take.1)) (q_pe_op op_pow q_pe_int q_pe_int)) (q_pa_cons (q_pe_op op_add q_pe_int (q_pe_call G__law_take (hr.mono (by decide)) lk__law_number__law_take T.mg__law_take T.kp__law_take T.bn__law_take .nil pass0E (q_pa_cons (q_pe_var (i := 0) rfl (Or.inl lk__law_number__law_well_here) nd__law_well_here.1 nd__law_well_here.2) (q_pa_cons (q_pe_op op_pow q_pe_int q_pe_int) q_pa_nil)) (hdb := nd__law_take.1))) q_pa_nil)) (hdb := nd__law_num.1)))) q_pss_nil)
      (q_pss_cons (q_ps_if (q_pt_cmp (q_pc_gt (q_pe_var (i := 1) rfl (Or.inl lk__law_number__law_way) nd__law_way.1 nd__law_way.2) q_pe_int)) (q_pss_one (q_ps_ret (q_pe_call G__law_num (hr.mono (by decide)) lk__law_number__law_num T.mg__law_num T.kp__law_num T.bn__law_num .nil pass0E (q_pa_cons (q_pe_op op_sub (q_pe_call G__law_take (hr.mono (by decide)) lk__law_number__law_take T.mg__law_take T.kp__law_take T.bn__law_take .nil pass0E (q_pa_cons (q_pe_var (i := 0) rfl (Or.inl lk__law_number__law_well_here) nd__law_well_here.1 nd__law_well_here.2) (q_pa_cons q_pe_int q_pa_nil)) (hdb := nd__law_take.1)) q_pe_int) (q_pa_cons (q_pe_op op_add q_pe_int (q_pe_call G__law_take (hr.mono (by decide)) lk__law_number__law_take T.mg__law_take T.kp__law_take T.bn__law_take .nil pass0E (q_pa_cons (q_pe_var (i := 0) rfl (Or.inl lk__law_number__law_well_here) nd__law_well_here.1 nd__law_well_here.2) (q_pa_cons q_pe_int q_pa_nil)) (hdb := nd__law_take.1))) q_pa_nil)) (hdb := nd__law_num.1)))) q_pss_nil)
      (q_pss_one (q_ps_ret (q_pe_tup (q_pa_cons (q_pe_op op_sub (q_pe_call G__law_take (hr.mono (by decide)) lk__law_number__law_take T.mg__law_take T.kp__law_take T.bn__law_take .nil pass0E (q_pa_cons (q_pe_var (i := 0) rfl (Or.inl lk__law_number__law_well_here) nd__law_well_here.1 nd__law_well_here.2) (q_pa_cons q_pe_int q_pa_nil)) (hdb := nd__law_take.1)) q_pe_int) (q_pa_cons q_pe_int q_pa_nil)))))))), ?_⟩
    walk_at "rd"
    refine ⟨p, 8, n, rfl, wa, by omega, by decide, by decide, fun r1 H1 a1 b1 w1 s1 => ?_⟩
    walk_at "rd"
    refine ite2 (fun c => ?_) (fun c => ?_)
    · refine ⟨⟨by decide, by decide, by decide⟩, mulL (by decide), ?_⟩
      refine ⟨p, _, _, rfl, w1, by omega, by decide, by decide, fun r2 H2 a2 b2 w2 s2 => ?_⟩
      refine ⟨⟨by decide, by decide, by decide⟩, r2, rfl, ⟨by decide, by decide, by decide⟩, ?_⟩
      refine ⟨p, _, _, rfl, w2, by omega, by decide, by decide, fun r3 H3 a3 b3 w3 s3 => ?_⟩
      refine ⟨r3, rfl, r2 - 10 ^ Int.toNat 17, 1 + r3, rfl, by omega, ?_, fun u hu => ?_⟩
      · exact Bd.mono (m := 60) (by unfold Bd; simp at b3; omega) (by decide)
      · rw [lnum_eq (by omega)]
        have e17 : (10 : Int) ^ Int.toNat 17 = 100000000000000000 := by decide
        exact q u _ _ (.nrm (by omega) (by unfold Bd; omega) (by unfold Bd; omega)) ((((s1.trans s2).trans s3)).trans (SB.new hu)) ((w3.same (Same.new hu)).mono (by omega)) upd_same
    · walk_at "rd"
      refine ite2 (fun c2 => ?_) (fun c2 => ?_)
      · refine ⟨p, _, _, rfl, w1, by omega, by decide, by decide, fun r2 H2 a2 b2 w2 s2 => ?_⟩
        refine ⟨r2, rfl, ?_⟩
        refine ⟨p, _, _, rfl, w2, by omega, by decide, by decide, fun r3 H3 a3 b3 w3 s3 => ?_⟩
        refine ⟨r3, rfl, r2 - 100, 1 + r3, rfl, by omega, Bd.mono (m := 60) (by unfold Bd; omega) (by decide), fun u hu => ?_⟩
        rw [lnum_eq (by omega)]
        exact q u _ _ (.nrm (by omega) (by unfold Bd; omega) (by unfold Bd; omega)) ((((s1.trans s2).trans s3)).trans (SB.new hu)) ((w3.same (Same.new hu)).mono (by omega)) upd_same
      · walk_at "rd"
        refine ⟨p, _, _, rfl, w1, by omega, by decide, by decide, fun r2 H2 a2 b2 w2 s2 => ?_⟩
        refine ⟨r2, rfl, by decide, fun u hu => ?_⟩
        refine q u _ (r2 - 4, 1) ⟨⟨(show (0 : Int) < 1 by decide), ?_⟩, (show Bd 60 (r2 - 4) by unfold Bd; omega), (show Bd 60 1 by unfold Bd; omega)⟩ ((s1.trans s2).trans (SB.new hu)) ((w2.same (Same.new hu)).mono (by omega)) upd_same
        exact Int.gcd_one_right _
theorem ok__law_whole (T : Txt K mg a) : FnOk P w K mg base (CXE P w) 2 a.f__law_whole a.d__law_whole ["_law_found"] (sp_whole K) := by
  have S := sc__law_whole
  refine T.fun__law_whole.okQ S (fun vs H Q E h => ?_) (fun cdv A outer s H vs Q E hr h => ?_)
  · obtain ⟨v, t, rfl, ty, kd, k⟩ := h; rfl
  · obtain ⟨v, t, rfl, ty, kd, k⟩ := h
    refine ⟨_, (q_pss_one (q_ps_ret (q_pe_and (q_pe_callB (call_isiK (K := K) rfl) lk__law_whole_isinstance T.b_isinstance bt_isinstance (q_pa_cons (q_pe_var (i := 0) rfl (Or.inl lk__law_whole__law_found) nd__law_found.1 nd__law_found.2) (q_pa_cons (q_pe_bltn lk__law_whole_int T.b_int bt_int (v := .ty "int") rfl (hd := nd_int.1) (hn := nn_int)) q_pa_nil)) (hn := nn_isinstance) (hdb := nd_isinstance.1)) (q_pe_one (q_pe_not (q_pe_callB (call_isiK (K := K) rfl) lk__law_whole_isinstance T.b_isinstance bt_isinstance (q_pa_cons (q_pe_var (i := 0) rfl (Or.inl lk__law_whole__law_found) nd__law_found.1 nd__law_found.2) (q_pa_cons (q_pe_bltn lk__law_whole_bool T.b_bool bt_bool (v := .ty "bool") rfl (hd := nd_bool.1) (hn := nn_bool)) q_pa_nil)) (hn := nn_isinstance) (hdb := nd_isinstance.1))))))), ?_⟩
    walk_at "rdd"
    refine ⟨t, ty, rfl, _, kit_int K kd, ?_⟩
    rw [← whole_eq kd] at k
    refine ite2b (fun c => ?_) (fun c => ?_)
    · rw [if_pos c] at k
      exact ⟨t, ty, rfl, _, kit_bool K kd, k⟩
    · rw [if_neg (by rw [c]; decide)] at k
      exact k
theorem ok__law_is (T : Txt K mg a) : FnOk P w K mg base (CXE P w) 3 a.f__law_is a.d__law_is ["_law_found", "_law_due_here"] (sp_is K) := by
  have S := sc__law_is
  have G__law_whole := ok__law_whole (P := P) (w := w) (base := base) T
  refine T.fun__law_is.okQ S (fun vs H Q E h => ?_) (fun cdv A outer s H vs Q E hr h => ?_)
  · obtain ⟨p, q, x, y, rfl, hp, hq, k⟩ := h; rfl
  · obtain ⟨p, q, x, y, rfl, hp, hq, k⟩ := h
    refine ⟨_, (q_pss_cons (q_ps_if (q_pwpt (q_pw_or (q_pt_not (q_pt_val (q_pe_callB (call_isiK (K := K) rfl) lk__law_is_isinstance T.b_isinstance bt_isinstance (q_pa_cons (q_pe_var (i := 0) rfl (Or.inl lk__law_is__law_found) nd__law_found.1 nd__law_found.2) (q_pa_cons (q_pe_bltn lk__law_is_tuple T.b_tuple bt_tuple (v := .ty "tuple") rfl (hd := nd_tuple.1) (hn := nn_tuple)) q_pa_nil)) (hn := nn_isinstance) (hdb := nd_isinstance.1)))) (q_pw_or (q_pt_cmp (q_pc_neI (q_pe_callB call_len_seq lk__law_is_len T.b_len bt_len (q_pa_cons (q_pe_var (i := 0) rfl (Or.inl lk__law_is__law_found) nd__law_found.1 nd__law_found.2) q_pa_nil) (hn := nn_len) (hdb := nd_len.1)) q_pe_int)) (q_pw_or (q_pt_not (q_pt_val (q_pe_call G__law_whole (hr.mono (by decide)) lk__law_is__law_whole T.mg__law_whole T.kp__law_whole T.bn__law_whole .nil pass0E (q_pa_cons (q_pe_ix ix_d (q_pe_var (i := 0) rfl (Or.inl lk__law_is__law_found) nd__law_found.1 nd__law_found.2) q_pe_int (fun _ _ => rfl)) q_pa_nil) (hdb := nd__law_whole.1)))) (q_pw_or1 (q_pt_not (q_pt_val (q_pe_call G__law_whole (hr.mono (by decide)) lk__law_is__law_whole T.mg__law_whole T.kp__law_whole T.bn__law_whole .nil pass0E (q_pa_cons (q_pe_ix ix_d (q_pe_var (i := 0) rfl (Or.inl lk__law_is__law_found) nd__law_found.1 nd__law_found.2) q_pe_int (fun _ _ => rfl)) q_pa_nil) (hdb := nd__law_whole.1))))))))) (q_pss_one (q_ps_ret q_pe_bl)) q_pss_nil)
      (q_pss_one (q_ps_ret (q_pe_cmpR (op_eqD hr.units) (q_pe_var (i := 0) rfl (Or.inl lk__law_is__law_found) nd__law_found.1 nd__law_found.2) (q_pe_var (i := 1) rfl (Or.inl lk__law_is__law_due_here) nd__law_due_here.1 nd__law_due_here.2) (nomark _))))), ?_⟩
    walk_at "rdd"
    refine ⟨.type "tuple", .tup hp, rfl, true, kit_tup K, ?_⟩
    rw [if_neg (by decide)]
    refine ⟨_, .inr hp, ?_⟩
    rw [if_neg (fun z => z rfl)]
    refine ixd_t hp rfl ⟨_, _, rfl, .of (.int _), int_kind, _, rfl, ?_⟩
    rw [if_neg (by decide)]
    refine ixd_t hp rfl ⟨_, _, rfl, .of (.int _), int_kind, _, rfl, ?_⟩
    rw [if_neg (by decide)]
    refine ⟨_, _, .tup hp (.cons (.int _) (.cons (.int _) .nil)), .tup hq (.cons (.int _) (.cons (.int _) .nil)), by simp [D.depth, D.depths], ?_⟩
    rw [eq_num]
    exact k
theorem ok_sum_of (T : Txt K mg a) : FnOk P w K mg base (CXE P w) 5 a.f_sum_of a.d_sum_of ["number", "pairs"] (sp_sum K) := by
  have S := sc_sum_of
  have G_plus := ok_plus (P := P) (w := w) (base := base) T
  refine T.fun_sum_of.okQ S (fun vs H Q E h => ?_) (fun cdv A outer s H vs Q E hr h => ?_)
  · obtain ⟨an, lp, vl, ps, b, c, rfl, hq, pv, nb, cn, hbc, hb, hps, k⟩ := h; rfl
  · obtain ⟨an, lp, vl, ps, b, c, rfl, hq, pv, nb, cn, hbc, hb, hps, k⟩ := h
    refine ⟨_, (q_pss_cons (q_ps_set (i := 2) S.nd rfl (Or.inr lk_sum_of_factors) q_pe_dnewK)
      (q_pss_cons (q_ps_for PassesOwn.leaving rfl (q_pi_seq (q_pe_var (i := 1) rfl (Or.inl lk_sum_of_pairs) nd_pairs.1 nd_pairs.2)) (q_pg_tup (n := 2) rfl (q_pgs_cons (q_pg_name (i := 3) S.nd rfl (Or.inl lk_sum_of_name)) (q_pgs_cons (q_pg_name (i := 4) S.nd rfl (Or.inl lk_sum_of_factor)) q_pgs_nil))) (q_pss_one (q_ps_dput (hu_of hr) (q_pe_var (i := 2) rfl (Or.inr (Or.inl lk_sum_of_factors)) nd_factors.1 nd_factors.2) (q_pe_var (i := 3) rfl (Or.inl lk_sum_of_name) nd_name.1 nd_name.2) (q_pe_call G_plus (hr.mono (by decide)) lk_sum_of_plus T.mg_plus T.kp_plus T.bn_plus .nil pass0E (q_pa_cons (q_pe_dget2 (hu_of hr) (q_pe_var (i := 2) rfl (Or.inr (Or.inl lk_sum_of_factors)) nd_factors.1 nd_factors.2) (q_pe_var (i := 3) rfl (Or.inl lk_sum_of_name) nd_name.1 nd_name.2) (q_pe_glob lk_sum_of_ZERO T.mg_ZERO (v := .ref a.K_ZERO) rfl nd_ZERO.1) ⟨rfl, rfl, rfl, rfl⟩) (q_pa_cons (q_pe_var (i := 4) rfl (Or.inl lk_sum_of_factor) nd_factor.1 nd_factor.2) q_pa_nil)) (hdb := nd_plus.1)) rfl)))
      (q_pss_one (q_ps_ret (q_pe_tup (q_pa_cons (q_pe_var (i := 0) rfl (Or.inl lk_sum_of_number) nd_number.1 nd_number.2) (q_pa_cons (q_pe_callTy call_tuple_of lk_sum_of_tuple T.b_tuple bt_tuple (q_pa_cons (q_pe_comp rfl csc_sum_of_0 (q_pi_list (q_pe_callB (call_sortedS rfl) lk_sum_of_sorted T.b_sorted bt_sorted (q_pa_cons (q_pe_var (i := 2) rfl (Or.inr (Or.inl lk_sum_of_factors)) nd_factors.1 nd_factors.2) q_pa_nil) (hn := nn_sorted) (hdb := nd_sorted.1))) (fun _ _ _ _ _ => (q_pg_name (i := 5) csc_sum_of_0.nd rfl (Or.inl (rel_local lc_sum_of_0_name)) (Or.inr (rel_local lc_sum_of_0_name)))) (fun _ _ _ _ _ => (q_pf_one (q_pt_cmpR (op_neDK (K := K) rfl hr.units) (q_pe_dget (hu_of hr) (q_pe_var (i := 2) rfl (rel_free lc_sum_of_0_factors) nd_factors.1 nd_factors.2) (q_pe_var (i := 5) rfl (Or.inl (rel_local lc_sum_of_0_name)) nd_name.1 nd_name.2) (fun _ _ => rfl)) (q_pe_glob (rel_glob lc_sum_of_0_ZERO) T.mg_ZERO (v := .ref a.K_ZERO) rfl nd_ZERO.1) (nomark _)))) (fun _ _ _ _ _ => (q_pe_tup (q_pa_cons (q_pe_var (i := 5) rfl (Or.inl (rel_local lc_sum_of_0_name)) nd_name.1 nd_name.2) (q_pa_cons (q_pe_dget (hu_of hr) (q_pe_var (i := 2) rfl (rel_free lc_sum_of_0_factors) nd_factors.1 nd_factors.2) (q_pe_var (i := 5) rfl (Or.inl (rel_local lc_sum_of_0_name)) nd_name.1 nd_name.2) (fun _ _ => rfl)) q_pa_nil))))) q_pa_nil) (hn := nn_tuple) (hdb := nd_tuple.1)) q_pa_nil))))))), ?_⟩
    walk_at "rd"
    intro d hd
    have s1 := Same.new (o := .dK []) hd
    have D0 : DAt (upd H d (.dK [])) d [] (tot []) := ⟨⟨[], upd_same, rfl, fun n hn => (by cases hn), fun n _ => rfl⟩, .nil⟩
    have md := upd_same (H := H) (a := d) (o := .dK [])
    generalize upd H d _ = H1 at s1 D0 md ⊢
    have pv1 := pv.same s1
    have hq1 : SqL K H1 lp vl ∨ SqT K H1 lp vl := hq.imp (fun q => q.keeps s1) (fun q => q.keeps s1)
    walk_at "rd"
    refine forB_seq hq1 (fun i σ H' => ∃ v3 v4 ks, σ = [some (.ref an), some (.ref lp), some (.ref d), v3, v4] ∧ SB d H1 H' ∧ DAt H' d ks (tot (ps.take i)) ∧ (∀ n, n ∈ ks ↔ ∃ p ∈ ps.take i, p.1 = n) ∧ ks.length ≤ i) ⟨_, _, [], rfl, SB.refl _ _, by simpa using D0, by simp, by simp⟩ ?_ ?_ ?_
    · rintro i σ H' ⟨v3, v4, ks, rfl, sb, _⟩
      exact ⟨fun q => q.sbD sb md, fun q => q.sbD sb md⟩
    · rintro i v σ H' hv ⟨v3, v4, ks, rfl, sb, DA, hk, hl⟩
      obtain ⟨p, hp, t, a1, rfl, q1, q2⟩ : ∃ p, ps[i]? = some p ∧ PairAt K H1 v p := Paired.at pv1 hv
      obtain ⟨n, x⟩ := p
      have q1 := q1.sbD sb md
      have q2 := q2.sbD sb md
      have hpm := List.mem_of_getElem? hp
      walk_at "rd"
      refine ⟨_, q1, rfl, _, _, rfl, _, _, rfl, rfl, ?_⟩
      obtain ⟨kvs, hdk, ek, hvs, hns⟩ := DA.ex
      refine ⟨.inl ⟨kvs, .inl hdk⟩, ?_⟩
      skip
      refine ⟨_, .inl ⟨kvs, Sum.inr n, .inl hdk, rfl, rfl⟩, ?_⟩
      have nx := nb _ hpm
      have nt : NB ((b + 1) * c + 1) (tot (ps.take i) n) := (tot_nb (fun p hp => nb p (List.mem_of_mem_take hp)) n).mono (by have := Nat.mul_le_mul_left (b + 1) (Nat.le_trans (cnt_take ps i n) (cn n)); omega)
      obtain ⟨b0, eb, qb⟩ : ∃ b0, (valV kvs (Sum.inr n)).getD (.ref a.K_ZERO) = .ref b0 ∧ SqT K H' b0 (numV (tot (ps.take i) n)) := by
        by_cases c : n ∈ ks
        · obtain ⟨a, h1, h2⟩ := hvs n c
          exact ⟨a, by rw [h1]; rfl, SqT.of h2⟩
        · refine ⟨a.K_ZERO, by rw [hns n c]; rfl, ?_⟩
          rw [tot_out fun p hp z => c ((hk n).mpr ⟨p, hp, z⟩)]
          exact T.z_ZERO _
      refine ⟨b0, a1, tot (ps.take i) n, x, max ((b + 1) * c + 1) b, by rw [eb], qb, q2, nt.mono (Nat.le_max_left _ _), nx.mono (Nat.le_max_right _ _), by omega, fun r hr' => ?_⟩
      have e1 : tot (ps.take (i + 1)) n = nAdd (tot (ps.take i) n) x := by rw [take_snoc hp, tot_snoc, if_pos rfl]
      have e2 : ∀ m, m ≠ n → tot (ps.take (i + 1)) m = tot (ps.take i) m := fun m hm => by rw [take_snoc hp, tot_snoc, if_neg (fun z => hm z.symm)]
      obtain ⟨kvs2, hk2, kl, DA2⟩ := DA.put hr' e1 e2
      have ls : 60 ≤ sizeLine := by rw [sizeLine_eq]; decide
      have li : i < ps.length := (List.getElem?_eq_some_iff.mp hp).1
      refine ⟨_, .inl ⟨kvs2, Sum.inr n, hk2, rfl, by omega, rfl⟩, ?_⟩
      refine ⟨(fun c o nc e => ?_), _, DA2, fun m => ?_, ?_⟩
      · rw [upd_ne nc, upd_ne (ne_of_none (sb c o nc e) hr')]
        exact (sb c o nc e)
      · rw [take_snoc hp]
        constructor
        · intro hm
          by_cases c : n ∈ ks
          · rw [if_pos c] at hm
            obtain ⟨p, h1, h2⟩ := (hk m).mp hm
            exact ⟨p, List.mem_append_left _ h1, h2⟩
          · rw [if_neg c] at hm
            rcases List.mem_append.mp hm with z | z
            · obtain ⟨p, h1, h2⟩ := (hk m).mp z
              exact ⟨p, List.mem_append_left _ h1, h2⟩
            · exact ⟨(n, x), by simp, (List.mem_singleton.mp z).symm⟩
        · rintro ⟨p, h1, h2⟩
          rcases List.mem_append.mp h1 with z | z
          · have := (hk m).mpr ⟨p, z, h2⟩
            split
            · exact this
            · exact List.mem_append_left _ this
          · rw [List.mem_singleton.mp z] at h2
            have h2 : n = m := h2
            subst h2
            split
            · assumption
            · simp
      · split
        · omega
        · rw [List.length_append]; simp; omega
    · rintro σ H' ⟨v3, v4, ks, rfl, sb, DA, hk, hl⟩
      have hvl : vl.length = ps.length := Paired.length pv1
      rw [hvl, List.take_length] at DA hk
      rw [hvl] at hl
      have sH : Same H H' := fun c o e => sb c o (ne_of_none e hd) (s1 c o e)
      obtain ⟨kvs, hdk, ek, hvs, hns⟩ := DA.ex
      walk_at "rd"
      have l64 : ks.length < 64 := by omega
      have hkv : ∀ (H2 : Hp) (n : Str), Same H' H2 → n ∈ ks → ∃ a0, DGet H2 d (.str n) (some (.ref a0)) ∧ SqT K H2 a0 (numV (tot ps n)) := fun H2 n s2 hn => by
        obtain ⟨a0, h1, h2⟩ := hvs n hn
        exact ⟨a0, .inl ⟨kvs, Sum.inr n, .inl (s2 _ _ hdk), rfl, h1.symm⟩, SqT.of (s2 _ _ h2)⟩
      refine ⟨d, ks, rfl, .inr ⟨kvs, hdk, ek⟩, l64, fun rr ss hrr pm srt => ?_⟩
      have pmk : ∀ n, n ∈ ss → n ∈ ks := fun n hn => pm.mem_iff.mp hn
      have sl := Same.new (o := .lst (ss.map V.str)) hrr
      have mr := upd_same (H := H') (a := rr) (o := .lst (ss.map V.str))
      generalize upd H' rr _ = H3 at sl mr ⊢
      have s3 : Same H' H3 := sl
      refine ⟨rr, rfl, ⟨_, SqL.of mr⟩, compB_list (xs := ss.map V.str) (fun j σ ys H4 => ∃ v5, σ = [some (.ref an), some (.ref lp), some (.ref d), v3, v4, v5] ∧ Same H3 H4 ∧ PairsAt K H4 ys (canonL ps (ss.take j))) ⟨_, rfl, Same.refl _, .nil⟩ ?_ ?_ ?_⟩
      · rintro j σ ys H4 ⟨v5, rfl, s4, py⟩
        refine ⟨?_, SqL.of (s4 _ _ mr)⟩
        have e1 : ys.length = (canonL ps (ss.take j)).length := Paired.length py
        have e2 : (canonL ps (ss.take j)).length ≤ ss.length := by
          unfold canonL
          rw [List.length_map]
          exact Nat.le_trans (List.length_filter_le _ _) (by rw [List.length_take]; omega)
        have e3 : ss.length = ks.length := pm.length_eq
        have ls : 64 ≤ sizeLine := by rw [sizeLine_eq]; decide
        omega
      · rintro j v σ ys H4 hv ⟨v5, rfl, s4, py⟩
        obtain ⟨n, hn, rfl⟩ : ∃ n, ss[j]? = some n ∧ v = .str n := by
          rw [List.getElem?_map] at hv
          cases e : ss[j]? with
          | none => rw [e] at hv; cases hv
          | some n => rw [e] at hv; exact ⟨n, rfl, (Option.some.inj hv).symm⟩
        have hnk := pmk n (List.mem_of_getElem? hn)
        obtain ⟨a0, g1, g2⟩ := hkv H4 n (s3.trans s4) hnk
        have ec : canonL ps (ss.take (j + 1)) = canonL ps (ss.take j) ++ (if nz ps n = true then [(n, tot ps n)] else []) := by
          unfold canonL
          rw [take_snoc hn, List.filter_append, List.map_append]
          by_cases c : nz ps n = true <;> simp [c]
        walk_at "rd"
        refine ⟨_, g1, ?_⟩
        skip
        refine ⟨_, _, den_num g2, den_num (x := (0, 1)) (T.z_ZERO _), by simp [D.depth, D.depths], _, rfl, ?_⟩
        rw [eq_num]
        refine ite2b (fun c => ?_) (fun c => ?_)
        · refine ⟨_, g1, (by decide), fun t ht => ⟨s4.trans (Same.new ht), ?_⟩⟩
          rw [ec, if_pos (show nz ps n = true from c)]
          exact Paired.snoc (PairsAt.same py (Same.new ht)) ⟨t, a0, rfl, SqT.of upd_same, (g2).keeps (Same.new ht)⟩
        · refine ⟨s4, ?_⟩
          rw [ec, if_neg (show ¬ nz ps n = true from by unfold nz; rw [c]; decide), List.append_nil]
          exact py
      · rintro σ ys H4 ⟨v5, rfl, s4, py⟩ r2 h2
        rw [List.length_map, List.take_length] at py
        refine ⟨r2, rfl, ys, .inl ⟨SqL.of upd_same, fun f hf => ⟨by decide, fun r3 h3 => ?_⟩⟩⟩
        have s5 := ((Same.new (o := .lst ys) h2).trans (Same.new (o := .tup ys) hf)).trans (Same.new (o := .tup [V.ref an, V.ref f]) h3)
        have cl : (canonL ps ss).length ≤ ps.length := by
          unfold canonL
          rw [List.length_map]
          have e1 := List.length_filter_le (nz ps) ss
          have e3 : ss.length = ks.length := pm.length_eq
          omega
        refine k r3 _ _ ((sH.trans s3).trans (s4.trans s5)) (canon_of srt pm DA.nd hk) cl ⟨r3, f, ys, rfl, SqT.of upd_same, SqT.of (Same.new h3 _ _ upd_same), PairsAt.same py s5⟩
theorem ok__law_due (T : Txt K mg a) : FnOk P w K mg base (CXE P w) 5 a.f__law_due a.d__law_due ["_law_number_here", "_law_pairs_here"] (sp_sum K) := by
  have S := sc__law_due
  have G__law_add := ok__law_add (P := P) (w := w) (base := base) T
  refine T.fun__law_due.okQ S (fun vs H Q E h => ?_) (fun cdv A outer s H vs Q E hr h => ?_)
  · obtain ⟨an, lp, vl, ps, b, c, rfl, hq, pv, nb, cn, hbc, hb, hps, k⟩ := h; rfl
  · obtain ⟨an, lp, vl, ps, b, c, rfl, hq, pv, nb, cn, hbc, hb, hps, k⟩ := h
    refine ⟨_, (q_pss_cons (q_ps_set (i := 2) S.nd rfl (Or.inr lk__law_due__law_factors) q_pe_dnewK)
      (q_pss_cons (q_ps_for PassesOwn.leaving rfl (q_pi_seq (q_pe_var (i := 1) rfl (Or.inl lk__law_due__law_pairs_here) nd__law_pairs_here.1 nd__law_pairs_here.2)) (q_pg_tup (n := 2) rfl (q_pgs_cons (q_pg_name (i := 3) S.nd rfl (Or.inl lk__law_due__law_name_here)) (q_pgs_cons (q_pg_name (i := 4) S.nd rfl (Or.inl lk__law_due__law_factor)) q_pgs_nil))) (q_pss_one (q_ps_dput (hu_of hr) (q_pe_var (i := 2) rfl (Or.inr (Or.inl lk__law_due__law_factors)) nd__law_factors.1 nd__law_factors.2) (q_pe_var (i := 3) rfl (Or.inl lk__law_due__law_name_here) nd__law_name_here.1 nd__law_name_here.2) (q_pe_call G__law_add (hr.mono (by decide)) lk__law_due__law_add T.mg__law_add T.kp__law_add T.bn__law_add .nil pass0E (q_pa_cons (q_pe_dget2 (hu_of hr) (q_pe_var (i := 2) rfl (Or.inr (Or.inl lk__law_due__law_factors)) nd__law_factors.1 nd__law_factors.2) (q_pe_var (i := 3) rfl (Or.inl lk__law_due__law_name_here) nd__law_name_here.1 nd__law_name_here.2) (q_pe_tup (q_pa_cons q_pe_int (q_pa_cons q_pe_int q_pa_nil))) ⟨rfl, rfl, rfl, rfl⟩) (q_pa_cons (q_pe_var (i := 4) rfl (Or.inl lk__law_due__law_factor) nd__law_factor.1 nd__law_factor.2) q_pa_nil)) (hdb := nd__law_add.1)) rfl)))
      (q_pss_one (q_ps_ret (q_pe_tup (q_pa_cons (q_pe_var (i := 0) rfl (Or.inl lk__law_due__law_number_here) nd__law_number_here.1 nd__law_number_here.2) (q_pa_cons (q_pe_callTy call_tuple_of lk__law_due_tuple T.b_tuple bt_tuple (q_pa_cons (q_pe_comp rfl csc__law_due_0 (q_pi_list (q_pe_callB (call_sortedS rfl) lk__law_due_sorted T.b_sorted bt_sorted (q_pa_cons (q_pe_callTy (call_listD rfl) lk__law_due_list T.b_list bt_list (q_pa_cons (q_pe_var (i := 2) rfl (Or.inr (Or.inl lk__law_due__law_factors)) nd__law_factors.1 nd__law_factors.2) q_pa_nil) (hn := nn_list) (hdb := nd_list.1)) q_pa_nil) (hn := nn_sorted) (hdb := nd_sorted.1))) (fun _ _ _ _ _ => (q_pg_name (i := 5) csc__law_due_0.nd rfl (Or.inl (rel_local lc__law_due_0__law_name_here)) (Or.inr (rel_local lc__law_due_0__law_name_here)))) (fun _ _ _ _ _ => (q_pf_one (q_pt_cmpR (op_neDK (K := K) rfl hr.units) (q_pe_dget (hu_of hr) (q_pe_var (i := 2) rfl (rel_free lc__law_due_0__law_factors) nd__law_factors.1 nd__law_factors.2) (q_pe_var (i := 5) rfl (Or.inl (rel_local lc__law_due_0__law_name_here)) nd__law_name_here.1 nd__law_name_here.2) (fun _ _ => rfl)) (q_pe_tup (q_pa_cons q_pe_int (q_pa_cons q_pe_int q_pa_nil))) (nomark _)))) (fun _ _ _ _ _ => (q_pe_tup (q_pa_cons (q_pe_var (i := 5) rfl (Or.inl (rel_local lc__law_due_0__law_name_here)) nd__law_name_here.1 nd__law_name_here.2) (q_pa_cons (q_pe_dget (hu_of hr) (q_pe_var (i := 2) rfl (rel_free lc__law_due_0__law_factors) nd__law_factors.1 nd__law_factors.2) (q_pe_var (i := 5) rfl (Or.inl (rel_local lc__law_due_0__law_name_here)) nd__law_name_here.1 nd__law_name_here.2) (fun _ _ => rfl)) q_pa_nil))))) q_pa_nil) (hn := nn_tuple) (hdb := nd_tuple.1)) q_pa_nil))))))), ?_⟩
    walk_at "rd"
    intro d hd
    have s1 := Same.new (o := .dK []) hd
    have D0 : DAt (upd H d (.dK [])) d [] (tot []) := ⟨⟨[], upd_same, rfl, fun n hn => (by cases hn), fun n _ => rfl⟩, .nil⟩
    have md := upd_same (H := H) (a := d) (o := .dK [])
    generalize upd H d _ = H1 at s1 D0 md ⊢
    have pv1 := pv.same s1
    have hq1 : SqL K H1 lp vl ∨ SqT K H1 lp vl := hq.imp (fun q => q.keeps s1) (fun q => q.keeps s1)
    walk_at "rd"
    refine forB_seq hq1 (fun i σ H' => ∃ v3 v4 ks, σ = [some (.ref an), some (.ref lp), some (.ref d), v3, v4] ∧ SB d H1 H' ∧ DAt H' d ks (tot (ps.take i)) ∧ (∀ n, n ∈ ks ↔ ∃ p ∈ ps.take i, p.1 = n) ∧ ks.length ≤ i) ⟨_, _, [], rfl, SB.refl _ _, by simpa using D0, by simp, by simp⟩ ?_ ?_ ?_
    · rintro i σ H' ⟨v3, v4, ks, rfl, sb, _⟩
      exact ⟨fun q => q.sbD sb md, fun q => q.sbD sb md⟩
    · rintro i v σ H' hv ⟨v3, v4, ks, rfl, sb, DA, hk, hl⟩
      obtain ⟨p, hp, t, a1, rfl, q1, q2⟩ : ∃ p, ps[i]? = some p ∧ PairAt K H1 v p := Paired.at pv1 hv
      obtain ⟨n, x⟩ := p
      have q1 := q1.sbD sb md
      have q2 := q2.sbD sb md
      have hpm := List.mem_of_getElem? hp
      walk_at "rd"
      refine ⟨_, q1, rfl, _, _, rfl, _, _, rfl, rfl, ?_⟩
      obtain ⟨kvs, hdk, ek, hvs, hns⟩ := DA.ex
      refine ⟨.inl ⟨kvs, .inl hdk⟩, ?_⟩
      refine ⟨by decide, fun z0 hz0 => ?_⟩
      have sz := Same.new (o := .tup [V.int 0, V.int 1]) hz0
      have mz : SqT K (upd H' z0 (.tup [V.int 0, V.int 1])) z0 (numV (0, 1)) := SqT.of upd_same
      generalize upd H' z0 _ = HZ at sz mz ⊢
      replace q2 := q2.keeps sz
      replace sb := sb.trans (SB.of sz)
      replace DA := DA.same sz
      obtain ⟨kvs, hdk, ek, hvs, hns⟩ := DA.ex
      refine ⟨_, .inl ⟨kvs, Sum.inr n, .inl hdk, rfl, rfl⟩, ?_⟩
      have nx := nb _ hpm
      have nt : NB ((b + 1) * c + 1) (tot (ps.take i) n) := (tot_nb (fun p hp => nb p (List.mem_of_mem_take hp)) n).mono (by have := Nat.mul_le_mul_left (b + 1) (Nat.le_trans (cnt_take ps i n) (cn n)); omega)
      obtain ⟨b0, eb, qb⟩ : ∃ b0, (valV kvs (Sum.inr n)).getD (.ref z0) = .ref b0 ∧ SqT K HZ b0 (numV (tot (ps.take i) n)) := by
        by_cases c : n ∈ ks
        · obtain ⟨a, h1, h2⟩ := hvs n c
          exact ⟨a, by rw [h1]; rfl, SqT.of h2⟩
        · refine ⟨z0, by rw [hns n c]; rfl, ?_⟩
          rw [tot_out fun p hp z => c ((hk n).mpr ⟨p, hp, z⟩)]
          exact mz
      refine ⟨b0, a1, tot (ps.take i) n, x, max ((b + 1) * c + 1) b, by rw [eb], qb, q2, nt.mono (Nat.le_max_left _ _), nx.mono (Nat.le_max_right _ _), by omega, fun r hr' => ?_⟩
      have e1 : tot (ps.take (i + 1)) n = nAdd (tot (ps.take i) n) x := by rw [take_snoc hp, tot_snoc, if_pos rfl]
      have e2 : ∀ m, m ≠ n → tot (ps.take (i + 1)) m = tot (ps.take i) m := fun m hm => by rw [take_snoc hp, tot_snoc, if_neg (fun z => hm z.symm)]
      obtain ⟨kvs2, hk2, kl, DA2⟩ := DA.put hr' e1 e2
      have ls : 60 ≤ sizeLine := by rw [sizeLine_eq]; decide
      have li : i < ps.length := (List.getElem?_eq_some_iff.mp hp).1
      refine ⟨_, .inl ⟨kvs2, Sum.inr n, hk2, rfl, by omega, rfl⟩, ?_⟩
      refine ⟨(fun c o nc e => ?_), _, DA2, fun m => ?_, ?_⟩
      · rw [upd_ne nc, upd_ne (ne_of_none (sb c o nc e) hr')]
        exact (sb c o nc e)
      · rw [take_snoc hp]
        constructor
        · intro hm
          by_cases c : n ∈ ks
          · rw [if_pos c] at hm
            obtain ⟨p, h1, h2⟩ := (hk m).mp hm
            exact ⟨p, List.mem_append_left _ h1, h2⟩
          · rw [if_neg c] at hm
            rcases List.mem_append.mp hm with z | z
            · obtain ⟨p, h1, h2⟩ := (hk m).mp z
              exact ⟨p, List.mem_append_left _ h1, h2⟩
            · exact ⟨(n, x), by simp, (List.mem_singleton.mp z).symm⟩
        · rintro ⟨p, h1, h2⟩
          rcases List.mem_append.mp h1 with z | z
          · have := (hk m).mpr ⟨p, z, h2⟩
            split
            · exact this
            · exact List.mem_append_left _ this
          · rw [List.mem_singleton.mp z] at h2
            have h2 : n = m := h2
            subst h2
            split
            · assumption
            · simp
      · split
        · omega
        · rw [List.length_append]; simp; omega
    · rintro σ H' ⟨v3, v4, ks, rfl, sb, DA, hk, hl⟩
      have hvl : vl.length = ps.length := Paired.length pv1
      rw [hvl, List.take_length] at DA hk
      rw [hvl] at hl
      have sH : Same H H' := fun c o e => sb c o (ne_of_none e hd) (s1 c o e)
      obtain ⟨kvs, hdk, ek, hvs, hns⟩ := DA.ex
      walk_at "rd"
      have l64 : ks.length < 64 := by omega
      have hkv : ∀ (H2 : Hp) (n : Str), Same H' H2 → n ∈ ks → ∃ a0, DGet H2 d (.str n) (some (.ref a0)) ∧ SqT K H2 a0 (numV (tot ps n)) := fun H2 n s2 hn => by
        obtain ⟨a0, h1, h2⟩ := hvs n hn
        exact ⟨a0, .inl ⟨kvs, Sum.inr n, .inl (s2 _ _ hdk), rfl, h1.symm⟩, SqT.of (s2 _ _ h2)⟩
      refine ⟨d, kvs, ks, rfl, hdk, ek, fun lk hlk => ?_⟩
      have sk := Same.new (o := .lst (ks.map V.str)) hlk
      have mk := upd_same (H := H') (a := lk) (o := .lst (ks.map V.str))
      generalize upd H' lk _ = HK at sk mk ⊢
      refine ⟨lk, ks, rfl, .inl (SqL.of mk), l64, fun rr ss hrr pm srt => ?_⟩
      have pmk : ∀ n, n ∈ ss → n ∈ ks := fun n hn => pm.mem_iff.mp hn
      have sl := Same.new (o := .lst (ss.map V.str)) hrr
      have mr := upd_same (H := HK) (a := rr) (o := .lst (ss.map V.str))
      generalize upd HK rr _ = H3 at sl mr ⊢
      have s3 : Same H' H3 := sk.trans sl
      refine ⟨rr, rfl, ⟨_, SqL.of mr⟩, compB_list (xs := ss.map V.str) (fun j σ ys H4 => ∃ v5, σ = [some (.ref an), some (.ref lp), some (.ref d), v3, v4, v5] ∧ Same H3 H4 ∧ PairsAt K H4 ys (canonL ps (ss.take j))) ⟨_, rfl, Same.refl _, .nil⟩ ?_ ?_ ?_⟩
      · rintro j σ ys H4 ⟨v5, rfl, s4, py⟩
        refine ⟨?_, SqL.of (s4 _ _ mr)⟩
        have e1 : ys.length = (canonL ps (ss.take j)).length := Paired.length py
        have e2 : (canonL ps (ss.take j)).length ≤ ss.length := by
          unfold canonL
          rw [List.length_map]
          exact Nat.le_trans (List.length_filter_le _ _) (by rw [List.length_take]; omega)
        have e3 : ss.length = ks.length := pm.length_eq
        have ls : 64 ≤ sizeLine := by rw [sizeLine_eq]; decide
        omega
      · rintro j v σ ys H4 hv ⟨v5, rfl, s4, py⟩
        obtain ⟨n, hn, rfl⟩ : ∃ n, ss[j]? = some n ∧ v = .str n := by
          rw [List.getElem?_map] at hv
          cases e : ss[j]? with
          | none => rw [e] at hv; cases hv
          | some n => rw [e] at hv; exact ⟨n, rfl, (Option.some.inj hv).symm⟩
        have hnk := pmk n (List.mem_of_getElem? hn)
        obtain ⟨a0, g1, g2⟩ := hkv H4 n (s3.trans s4) hnk
        have ec : canonL ps (ss.take (j + 1)) = canonL ps (ss.take j) ++ (if nz ps n = true then [(n, tot ps n)] else []) := by
          unfold canonL
          rw [take_snoc hn, List.filter_append, List.map_append]
          by_cases c : nz ps n = true <;> simp [c]
        walk_at "rd"
        refine ⟨_, g1, ?_⟩
        refine ⟨by decide, fun z1 hz1 => ?_⟩
        have sz := Same.new (o := .tup [V.int 0, V.int 1]) hz1
        have mz : SqT K (upd H4 z1 (.tup [V.int 0, V.int 1])) z1 (numV (0, 1)) := SqT.of upd_same
        generalize upd H4 z1 _ = HZ at sz mz ⊢
        obtain ⟨a1, g1b, g2b⟩ := hkv HZ n ((s3.trans s4).trans sz) hnk
        refine ⟨_, _, den_num (g2.keeps sz), den_num (x := (0, 1)) mz, by simp [D.depth, D.depths], _, rfl, ?_⟩
        rw [eq_num]
        refine ite2b (fun c => ?_) (fun c => ?_)
        · refine ⟨_, g1b, (by decide), fun t ht => ⟨(s4.trans sz).trans (Same.new ht), ?_⟩⟩
          rw [ec, if_pos (show nz ps n = true from c)]
          exact Paired.snoc (PairsAt.same (PairsAt.same py sz) (Same.new ht)) ⟨t, a1, rfl, SqT.of upd_same, (g2b).keeps (Same.new ht)⟩
        · refine ⟨s4.trans sz, ?_⟩
          rw [ec, if_neg (show ¬ nz ps n = true from by unfold nz; rw [c]; decide), List.append_nil]
          exact (PairsAt.same py sz)
      · rintro σ ys H4 ⟨v5, rfl, s4, py⟩ r2 h2
        rw [List.length_map, List.take_length] at py
        refine ⟨r2, rfl, ys, .inl ⟨SqL.of upd_same, fun f hf => ⟨by decide, fun r3 h3 => ?_⟩⟩⟩
        have s5 := ((Same.new (o := .lst ys) h2).trans (Same.new (o := .tup ys) hf)).trans (Same.new (o := .tup [V.ref an, V.ref f]) h3)
        have cl : (canonL ps ss).length ≤ ps.length := by
          unfold canonL
          rw [List.length_map]
          have e1 := List.length_filter_le (nz ps) ss
          have e3 : ss.length = ks.length := pm.length_eq
          omega
        refine k r3 _ _ ((sH.trans s3).trans (s4.trans s5)) (canon_of srt pm DA.nd hk) cl ⟨r3, f, ys, rfl, SqT.of upd_same, SqT.of (Same.new h3 _ _ upd_same), PairsAt.same py s5⟩
theorem ok__law_is_sum (T : Txt K mg a) : FnOk P w K mg base (CXE P w) 4 a.f__law_is_sum a.d__law_is_sum ["_law_found", "_law_due_here"] (sp_issum K) := by
  have S := sc__law_is_sum
  have G__law_is := ok__law_is (P := P) (w := w) (base := base) T
  refine T.fun__law_is_sum.okQ S (fun vs H Q E h => ?_) (fun cdv A outer s H vs Q E hr h => ?_)
  · obtain ⟨v1, v2, n1, n2, x, L, rfl, ⟨r1, f1, us1, rfl, h1, g1, p1⟩, ⟨r2, f2, us2, rfl, h2, g2, p2⟩, q1, q2, k⟩ := h; rfl
  · obtain ⟨v1, v2, n1, n2, x, L, rfl, ⟨r1, f1, us1, rfl, h1, g1, p1⟩, ⟨r2, f2, us2, rfl, h2, g2, p2⟩, q1, q2, k⟩ := h
    refine ⟨_, (q_pss_cons (q_ps_if (q_pwpt (q_pw_or (q_pt_not (q_pt_val (q_pe_callB (call_isiK (K := K) rfl) lk__law_is_sum_isinstance T.b_isinstance bt_isinstance (q_pa_cons (q_pe_var (i := 0) rfl (Or.inl lk__law_is_sum__law_found) nd__law_found.1 nd__law_found.2) (q_pa_cons (q_pe_bltn lk__law_is_sum_tuple T.b_tuple bt_tuple (v := .ty "tuple") rfl (hd := nd_tuple.1) (hn := nn_tuple)) q_pa_nil)) (hn := nn_isinstance) (hdb := nd_isinstance.1)))) (q_pw_or (q_pt_cmp (q_pc_neI (q_pe_callB call_len_seq lk__law_is_sum_len T.b_len bt_len (q_pa_cons (q_pe_var (i := 0) rfl (Or.inl lk__law_is_sum__law_found) nd__law_found.1 nd__law_found.2) q_pa_nil) (hn := nn_len) (hdb := nd_len.1)) q_pe_int)) (q_pw_or1 (q_pt_not (q_pt_val (q_pe_callB (call_isiK (K := K) rfl) lk__law_is_sum_isinstance T.b_isinstance bt_isinstance (q_pa_cons (q_pe_ix ix_d (q_pe_var (i := 0) rfl (Or.inl lk__law_is_sum__law_found) nd__law_found.1 nd__law_found.2) q_pe_int (fun _ _ => rfl)) (q_pa_cons (q_pe_bltn lk__law_is_sum_tuple T.b_tuple bt_tuple (v := .ty "tuple") rfl (hd := nd_tuple.1) (hn := nn_tuple)) q_pa_nil)) (hn := nn_isinstance) (hdb := nd_isinstance.1)))))))) (q_pss_one (q_ps_ret q_pe_bl)) q_pss_nil)
      (q_pss_cons (q_ps_if (q_pwpt (q_pw_or (q_pt_not (q_pt_val (q_pe_call G__law_is (hr.mono (by decide)) lk__law_is_sum__law_is T.mg__law_is T.kp__law_is T.bn__law_is .nil pass0E (q_pa_cons (q_pe_ix ix_d (q_pe_var (i := 0) rfl (Or.inl lk__law_is_sum__law_found) nd__law_found.1 nd__law_found.2) q_pe_int (fun _ _ => rfl)) (q_pa_cons (q_pe_ix ix_d (q_pe_var (i := 1) rfl (Or.inl lk__law_is_sum__law_due_here) nd__law_due_here.1 nd__law_due_here.2) q_pe_int (fun _ _ => rfl)) q_pa_nil)) (hdb := nd__law_is.1)))) (q_pw_or1 (q_pt_cmp (q_pc_neI (q_pe_callB call_len_seq lk__law_is_sum_len T.b_len bt_len (q_pa_cons (q_pe_ix ix_d (q_pe_var (i := 0) rfl (Or.inl lk__law_is_sum__law_found) nd__law_found.1 nd__law_found.2) q_pe_int (fun _ _ => rfl)) q_pa_nil) (hn := nn_len) (hdb := nd_len.1)) (q_pe_callB call_len_seq lk__law_is_sum_len T.b_len bt_len (q_pa_cons (q_pe_ix ix_d (q_pe_var (i := 1) rfl (Or.inl lk__law_is_sum__law_due_here) nd__law_due_here.1 nd__law_due_here.2) q_pe_int (fun _ _ => rfl)) q_pa_nil) (hn := nn_len) (hdb := nd_len.1))))))) (q_pss_one (q_ps_ret q_pe_bl)) q_pss_nil)
      (q_pss_cons (q_ps_for PassesOwn.leaving rfl (q_pi_zip lk__law_is_sum_zip T.b_zip (q_pa_cons (q_pe_ix ix_d (q_pe_var (i := 0) rfl (Or.inl lk__law_is_sum__law_found) nd__law_found.1 nd__law_found.2) q_pe_int (fun _ _ => rfl)) (q_pa_cons (q_pe_ix ix_d (q_pe_var (i := 1) rfl (Or.inl lk__law_is_sum__law_due_here) nd__law_due_here.1 nd__law_due_here.2) q_pe_int (fun _ _ => rfl)) q_pa_nil))) (q_pg_tup (n := 2) rfl (q_pgs_cons (q_pg_name (i := 2) S.nd rfl (Or.inl lk__law_is_sum__law_one)) (q_pgs_cons (q_pg_name (i := 3) S.nd rfl (Or.inl lk__law_is_sum__law_other)) q_pgs_nil))) (q_pss_cons (q_ps_if (q_pwpt (q_pw_or (q_pt_not (q_pt_val (q_pe_callB (call_isiK (K := K) rfl) lk__law_is_sum_isinstance T.b_isinstance bt_isinstance (q_pa_cons (q_pe_var (i := 2) rfl (Or.inl lk__law_is_sum__law_one) nd__law_one.1 nd__law_one.2) (q_pa_cons (q_pe_bltn lk__law_is_sum_tuple T.b_tuple bt_tuple (v := .ty "tuple") rfl (hd := nd_tuple.1) (hn := nn_tuple)) q_pa_nil)) (hn := nn_isinstance) (hdb := nd_isinstance.1)))) (q_pw_or (q_pt_cmp (q_pc_neI (q_pe_callB call_len_seq lk__law_is_sum_len T.b_len bt_len (q_pa_cons (q_pe_var (i := 2) rfl (Or.inl lk__law_is_sum__law_one) nd__law_one.1 nd__law_one.2) q_pa_nil) (hn := nn_len) (hdb := nd_len.1)) q_pe_int)) (q_pw_or1 (q_pt_not (q_pt_val (q_pe_callB (call_isiK (K := K) rfl) lk__law_is_sum_isinstance T.b_isinstance bt_isinstance (q_pa_cons (q_pe_ix ix_d (q_pe_var (i := 2) rfl (Or.inl lk__law_is_sum__law_one) nd__law_one.1 nd__law_one.2) q_pe_int (fun _ _ => rfl)) (q_pa_cons (q_pe_bltn lk__law_is_sum_str T.b_str bt_str (v := .ty "str") rfl (hd := nd_str.1) (hn := nn_str)) q_pa_nil)) (hn := nn_isinstance) (hdb := nd_isinstance.1)))))))) (q_pss_one (q_ps_ret q_pe_bl)) q_pss_nil)
      (q_pss_one (q_ps_if (q_pwpt (q_pw_or (q_pt_cmpR op_ne (q_pe_ix ix_d (q_pe_var (i := 2) rfl (Or.inl lk__law_is_sum__law_one) nd__law_one.1 nd__law_one.2) q_pe_int (fun _ _ => rfl)) (q_pe_ix ix_d (q_pe_var (i := 3) rfl (Or.inl lk__law_is_sum__law_other) nd__law_other.1 nd__law_other.2) q_pe_int (fun _ _ => rfl)) (nomark _)) (q_pw_or1 (q_pt_not (q_pt_val (q_pe_call G__law_is (hr.mono (by decide)) lk__law_is_sum__law_is T.mg__law_is T.kp__law_is T.bn__law_is .nil pass0E (q_pa_cons (q_pe_ix ix_d (q_pe_var (i := 2) rfl (Or.inl lk__law_is_sum__law_one) nd__law_one.1 nd__law_one.2) q_pe_int (fun _ _ => rfl)) (q_pa_cons (q_pe_ix ix_d (q_pe_var (i := 3) rfl (Or.inl lk__law_is_sum__law_other) nd__law_other.1 nd__law_other.2) q_pe_int (fun _ _ => rfl)) q_pa_nil)) (hdb := nd__law_is.1))))))) (q_pss_one (q_ps_ret q_pe_bl)) q_pss_nil))))
      (q_pss_one (q_ps_ret q_pe_bl))))), ?_⟩
    walk_at "rd"
    refine ⟨.type "tuple", .tup h1, rfl, true, kit_tup K, ?_⟩
    rw [if_neg (by decide)]
    refine ⟨_, .inr h1, ?_⟩
    rw [if_neg (fun z => z rfl)]
    refine ixd_t h1 rfl ⟨.type "tuple", .tup g1, rfl, true, kit_tup K, ?_⟩
    rw [if_neg (by decide)]
    walk_at "rd"
    refine ixd_t h1 rfl (ixd_t h2 rfl ⟨n1, n2, x, x, rfl, q1, q2, _, rfl, ?_⟩)
    rw [decide_eq_true rfl, if_neg (by decide)]
    have l1 : us1.length = L.length := Paired.length p1
    have l2 : us2.length = L.length := Paired.length p2
    refine ixd_t h1 rfl ⟨f1, rfl, _, .inr g1, ixd_t h2 rfl ⟨f2, rfl, _, .inr g2, ?_⟩⟩
    rw [if_neg (fun z => z (by rw [l1, l2]))]
    walk_at "rd"
    refine ixd_t h1 rfl (ixd_t h2 rfl ?_)
    refine ⟨f1, rfl, f2, rfl, us1, g1, us2, g2, forB_zip (xs := us1) (ys := us2) (fun i σ H' => ∃ w2 w3, σ = [some (.ref r1), some (.ref r2), w2, w3] ∧ Same H H') ⟨_, _, rfl, Same.refl _⟩ (l1.trans l2.symm) ?_ ?_ ?_⟩
    · rintro i σ H' ⟨w2, w3, rfl, s⟩
      exact ⟨g1.keeps s, g2.keeps s⟩
    · rintro i u v t σ H' hu hv ht ⟨w2, w3, rfl, s⟩
      obtain ⟨p, hp, t1, a1, rfl, m1, m2⟩ : ∃ p, L[i]? = some p ∧ PairAt K H u p := Paired.at p1 hu
      obtain ⟨p', hp', t2, a2, rfl, m3, m4⟩ : ∃ p, L[i]? = some p ∧ PairAt K H v p := Paired.at p2 hv
      rw [hp] at hp'
      cases hp'
      have st := s.trans (Same.new (o := .tup [V.ref t1, V.ref t2]) ht)
      have mt : SqT K (upd H' t (.tup [V.ref t1, V.ref t2])) t [V.ref t1, V.ref t2] := SqT.of upd_same
      generalize upd H' t _ = H2 at st mt ⊢
      replace m1 := m1.keeps st
      replace m2 := m2.keeps st
      replace m3 := m3.keeps st
      replace m4 := m4.keeps st
      walk_at "rd"
      refine ⟨_, mt, rfl, _, _, rfl, _, _, rfl, rfl, ?_⟩
      refine ⟨.type "tuple", .tup m1, rfl, true, kit_tup K, ?_⟩
      rw [if_neg (by decide)]
      refine ⟨t1, rfl, _, .inr m1, ?_⟩
      rw [if_neg (fun z => z rfl)]
      refine ixd_t m1 rfl ⟨.type "str", .of (.str _), rfl, true, kit_str K, ?_⟩
      rw [if_neg (by decide)]
      walk_at "rd"
      refine ixd_t m1 rfl (ixd_t m3 rfl ⟨rfl, false, congrArg V.bl (by rw [decide_eq_true rfl]; rfl), ?_⟩)
      rw [if_neg (by decide)]
      refine ixd_t m1 rfl (ixd_t m3 rfl ⟨a1, a2, p.2, p.2, rfl, m2, m4, _, rfl, ?_⟩)
      rw [decide_eq_true rfl, if_neg (by decide)]
      exact st
    · rintro σ H' ⟨w2, w3, rfl, s⟩
      walk_at "rd"
      exact k _ s
theorem ok__law_name (T : Txt K mg a) : FnOk P w K mg base (CXE P w) 3 a.f__law_name a.d__law_name ["_law_well_here", "_law_most"] sp_name := by
  have S := sc__law_name
  have G__law_take := ok__law_take (P := P) (w := w) (base := base) T
  refine T.fun__law_name.okQ S (fun vs H Q E h => ?_) (fun cdv A outer s H vs Q E hr h => ?_)
  · obtain ⟨p, m, n, rfl, wa, hn, m0, m1, q⟩ := h; rfl
  · obtain ⟨p, m, n, rfl, wa, hn, m0, m1, q⟩ := h
    refine ⟨_, (q_pss_cons (q_ps_set (i := 2) S.nd rfl (Or.inr lk__law_name__law_signs) q_pe_str)
      (q_pss_cons (q_ps_set (i := 3) S.nd rfl (Or.inl lk__law_name__law_size) (q_pe_op op_add q_pe_int (q_pe_call G__law_take (hr.mono (by decide)) lk__law_name__law_take T.mg__law_take T.kp__law_take T.bn__law_take .nil pass0E (q_pa_cons (q_pe_var (i := 0) rfl (Or.inr (Or.inl lk__law_name__law_well_here)) nd__law_well_here.1 nd__law_well_here.2) (q_pa_cons (q_pe_ix ix_d (q_pe_lst (q_pa_cons q_pe_int (q_pa_cons (q_pe_var (i := 1) rfl (Or.inl lk__law_name__law_most) nd__law_most.1 nd__law_most.2) q_pa_nil))) (q_pe_callTy call_int1 lk__law_name_int T.b_int bt_int (q_pa_cons (q_pe_cmp (q_pc_eqI (q_pe_call G__law_take (hr.mono (by decide)) lk__law_name__law_take T.mg__law_take T.kp__law_take T.bn__law_take .nil pass0E (q_pa_cons (q_pe_var (i := 0) rfl (Or.inr (Or.inl lk__law_name__law_well_here)) nd__law_well_here.1 nd__law_well_here.2) (q_pa_cons q_pe_int q_pa_nil)) (hdb := nd__law_take.1)) q_pe_int)) q_pa_nil) (hn := nn_int) (hdb := nd_int.1)) (fun _ _ => rfl)) q_pa_nil)) (hdb := nd__law_take.1))))
      (q_pss_one (q_ps_ret (q_pe_bm PySem.F.plainAttrs_str PySem.F.slot_str_join PySem.F.type_str_join mt_join q_pe_str (q_pa_cons (q_pe_comp rfl csc__law_name_0 (q_pi_range1 lk__law_name_range T.b_range (q_pa_cons (q_pe_var (i := 3) rfl (Or.inl lk__law_name__law_size) nd__law_size.1 nd__law_size.2) q_pa_nil)) (fun _ _ _ _ _ => (q_pg_name (i := 4) csc__law_name_0.nd rfl (Or.inl (rel_local lc__law_name_0__law_k)) (Or.inr (rel_local lc__law_name_0__law_k)))) (fun _ _ _ _ _ => q_pf_nil) (fun _ _ _ _ _ => (q_pe_ix ix_str (q_pe_var (i := 2) rfl (rel_free lc__law_name_0__law_signs) nd__law_signs.1 nd__law_signs.2) (q_pe_call G__law_take (hr.mono (by decide)) (rel_glob lc__law_name_0__law_take) T.mg__law_take T.kp__law_take T.bn__law_take .nil pass0E (q_pa_cons (q_pe_var (i := 0) rfl (rel_free lc__law_name_0__law_well_here) nd__law_well_here.1 nd__law_well_here.2) (q_pa_cons q_pe_int q_pa_nil)) (hdb := nd__law_take.1)) (fun _ _ => rfl)))) q_pa_nil)))))), ?_⟩
    walk_at "rd"
    walk_at "rd"
    refine ⟨by decide, fun l hl => ?_⟩
    have w0 := wa.same (Same.new (o := .lst [V.int 4, V.int m]) hl)
    have sb0 : SB p H (upd H l (.lst [V.int 4, V.int m])) := SB.new hl
    have ml := upd_same (H := H) (a := l) (o := .lst [V.int 4, V.int m])
    have nl : l ≠ p := by
      obtain ⟨_, _, _, f, _⟩ := wa
      exact (ne_of_none f hl).symm
    generalize upd H l _ = H1 at w0 sb0 ml ⊢
    refine ⟨p, 6, n, rfl, w0, by omega, by decide, by decide, fun r1 H2 a1 b1 w1 s1 => ⟨r1, rfl, .inr ?_⟩⟩
    refine ixd_m (s1 _ _ nl ml) (by split <;> decide) (by show _ < (2 : Int); split <;> decide) fun v hv => ?_
    obtain ⟨t, rfl, t1, t2⟩ : ∃ t : Int, v = .int t ∧ 0 < t ∧ t ≤ 100 := by
      simp only [List.mem_cons, List.not_mem_nil, or_false] at hv
      rcases hv with rfl | rfl
      · exact ⟨_, rfl, by decide, by decide⟩
      · exact ⟨_, rfl, m0, m1⟩
    refine ⟨p, t, _, rfl, w1, by omega, t1, by omega, fun r2 H3 a2 b2 w2 s2 => ⟨r2, rfl, ?_⟩⟩
    have sb3 := (sb0.trans s1).trans s2
    walk_at "rd"
    refine ⟨rfl, by omega, by omega, compB_range (fun j σ ys H' => ∃ v4 ss, σ = [some (.ref p), some (.int m), some (.str (Str.ofString "abcdefghijklmnopqrstuvwxyz0123456789.")), some (.int (1 + r2)), v4] ∧ ys = ss.map V.str ∧ lens ss = j ∧ ss.length = j ∧ j ≤ 101 ∧ WA H' p (n + 2 + j) ∧ SB p H H') ⟨_, [], rfl, rfl, rfl, rfl, by decide, w2.mono (by omega), sb3⟩ ?_ ?_ ?_⟩
    · rintro j σ ys H' ⟨v4, ss, rfl, rfl, _, e, le, _⟩
      rw [List.length_map]
      have := line200
      omega
    · rintro j σ ys H' hj ⟨v4, ss, rfl, rfl, e1, e2, le, wa', sb'⟩
      walk_at "rd"
      refine ⟨p, 37, _, rfl, wa', by omega, by decide, by decide, fun r3 H4 a3 b3 w3 s3 => ?_⟩
      obtain ⟨ch, hc⟩ := at_str (z := Str.ofString "abcdefghijklmnopqrstuvwxyz0123456789.") a3 b3
      refine ⟨_, _, ch, rfl, rfl, (by decide), hc, ?_⟩
      refine ⟨ss ++ [⟨#[ch]⟩], by rw [List.map_append]; rfl, ?_, by rw [List.length_append, e2]; rfl, by omega, w3.mono (by omega), sb'.trans s3⟩
      unfold lens at *
      rw [List.map_append, List.sum_append, e1]
      rfl
    · rintro σ ys H' ⟨v4, ss, rfl, rfl, e1, e2, le, wa', sb'⟩ r hr
      refine ⟨r, ss, rfl, rfl, SqL.of upd_same, by omega, fun z hz => ?_⟩
      exact q z _ (by omega) (sb'.trans (SB.new hr)) ((wa'.same (Same.new hr)).mono (by omega))
theorem ok__law_names (T : Txt K mg a) : FnOk P w K mg base (CXE P w) 4 a.f__law_names a.d__law_names ["_law_well_here", "_law_many"] sp_names := by
  have S := sc__law_names
  have G__law_name := ok__law_name (P := P) (w := w) (base := base) T
  have G__law_take := ok__law_take (P := P) (w := w) (base := base) T
  refine T.fun__law_names.okQ S (fun vs H Q E h => ?_) (fun cdv A outer s H vs Q E hr h => ?_)
  · obtain ⟨p, m, n, rfl, wa, hn, m0, m1, q⟩ := h; rfl
  · obtain ⟨p, m, n, rfl, wa, hn, m0, m1, q⟩ := h
    refine ⟨_, (q_pss_cons (q_ps_set (i := 2) S.nd rfl (Or.inl lk__law_names__law_names_here) (q_pe_lst (q_pa_cons (q_pe_call G__law_name (hr.mono (by decide)) lk__law_names__law_name T.mg__law_name T.kp__law_name T.bn__law_name .nil pass0E (q_pa_cons (q_pe_var (i := 0) rfl (Or.inl lk__law_names__law_well_here) nd__law_well_here.1 nd__law_well_here.2) (q_pa_cons q_pe_int q_pa_nil)) (hdb := nd__law_name.1)) q_pa_nil)))
      (q_pss_cons (q_ps_while PassesOwn.leaving (q_pt_cmp (q_pc_lt (q_pe_callB call_len_seq lk__law_names_len T.b_len bt_len (q_pa_cons (q_pe_var (i := 2) rfl (Or.inl lk__law_names__law_names_here) nd__law_names_here.1 nd__law_names_here.2) q_pa_nil) (hn := nn_len) (hdb := nd_len.1)) (q_pe_var (i := 1) rfl (Or.inl lk__law_names__law_many) nd__law_many.1 nd__law_many.2))) (q_pss_cons (q_ps_set (i := 3) S.nd rfl (Or.inl lk__law_names__law_name_here) (q_pe_call G__law_name (hr.mono (by decide)) lk__law_names__law_name T.mg__law_name T.kp__law_name T.bn__law_name .nil pass0E (q_pa_cons (q_pe_var (i := 0) rfl (Or.inl lk__law_names__law_well_here) nd__law_well_here.1 nd__law_well_here.2) (q_pa_cons q_pe_int q_pa_nil)) (hdb := nd__law_name.1)))
      (q_pss_cons (q_ps_if (q_pt_cmp (q_pc_eqI (q_pe_call G__law_take (hr.mono (by decide)) lk__law_names__law_take T.mg__law_take T.kp__law_take T.bn__law_take .nil pass0E (q_pa_cons (q_pe_var (i := 0) rfl (Or.inl lk__law_names__law_well_here) nd__law_well_here.1 nd__law_well_here.2) (q_pa_cons q_pe_int q_pa_nil)) (hdb := nd__law_take.1)) q_pe_int)) (q_pss_one (q_ps_set (i := 3) S.nd rfl (Or.inl lk__law_names__law_name_here) (q_pe_slice sl_str (q_pe_op op_add_str (q_pe_ix ix_d (q_pe_var (i := 2) rfl (Or.inl lk__law_names__law_names_here) nd__law_names_here.1 nd__law_names_here.2) (q_pe_un un_neg q_pe_int) (fun _ _ => rfl)) (q_pe_ix ix_str q_pe_str (q_pe_call G__law_take (hr.mono (by decide)) lk__law_names__law_take T.mg__law_take T.kp__law_take T.bn__law_take .nil pass0E (q_pa_cons (q_pe_var (i := 0) rfl (Or.inl lk__law_names__law_well_here) nd__law_well_here.1 nd__law_well_here.2) (q_pa_cons q_pe_int q_pa_nil)) (hdb := nd__law_take.1)) (fun _ _ => rfl))) po_none (po_some (QE.to q_pe_int))))) q_pss_nil)
      (q_pss_cons (q_ps_set (i := 4) S.nd rfl (Or.inl lk__law_names__law_turn) q_pe_int)
      (q_pss_cons (q_ps_while PassesOwn.leaving (q_pt_cmpR op_in_seq (q_pe_var (i := 3) rfl (Or.inl lk__law_names__law_name_here) nd__law_name_here.1 nd__law_name_here.2) (q_pe_var (i := 2) rfl (Or.inl lk__law_names__law_names_here) nd__law_names_here.1 nd__law_names_here.2) (by with_unfolding_all rfl)) (q_pss_cons (q_ps_set (i := 3) S.nd rfl (Or.inl lk__law_names__law_name_here) (q_pe_op op_add_str (q_pe_op op_add_str (q_pe_slice sl_str (q_pe_var (i := 3) rfl (Or.inl lk__law_names__law_name_here) nd__law_name_here.1 nd__law_name_here.2) po_none (po_some (QE.to q_pe_int))) (q_pe_ix ix_str q_pe_str (q_pe_op op_modN (q_pe_var (i := 4) rfl (Or.inl lk__law_names__law_turn) nd__law_turn.1 nd__law_turn.2) q_pe_int) (fun _ _ => rfl))) (q_pe_ix ix_str q_pe_str (q_pe_op op_modN (q_pe_op op_fdivB (q_pe_var (i := 4) rfl (Or.inl lk__law_names__law_turn) nd__law_turn.1 nd__law_turn.2) q_pe_int) q_pe_int) (fun _ _ => rfl))))
      (q_pss_one (q_ps_set (i := 4) S.nd rfl (Or.inl lk__law_names__law_turn) (q_pe_op op_add (q_pe_var (i := 4) rfl (Or.inl lk__law_names__law_turn) nd__law_turn.1 nd__law_turn.2) q_pe_int)))))
      (q_pss_one (q_ps_expr (q_pe_bm PySem.F.plainAttrs_list PySem.F.slot_list_append PySem.F.type_list_append mt_append (q_pe_var (i := 2) rfl (Or.inl lk__law_names__law_names_here) nd__law_names_here.1 nd__law_names_here.2) (q_pa_cons (q_pe_var (i := 3) rfl (Or.inl lk__law_names__law_name_here) nd__law_name_here.1 nd__law_name_here.2) q_pa_nil)))))))))
      (q_pss_one (q_ps_ret (q_pe_var (i := 2) rfl (Or.inl lk__law_names__law_names_here) nd__law_names_here.1 nd__law_names_here.2))))), ?_⟩
    have l9 : 9000 ≤ sizeLine := by rw [sizeLine_eq]; decide
    walk_at "rd"
    refine ⟨p, 20, n, rfl, wa, by omega, by decide, by decide, fun z0 H1 hz0 sb1 wa1 => ⟨by decide, fun l hl => ?_⟩⟩
    have hlH : H l = none := by
      cases e : H l with
      | none => rfl
      | some o =>
        by_cases c : l = p
        · obtain ⟨_, _, _, f, _⟩ := wa1
          rw [c, f] at hl; cases hl
        · rw [sb1 l o c e] at hl; cases hl
    have nl : l ≠ p := by
      obtain ⟨_, _, _, f, _⟩ := wa1
      exact (ne_of_none f hl).symm
    have sb2 : SB p H (upd H1 l (.lst [V.str z0])) := sb1.trans (SB.new hl)
    have wa2 := wa1.same (Same.new (o := .lst [V.str z0]) hl)
    have ml := upd_same (H := H1) (a := l) (o := .lst [V.str z0])
    generalize upd H1 l _ = H2 at sb2 wa2 ml ⊢
    clear sb1 wa1 hl
    refine while_w (fun mm σ H' => ∃ v3 v4 ss, σ = [some (.ref p), some (.int m), some (.ref l), v3, v4] ∧ H' l = some (.lst (ss.map V.str)) ∧ 1 ≤ ss.length ∧ ss.length ≤ 8 ∧ mm = 8 - ss.length ∧ (∀ z ∈ ss, z.length ≤ 300 * ss.length) ∧ SB p H H' ∧ WA H' p (n + 250 * ss.length)) 7
      ⟨_, _, [z0], rfl, ml, by simp, by simp, rfl, fun z hz => by rw [List.mem_singleton.mp hz]; simp; omega, sb2, wa2.mono (by simp)⟩ ?_
    rintro mm σ H' ⟨v3, v4, ss, rfl, ml', l1, l2, rfl, lz, sb', wa'⟩
    walk_at "rd"
    refine ⟨_, .inl (SqL.of ml'), ?_⟩
    rw [List.length_map]
    refine ite2 (fun c => ?_) (fun c => ?_)
    · refine ⟨_, fun σ' H'' z => z, ?_⟩
      refine ⟨p, 20, _, rfl, wa', by omega, by decide, by decide, fun z1 H3 hz1 sb3 wa3 => ?_⟩
      have ml3 := sb3 _ _ nl ml'
      walk_at "rd"
      refine ⟨p, 3, _, rfl, wa3, by omega, by decide, by decide, fun r1 H4 a1 b1 wa4 sb4 => ⟨r1, rfl, ?_⟩⟩
      have ml4 := sb4 _ _ nl ml3
      have sbH4 := (sb'.trans sb3).trans sb4
      refine join2 (fun v => [some (.ref p), some (.int m), some (.ref l), some v, v4]) (fun v H5 => ∃ z, v = .str z ∧ z.length ≤ 300 * ss.length + 250 ∧ H5 l = some (.lst (ss.map V.str)) ∧ SB p H H5 ∧ WA H5 p (n + 250 * ss.length + 210)) (fun v H5 hP => ?_) (fun _ k2 => ?_) (fun _ => ⟨z1, rfl, by omega, ml4, sbH4, wa4.mono (by omega)⟩)
      · obtain ⟨z, rfl, hz, ml5, sb5, wa5⟩ := hP
        walk_at "rd"
        refine while_w (fun mm σ H6 => ∃ (z : Str) (t : Nat), σ = [some (.ref p), some (.int m), some (.ref l), some (.str z), some (.int t)] ∧ H6 = H5 ∧ z.length ≤ 300 * ss.length + 250 + 2 * t ∧ mm = (if t = 0 then ss.length + 1 else mu ss t) ∧ t + mm ≤ ss.length + 1 ∧ (0 < t → sec z = some (47 + t))) (ss.length + 1)
          ⟨z, 0, rfl, rfl, by omega, rfl, by omega, fun h => absurd h (by decide)⟩ ?_
        rintro mm σ H6 ⟨z, t, rfl, rfl, hz, hm, ht, hs⟩
        walk_at "rd"
        refine ⟨l, _, rfl, .inl (SqL.of ml5), rfl, flat_strs ss, decide (z ∈ ss), congrArg V.bl (inV_str z ss), ?_⟩
        refine ite2b (fun c6 => ?_) (fun c6 => ?_)
        · have c6 : z ∈ ss := of_decide_eq_true c6
          have t8 : t ≤ 8 := by
            by_cases t0 : t = 0
            · omega
            · rw [if_neg t0] at hm
              have := mu_step c6 (hs (by omega))
              omega
          refine ⟨_, fun σ' H7 z => z, ?_⟩
          have e1 : (t : Int).fmod 10 = t := by rw [Int.fmod_eq_emod_of_nonneg _ (by decide)]; omega
          have e2 : ((t : Int).fdiv 10).fmod 10 = 0 := by rw [Int.fdiv_eq_ediv_of_nonneg _ (by decide), Int.fmod_eq_emod_of_nonneg _ (by decide)]; omega
          refine ⟨z, rfl, by omega, ?_⟩
          have sl := Txt.slice_le z none (some 18)
          refine ⟨by decide, ⟨_, _, 48 + t, rfl, rfl, by decide, by rw [e1]; exact dig t (by omega), ?_⟩⟩
          refine ⟨_, rfl, _, rfl, ?_, ?_⟩
          · show _ + 1 ≤ _
            omega
          refine ⟨cdv1 (by decide) (by decide), by decide, ⟨_, _, 97, rfl, rfl, by decide, by rw [e2]; exact let0, ?_⟩⟩
          refine ⟨_, rfl, ?_, ?_⟩
          · rw [app_len]
            show _ + 1 + 1 ≤ _
            omega
          have lt : (if t + 1 = 0 then ss.length + 1 else mu ss (t + 1)) < mm ∧ t + 1 + (if t + 1 = 0 then ss.length + 1 else mu ss (t + 1)) ≤ ss.length + 1 := by
            rw [if_neg (by omega)]
            by_cases t0 : t = 0
            · rw [if_pos t0] at hm
              have := mu_le ss (t + 1)
              omega
            · rw [if_neg t0] at hm
              have := mu_step c6 (hs (by omega))
              omega
          refine ⟨.int t, rfl, t, 1, rfl, rfl, _, lt.1, _, t + 1, rfl, rfl, ?_, rfl, lt.2, fun _ => ?_⟩
          · rw [app_len, app_len]
            show _ + 1 + 1 ≤ _
            omega
          · rw [sec_app]
            congr 1
            omega
        · refine ⟨.inl ⟨rfl, _, SqL.of ml5⟩, l, ss.map V.str, _, rfl, rfl, ml5, by rw [List.length_map]; omega, ?_⟩
          have e : (ss.map V.str) ++ [V.str z] = (ss ++ [z]).map V.str := by rw [List.map_append]; rfl
          have hl8 : (ss ++ [z]).length = ss.length + 1 := by rw [List.length_append]; rfl
          have hz' : z.length ≤ 300 * ss.length + 250 + 2 * 9 := by omega
          refine ⟨8 - (ss ++ [z]).length, by omega, ss ++ [z], by rw [upd_same, e], by omega, by omega, rfl, fun y hy => ?_, fun c o nc h => ?_, ?_⟩
          · rcases List.mem_append.mp hy with h | h
            · have := lz y h
              omega
            · rw [List.mem_singleton.mp h]
              omega
          · rw [upd_ne (ne_of_none h hlH)]
            exact sb5 c o nc h
          · obtain ⟨f1, f2, f3, f4, f5, f6⟩ := wa5
            exact ⟨f1, f2, f3, by rw [upd_ne (Ne.symm nl)]; exact f4, f5, by omega⟩
      · obtain ⟨zl, hzl, hzm⟩ : ∃ zl, atI (ss.map V.str) (-1) = some (V.str zl) ∧ zl ∈ ss := by
          have hne : ss.length - 1 < ss.length := by omega
          refine ⟨ss[ss.length - 1], ?_, List.getElem_mem hne⟩
          unfold atI ixN
          rw [if_neg (by decide), List.length_map, if_pos (by omega)]
          show (ss.map V.str)[((-1 : Int) + (ss.length : Int)).toNat]? = _
          rw [show ((-1 : Int) + (ss.length : Int)).toNat = ss.length - 1 by omega, List.getElem?_map, List.getElem?_eq_getElem hne]
          rfl
        have hll := lz zl hzm
        refine ixd_l ml4 hzl ?_
        refine ⟨p, 4, _, rfl, wa4, by omega, by decide, by decide, fun r3 H6 a3 b3 wa6 sb6 => ?_⟩
        obtain ⟨ch, hc⟩ := at_str (z := Str.ofString "a0.z") a3 b3
        refine ⟨_, _, ch, rfl, rfl, by decide, hc, ?_⟩
        refine ⟨_, rfl, _, rfl, ?_, ?_⟩
        · show zl.length + 1 ≤ _
          omega
        have hap : (zl ++ (⟨#[ch]⟩ : Str)).length = zl.length + 1 := app_len _ _
        refine ⟨_, rfl, by omega, k2 _ _ ⟨_, rfl, ?_, sb6 _ _ nl ml4, sbH4.trans sb6, wa6.mono (by omega)⟩⟩
        have := Txt.slice_le (zl ++ (⟨#[ch]⟩ : Str)) none (some 20)
        omega
    · have hq := q l H' ss hlH ml' l1 l2 sb' (wa'.mono (by omega))
      first | exact hq | (walk_at "rd"; exact hq)
end
end W

set_option Elab.async false
set_option linter.all false
set_option maxRecDepth 100000
set_option maxHeartbeats 4000000
local macro_rules | `(tactic| walk_at "rd") => `(tactic| ((try simp only [L2.later_iff]); simp only [L2.x_iseq, L2.x_izip, L2.x_dget, L2.x_dget2, L2.x_dput, L2.x_comp, L2.x_true, L2.x_glst, L2.x_rev, L2.x_bm, L2.x_bm0, L2.x_sl, L2.x_nop, L2.x_part, L2.cxOf_K, L2.x_seq, L2.x_ret, L2.x_retN, L2.x_next, L2.x_break, L2.x_cont, L2.x_asg, L2.x_drop, L2.x_if, L2.x_par, L2.x_raise, L2.x_try, L2.x_name, L2.x_gtup, L2.x_gcons, L2.x_gnil, L2.x_gsub, L2.x_var, L2.x_c, L2.x_op, L2.x_un, L2.x_rI, L2.x_rI0, L2.x_rU, L2.x_B, L2.x_cmp, L2.x_isN, L2.x_notN, L2.x_test, L2.x_chain, L2.x_cons, L2.x_nil, L2.x_tup, L2.x_lst, L2.x_cb, L2.x_call, L2.x_xcall, L2.x_and, L2.x_or, L2.x_not, L2.x_andV, L2.x_orV, L2.x_notV, L2.x_ifE, L2.x_start, L2.x_for, L2.x_rng1, L2.x_rng2, L2.x_ilist, L2.x_itup, L2.x_dnew, L2.x_un0, L2.x_un1, List.map_cons, List.map_nil, List.length_cons, List.length_nil, List.cons_append, List.nil_append, List.append_nil, List.getElem?_cons_zero, List.getElem?_cons_succ, List.set_cons_zero, List.set_cons_succ, List.replicate_succ, List.replicate_zero, Nat.reduceAdd, Nat.reduceSub, Option.some.injEq, L2.V.int.injEq, L2.V.bl.injEq, L2.V.str.injEq, L2.V.ref.injEq, List.cons.injEq, exists_eq_left', exists_and_left, exists_eq', and_true, true_and, and_assoc, Bool.not_true, Bool.not_false, Bool.true_eq_false, Bool.false_eq_true, if_true, if_false, ite_true, ite_false, Bool.not_eq_true', decide_eq_true_eq, decide_eq_false_iff_not]))
local macro_rules | `(tactic| walk_at "rdd") => `(tactic| simp only [L2.later_iff, L2.x_iseq, L2.x_izip, L2.x_dget, L2.x_dget2, L2.x_dput, L2.x_comp, L2.x_true, L2.x_glst, L2.x_rev, L2.x_bm, L2.x_bm0, L2.x_sl, L2.x_nop, L2.x_part, L2.cxOf_K, L2.x_seq, L2.x_ret, L2.x_retN, L2.x_next, L2.x_break, L2.x_cont, L2.x_asg, L2.x_drop, L2.x_if, L2.x_par, L2.x_raise, L2.x_try, L2.x_name, L2.x_gtup, L2.x_gcons, L2.x_gnil, L2.x_gsub, L2.x_var, L2.x_c, L2.x_op, L2.x_un, L2.x_rI, L2.x_rI0, L2.x_rU, L2.x_B, L2.x_cmp, L2.x_isN, L2.x_notN, L2.x_test, L2.x_chain, L2.x_cons, L2.x_nil, L2.x_tup, L2.x_lst, L2.x_cb, L2.x_call, L2.x_xcall, L2.x_and, L2.x_or, L2.x_not, L2.x_andV, L2.x_orV, L2.x_notV, L2.x_ifE, L2.x_start, L2.x_for, L2.x_rng1, L2.x_rng2, L2.x_ilist, L2.x_itup, L2.x_dnew, L2.x_un0, L2.x_un1, List.map_cons, List.map_nil, List.length_cons, List.length_nil, List.cons_append, List.nil_append, List.append_nil, List.getElem?_cons_zero, List.getElem?_cons_succ, List.set_cons_zero, List.set_cons_succ, List.replicate_succ, List.replicate_zero, Nat.reduceAdd, Nat.reduceSub, Option.some.injEq, L2.V.int.injEq, L2.V.bl.injEq, L2.V.str.injEq, L2.V.ref.injEq, List.cons.injEq, exists_eq_left', exists_and_left, exists_eq', and_true, true_and, and_assoc, Bool.not_true, Bool.not_false, Bool.true_eq_false, Bool.false_eq_true, if_true, if_false, ite_true, ite_false, Bool.not_eq_true', decide_eq_true_eq, decide_eq_false_iff_not])
namespace W
open PySem L2
section
variable {P : Program} {w : World} {K : PySem.W.Frag} {mg : Str → Option Value} {base : Heap} {a : Adr}
theorem ok__law_pairs (T : Txt K mg a) : FnOk P w K mg base (CXE P w) 5 a.f__law_pairs a.d__law_pairs ["_law_well_here"] (sp_pairs K) := by
  have S := sc__law_pairs
  have G__law_names := ok__law_names (P := P) (w := w) (base := base) T
  have G__law_take := ok__law_take (P := P) (w := w) (base := base) T
  have G__law_number := ok__law_number (P := P) (w := w) (base := base) T
  have G__law_mul := ok__law_mul (P := P) (w := w) (base := base) T
  refine T.fun__law_pairs.okQ S (fun vs H Q E h => ?_) (fun cdv A outer s H vs Q E hr h => ?_)
  · obtain ⟨p, n, rfl, wa, hn, q⟩ := h; rfl
  · obtain ⟨p, n, rfl, wa, hn, q⟩ := h
    refine ⟨_, (q_pss_cons (q_ps_set (i := 1) S.nd rfl (Or.inl lk__law_pairs__law_names_here) (q_pe_call G__law_names (hr.mono (by decide)) lk__law_pairs__law_names T.mg__law_names T.kp__law_names T.bn__law_names .nil pass0E (q_pa_cons (q_pe_var (i := 0) rfl (Or.inl lk__law_pairs__law_well_here) nd__law_well_here.1 nd__law_well_here.2) (q_pa_cons (q_pe_op op_add q_pe_int (q_pe_call G__law_take (hr.mono (by decide)) lk__law_pairs__law_take T.mg__law_take T.kp__law_take T.bn__law_take .nil pass0E (q_pa_cons (q_pe_var (i := 0) rfl (Or.inl lk__law_pairs__law_well_here) nd__law_well_here.1 nd__law_well_here.2) (q_pa_cons q_pe_int q_pa_nil)) (hdb := nd__law_take.1))) q_pa_nil)) (hdb := nd__law_names.1)))
      (q_pss_cons (q_ps_set (i := 2) S.nd rfl (Or.inl lk__law_pairs__law_pairs_here) (q_pe_lst q_pa_nil))
      (q_pss_cons (q_ps_for PassesOwn.leaving rfl (q_pi_range1 lk__law_pairs_range T.b_range (q_pa_cons (q_pe_call G__law_take (hr.mono (by decide)) lk__law_pairs__law_take T.mg__law_take T.kp__law_take T.bn__law_take .nil pass0E (q_pa_cons (q_pe_var (i := 0) rfl (Or.inl lk__law_pairs__law_well_here) nd__law_well_here.1 nd__law_well_here.2) (q_pa_cons q_pe_int q_pa_nil)) (hdb := nd__law_take.1)) q_pa_nil)) (q_pg_name (i := 3) S.nd rfl (Or.inl lk__law_pairs__law_k)) (q_pss_cons (q_ps_set (i := 4) S.nd rfl (Or.inl lk__law_pairs__law_name_here) (q_pe_ix ix_d (q_pe_var (i := 1) rfl (Or.inl lk__law_pairs__law_names_here) nd__law_names_here.1 nd__law_names_here.2) (q_pe_call G__law_take (hr.mono (by decide)) lk__law_pairs__law_take T.mg__law_take T.kp__law_take T.bn__law_take .nil pass0E (q_pa_cons (q_pe_var (i := 0) rfl (Or.inl lk__law_pairs__law_well_here) nd__law_well_here.1 nd__law_well_here.2) (q_pa_cons (q_pe_callB call_len_seq lk__law_pairs_len T.b_len bt_len (q_pa_cons (q_pe_var (i := 1) rfl (Or.inl lk__law_pairs__law_names_here) nd__law_names_here.1 nd__law_names_here.2) q_pa_nil) (hn := nn_len) (hdb := nd_len.1)) q_pa_nil)) (hdb := nd__law_take.1)) (fun _ _ => rfl)))
      (q_pss_cons (q_ps_set (i := 5) S.nd rfl (Or.inl lk__law_pairs__law_number_here) (q_pe_call G__law_number (hr.mono (by decide)) lk__law_pairs__law_number T.mg__law_number T.kp__law_number T.bn__law_number .nil pass0E (q_pa_cons (q_pe_var (i := 0) rfl (Or.inl lk__law_pairs__law_well_here) nd__law_well_here.1 nd__law_well_here.2) q_pa_nil) (hdb := nd__law_number.1)))
      (q_pss_cons (q_ps_if (q_pwpt (q_pw_and (q_pt_cmp (q_pc_eqI (q_pe_call G__law_take (hr.mono (by decide)) lk__law_pairs__law_take T.mg__law_take T.kp__law_take T.bn__law_take .nil pass0E (q_pa_cons (q_pe_var (i := 0) rfl (Or.inl lk__law_pairs__law_well_here) nd__law_well_here.1 nd__law_well_here.2) (q_pa_cons q_pe_int q_pa_nil)) (hdb := nd__law_take.1)) q_pe_int)) (q_pw_and1 (q_pt_cmpR (op_neDK (K := K) rfl hr.units) (q_pe_var (i := 2) rfl (Or.inl lk__law_pairs__law_pairs_here) nd__law_pairs_here.1 nd__law_pairs_here.2) (q_pe_lst q_pa_nil) (nomark _))))) (q_pss_cons (q_ps_asg (q_pe_ix ix_d (q_pe_var (i := 2) rfl (Or.inl lk__law_pairs__law_pairs_here) nd__law_pairs_here.1 nd__law_pairs_here.2) (q_pe_call G__law_take (hr.mono (by decide)) lk__law_pairs__law_take T.mg__law_take T.kp__law_take T.bn__law_take .nil pass0E (q_pa_cons (q_pe_var (i := 0) rfl (Or.inl lk__law_pairs__law_well_here) nd__law_well_here.1 nd__law_well_here.2) (q_pa_cons (q_pe_callB call_len_seq lk__law_pairs_len T.b_len bt_len (q_pa_cons (q_pe_var (i := 2) rfl (Or.inl lk__law_pairs__law_pairs_here) nd__law_pairs_here.1 nd__law_pairs_here.2) q_pa_nil) (hn := nn_len) (hdb := nd_len.1)) q_pa_nil)) (hdb := nd__law_take.1)) (fun _ _ => rfl)) (q_pg_tup (n := 2) rfl (q_pgs_cons (q_pg_name (i := 4) S.nd rfl (Or.inl lk__law_pairs__law_name_here)) (q_pgs_cons (q_pg_name (i := 5) S.nd rfl (Or.inl lk__law_pairs__law_number_here)) q_pgs_nil))))
      (q_pss_one (q_ps_set (i := 5) S.nd rfl (Or.inl lk__law_pairs__law_number_here) (q_pe_call G__law_mul (hr.mono (by decide)) lk__law_pairs__law_mul T.mg__law_mul T.kp__law_mul T.bn__law_mul .nil pass0E (q_pa_cons (q_pe_var (i := 5) rfl (Or.inl lk__law_pairs__law_number_here) nd__law_number_here.1 nd__law_number_here.2) (q_pa_cons (q_pe_ix ix_d (q_pe_lst (q_pa_cons (q_pe_tup (q_pa_cons (q_pe_un un_neg q_pe_int) (q_pa_cons q_pe_int q_pa_nil))) (q_pa_cons (q_pe_tup (q_pa_cons q_pe_int (q_pa_cons q_pe_int q_pa_nil))) q_pa_nil))) (q_pe_callTy call_int1 lk__law_pairs_int T.b_int bt_int (q_pa_cons (q_pe_cmp (q_pc_eqI (q_pe_call G__law_take (hr.mono (by decide)) lk__law_pairs__law_take T.mg__law_take T.kp__law_take T.bn__law_take .nil pass0E (q_pa_cons (q_pe_var (i := 0) rfl (Or.inl lk__law_pairs__law_well_here) nd__law_well_here.1 nd__law_well_here.2) (q_pa_cons q_pe_int q_pa_nil)) (hdb := nd__law_take.1)) q_pe_int)) q_pa_nil) (hn := nn_int) (hdb := nd_int.1)) (fun _ _ => rfl)) q_pa_nil)) (hdb := nd__law_mul.1))))) q_pss_nil)
      (q_pss_one (q_ps_expr (q_pe_bm PySem.F.plainAttrs_list PySem.F.slot_list_append PySem.F.type_list_append mt_append (q_pe_var (i := 2) rfl (Or.inl lk__law_pairs__law_pairs_here) nd__law_pairs_here.1 nd__law_pairs_here.2) (q_pa_cons (q_pe_tup (q_pa_cons (q_pe_var (i := 4) rfl (Or.inl lk__law_pairs__law_name_here) nd__law_name_here.1 nd__law_name_here.2) (q_pa_cons (q_pe_var (i := 5) rfl (Or.inl lk__law_pairs__law_number_here) nd__law_number_here.1 nd__law_number_here.2) q_pa_nil))) q_pa_nil))))))))
      (q_pss_one (q_ps_ret (q_pe_var (i := 2) rfl (Or.inl lk__law_pairs__law_pairs_here) nd__law_pairs_here.1 nd__law_pairs_here.2)))))), ?_⟩
    have l9 : 9000 ≤ sizeLine := by rw [sizeLine_eq]; decide
    walk_at "rd"
    refine ⟨p, 6, n, rfl, wa, by omega, by decide, by decide, fun r0 H1 a0 b0 w1 s1 => ⟨r0, rfl, ?_⟩⟩
    refine ⟨p, 1 + r0, _, rfl, w1, by omega, by omega, by omega, fun ln H2 ss hln mln l1 l2 sb2 w2 => ?_⟩
    have sbH2 := s1.trans sb2
    have nln := w1.ne hln
    walk_at "rd"
    refine ⟨by decide, fun l hl => ?_⟩
    have nl := w2.ne hl
    have hlH := none_sb sbH2 w2 hl
    have nll : ln ≠ l := ne_of_none mln hl
    have s3 := Same.new (o := .lst []) hl
    have ml3 := upd_same (H := H2) (a := l) (o := .lst [])
    generalize upd H2 l _ = H3 at s3 ml3 ⊢
    have w3 := w2.same s3
    have mln3 := s3 _ _ mln
    have sbH3 := sbH2.trans (SB.of s3)
    clear sbH2 w2 mln hl s3 sb2 w1 s1
    walk_at "rd"
    refine ⟨p, 13, _, rfl, w3, by omega, by decide, by decide, fun r1 H4 a1 b1 w4 s4 => ⟨r1, rfl, by omega, by omega, forB_range (fun i σ H' => ∃ v3 v4 v5 vs ps, σ = [some (.ref p), some (.ref ln), some (.ref l), v3, v4, v5] ∧ H' ln = some (.lst (ss.map V.str)) ∧ H' l = some (.lst vs) ∧ PairsAt K H' vs ps ∧ (∀ q ∈ ps, NB 60 q.2) ∧ ps.length = i ∧ SB p H H' ∧ WA H' p (n + 5010 + 20 * i)) ⟨_, _, _, [], [], rfl, s4 _ _ nln mln3, s4 _ _ nl ml3, .nil, fun q hq => (by cases hq), rfl, sbH3.trans s4, w4.mono (by omega)⟩ ?_ ?_⟩⟩
    · rintro i σ H' hi ⟨v3, v4, v5, vs, ps, rfl, mln', ml', pp, nb, pl, sb', wa'⟩
      walk_at "rd"
      refine ⟨_, .inl (SqL.of mln'), ?_⟩
      rw [List.length_map]
      refine ⟨p, ss.length, _, rfl, wa', by omega, by omega, by omega, fun r2 H5 a2 b2 w5 s5 => ?_⟩
      have mln5 := s5 _ _ nln mln'
      obtain ⟨z, hz⟩ : ∃ z, atI (ss.map V.str) r2 = some (V.str z) := by
        obtain ⟨j, rfl⟩ : ∃ j : Nat, r2 = j := ⟨r2.toNat, by omega⟩
        exact ⟨_, atI_nat (by rw [List.getElem?_map, List.getElem?_eq_getElem (by omega : j < ss.length)]; rfl)⟩
      refine ixd_l mln5 hz ?_
      have ml5 := s5 _ _ nl ml'
      have pp5 := wa'.pairs s5 pp
      have sb5 := sb'.trans s5
      clear mln' ml' pp sb' wa' s5
      walk_at "rd"
      refine ⟨p, _, rfl, w5, by omega, fun an H6 x nx s6 w6 man => ?_⟩
      have mln6 := s6 _ _ nln mln5
      have ml6 := s6 _ _ nl ml5
      have pp6 := w5.pairs s6 pp5
      have sb6 := sb5.trans s6
      walk_at "rd"
      refine ⟨p, 4, _, rfl, w6, by omega, by decide, by decide, fun r3 H7 a3 b3 w7 s7 => ⟨r3, rfl, ?_⟩⟩
      have mln7 := s7 _ _ nln mln6
      have ml7 := s7 _ _ nl ml6
      have pp7 := w6.pairs s7 pp6
      have sb7 := sb6.trans s7
      have qan : SqT K H7 an (numV x) := w6.sqT s7 (SqT.of man)
      refine join3 (fun v w => [some (.ref p), some (.ref ln), some (.ref l), some (.int (0 + i)), some v, some w]) (fun v w H' => ∃ z a x, v = .str z ∧ w = .ref a ∧ SqT K H' a (numV x) ∧ NB 60 x ∧ H' ln = some (.lst (ss.map V.str)) ∧ H' l = some (.lst vs) ∧ PairsAt K H' vs ps ∧ SB p H H' ∧ WA H' p (n + 5010 + 20 * i + 10)) (fun v w H8 hP => ?_) (fun _ k2 => ?_) (fun _ => ⟨z, an, x, rfl, rfl, qan, nx, mln7, ml7, pp7, sb7, w7.mono (by omega)⟩)
      · obtain ⟨z, a, x, rfl, rfl, qa, nx, mln8, ml8, pp8, sb8, w8⟩ := hP
        walk_at "rd"
        refine ⟨.inl ⟨rfl, _, SqL.of ml8⟩, by decide, fun t ht => ?_⟩
        have s9 := Same.new (o := .tup [V.str z, V.ref a]) ht
        refine ⟨l, vs, _, rfl, rfl, s9 _ _ ml8, ?_, ?_⟩
        · have : vs.length = ps.length := Paired.length pp8
          omega
        have sbl : SB l (upd H8 t (.tup [V.str z, V.ref a])) (upd (upd H8 t (.tup [V.str z, V.ref a])) l (.lst (vs ++ [V.ref t]))) := SB.upd _ _ _
        have pt : PairAt K (upd H8 t (.tup [V.str z, V.ref a])) (.ref t) (z, x) := ⟨t, a, rfl, SqT.of upd_same, qa.keeps s9⟩
        refine ⟨sbl _ _ nll (s9 _ _ mln8), vs ++ [V.ref t], upd_same, ps ++ [(z, x)], Paired.snoc (PairsAt.sbL (PairsAt.same pp8 s9) sbl (s9 _ _ ml8)) (pt.sbL sbl (s9 _ _ ml8)), fun q hq => ?_, by rw [List.length_append, pl]; rfl, fun c o nc e => ?_, ?_⟩
        · rcases List.mem_append.mp hq with h | h
          · exact nb q h
          · rw [List.mem_singleton.mp h]; exact nx
        · exact sbl c o (ne_of_none e hlH) (s9 _ _ (sb8 c o nc e))
        · exact ((w8.same s9).sb sbl (Ne.symm nl)).mono (by omega)
      · refine ⟨by decide, fun e0 he => ?_⟩
        have s8 := Same.new (o := .lst []) he
        refine ⟨_, _, .lst (SqL.of (s8 _ _ ml7)) (den_pairs (PairsAt.same pp7 s8)), .lst (SqL.of upd_same) .nil, by rw [D.depth]; have := depth_pairs ps; omega, _, rfl, ?_⟩
        rw [eqs_nil]
        have ml8 := s8 _ _ ml7
        have mln8 := s8 _ _ mln7
        have pp8 := PairsAt.same pp7 s8
        have qan8 := qan.keeps s8
        have sb8 := sb7.trans (SB.of s8)
        have w8 := w7.same s8
        generalize upd H7 e0 _ = H8 at ml8 mln8 pp8 qan8 sb8 w8 ⊢
        refine ite2b (fun c => ?_) (fun c => k2 _ _ _ ⟨z, an, x, rfl, rfl, qan8, nx, mln8, ml8, pp8, sb8, w8.mono (by omega)⟩)
        have pne : ps ≠ [] := by simpa using c
        have pvl : vs.length = ps.length := Paired.length pp8
        have ppos : 0 < ps.length := List.length_pos_iff.mpr pne
        refine ⟨_, .inl (SqL.of ml8), ?_⟩
        refine ⟨p, vs.length, _, rfl, w8, by omega, by omega, by omega, fun r4 H9 a4 b4 w9 s9 => ?_⟩
        obtain ⟨j, rfl⟩ : ∃ j : Nat, r4 = j := ⟨r4.toNat, by omega⟩
        have hj : j < vs.length := by omega
        have pp9 := w8.pairs s9 pp8
        obtain ⟨pr, hpr, t, a, ev, m1, m2⟩ : ∃ pr, ps[j]? = some pr ∧ PairAt K H9 vs[j] pr := Paired.at pp9 (List.getElem?_eq_getElem hj)
        refine ixd_l (s9 _ _ nl ml8) (atI_nat (List.getElem?_eq_getElem hj)) ?_
        rw [ev]
        refine ⟨t, rfl, _, m1, rfl, _, _, rfl, _, _, rfl, rfl, ?_⟩
        walk_at "rd"
        refine ⟨by decide, fun t1 h1 => ⟨by decide, fun t2 h2 => ⟨by decide, fun l3 h3 => ?_⟩⟩⟩
        have sA := ((Same.new (o := .tup [V.int (-1), V.int 1]) h1).trans (Same.new (o := .tup [V.int 1, V.int 1]) h2)).trans (Same.new (o := .lst [V.ref t1, V.ref t2]) h3)
        have u1 : SqT K (upd (upd (upd H9 t1 (.tup [V.int (-1), V.int 1])) t2 (.tup [V.int 1, V.int 1])) l3 (.lst [V.ref t1, V.ref t2])) t1 (numV (-1, 1)) := SqT.of (((Same.new h2).trans (Same.new h3)) _ _ upd_same)
        have u2 : SqT K (upd (upd (upd H9 t1 (.tup [V.int (-1), V.int 1])) t2 (.tup [V.int 1, V.int 1])) l3 (.lst [V.ref t1, V.ref t2])) t2 (numV (1, 1)) := SqT.of (Same.new h3 _ _ upd_same)
        have u3 := upd_same (H := upd (upd H9 t1 (.tup [V.int (-1), V.int 1])) t2 (.tup [V.int 1, V.int 1])) (a := l3) (o := .lst [V.ref t1, V.ref t2])
        have w9' := ((w9.same (Same.new (o := .tup [V.int (-1), V.int 1]) h1)).same (Same.new (o := .tup [V.int 1, V.int 1]) h2)).ne h3
        generalize upd (upd (upd H9 t1 _) t2 _) l3 _ = HA at sA u1 u2 u3 ⊢
        have wA := w9.same sA
        refine ⟨p, 3, _, rfl, wA, by omega, by decide, by decide, fun r5 HB a5 b5 wB sB => ⟨r5, rfl, .inr ?_⟩⟩
        have npr : NB 60 pr.2 := nb _ (List.mem_of_getElem? hpr)
        refine ixd_m (sB _ _ w9' u3) (by split <;> decide) (by show _ < (2 : Int); split <;> decide) fun v hv => ?_
        obtain ⟨b, y, rfl, qb, ny, ey⟩ : ∃ (b : Addr) (y : Num), v = .ref b ∧ SqT K HB b (numV y) ∧ NB 60 y ∧ NB 60 (nMul pr.2 y) := by
          simp only [List.mem_cons, List.not_mem_nil, or_false] at hv
          rcases hv with rfl | rfl
          · exact ⟨t1, (-1, 1), rfl, wA.sqT sB u1, neg1 (n := 59), by rw [nMul_neg npr.ok]; exact npr.neg⟩
          · exact ⟨t2, (1, 1), rfl, wA.sqT sB u2, one1 (n := 59), by rw [nMul_one npr.ok]; exact npr⟩
        have m2B : SqT K HB a (numV pr.2) := wA.sqT sB (m2.keeps sA)
        refine ⟨a, b, pr.2, y, 60, rfl, m2B, qb, npr, ny, by decide, fun rr hrr => k2 _ _ _ ⟨pr.1, rr, nMul pr.2 y, rfl, rfl, SqT.of upd_same, ey, Same.new hrr _ _ (sB _ _ nln (sA _ _ (s9 _ _ nln mln8))), Same.new hrr _ _ (sB _ _ nl (sA _ _ (s9 _ _ nl ml8))), PairsAt.same (wA.pairs sB (PairsAt.same pp9 sA)) (Same.new hrr), (((sb8.trans s9).trans (SB.of sA)).trans sB).trans (SB.new hrr), (wB.same (Same.new hrr)).mono (by omega)⟩⟩
    · rintro σ H' ⟨v3, v4, v5, vs, ps, rfl, mln', ml', pp, nb, pl, sb', wa'⟩
      have hq := q l H' vs ps hlH ml' pp nb (by omega) sb'
      first | exact hq | (walk_at "rd"; exact hq)
theorem ok_law (T : Txt K mg a) : FnOk P w K mg base (CXE P w) 6 a.f_law a.d_law ["_law_script"] (sp_law K) := by
  have S := sc_law
  have G__law_well := ok__law_well (P := P) (w := w) (base := base) T
  have G__law_number := ok__law_number (P := P) (w := w) (base := base) T
  have G__law_pairs := ok__law_pairs (P := P) (w := w) (base := base) T
  have G__law_due := ok__law_due (P := P) (w := w) (base := base) T
  have G_sum_of := ok_sum_of (P := P) (w := w) (base := base) T
  have G__law_is_sum := ok__law_is_sum (P := P) (w := w) (base := base) T
  refine T.fun_law.okQ S (fun vs H Q E h => ?_) (fun cdv A outer s H vs Q E hr h => ?_)
  · obtain ⟨p, ns, rfl, hs, hl, q⟩ := h; rfl
  · obtain ⟨p, ns, rfl, hs, hl, q⟩ := h
    refine ⟨_, (q_pss_cons (q_ps_for PassesOwn.leaving rfl (q_pi_range1 lk_law_range T.b_range (q_pa_cons (q_pe_callB (call_max2 rfl) lk_law_max T.b_max bt_max (q_pa_cons q_pe_int (q_pa_cons (q_pe_callB (call_min2 rfl) lk_law_min T.b_min bt_min (q_pa_cons (q_pe_callB call_len_seq lk_law_len T.b_len bt_len (q_pa_cons (q_pe_var (i := 0) rfl (Or.inl lk_law__law_script) nd__law_script.1 nd__law_script.2) q_pa_nil) (hn := nn_len) (hdb := nd_len.1)) (q_pa_cons q_pe_int q_pa_nil)) (hn := nn_min) (hdb := nd_min.1)) q_pa_nil)) (hn := nn_max) (hdb := nd_max.1)) q_pa_nil)) (q_pg_name (i := 1) S.nd rfl (Or.inl lk_law__law_k)) (q_pss_cons (q_ps_set (i := 2) S.nd rfl (Or.inl lk_law__law_well_here) (q_pe_call G__law_well (hr.mono (by decide)) lk_law__law_well T.mg__law_well T.kp__law_well T.bn__law_well .nil pass0E (q_pa_cons (q_pe_var (i := 0) rfl (Or.inl lk_law__law_script) nd__law_script.1 nd__law_script.2) (q_pa_cons (q_pe_var (i := 1) rfl (Or.inl lk_law__law_k) nd__law_k.1 nd__law_k.2) q_pa_nil)) (hdb := nd__law_well.1)))
      (q_pss_cons (q_ps_set (i := 3) S.nd rfl (Or.inl lk_law__law_number_here) (q_pe_call G__law_number (hr.mono (by decide)) lk_law__law_number T.mg__law_number T.kp__law_number T.bn__law_number .nil pass0E (q_pa_cons (q_pe_var (i := 2) rfl (Or.inl lk_law__law_well_here) nd__law_well_here.1 nd__law_well_here.2) q_pa_nil) (hdb := nd__law_number.1)))
      (q_pss_cons (q_ps_set (i := 4) S.nd rfl (Or.inl lk_law__law_pairs_here) (q_pe_call G__law_pairs (hr.mono (by decide)) lk_law__law_pairs T.mg__law_pairs T.kp__law_pairs T.bn__law_pairs .nil pass0E (q_pa_cons (q_pe_var (i := 2) rfl (Or.inl lk_law__law_well_here) nd__law_well_here.1 nd__law_well_here.2) q_pa_nil) (hdb := nd__law_pairs.1)))
      (q_pss_cons (q_ps_set (i := 5) S.nd rfl (Or.inl lk_law__law_handed) (q_pe_callTy call_list_of lk_law_list T.b_list bt_list (q_pa_cons (q_pe_var (i := 4) rfl (Or.inl lk_law__law_pairs_here) nd__law_pairs_here.1 nd__law_pairs_here.2) q_pa_nil) (hn := nn_list) (hdb := nd_list.1)))
      (q_pss_cons (q_ps_set (i := 6) S.nd rfl (Or.inl lk_law__law_due_here) (q_pe_call G__law_due (hr.mono (by decide)) lk_law__law_due T.mg__law_due T.kp__law_due T.bn__law_due .nil pass0E (q_pa_cons (q_pe_var (i := 3) rfl (Or.inl lk_law__law_number_here) nd__law_number_here.1 nd__law_number_here.2) (q_pa_cons (q_pe_var (i := 4) rfl (Or.inl lk_law__law_pairs_here) nd__law_pairs_here.1 nd__law_pairs_here.2) q_pa_nil)) (hdb := nd__law_due.1)))
      (q_pss_cons (q_ps_set (i := 7) S.nd rfl (Or.inl lk_law__law_found) (q_pe_call G_sum_of (hr.mono (by decide)) lk_law_sum_of T.mg_sum_of T.kp_sum_of T.bn_sum_of .nil pass0E (q_pa_cons (q_pe_var (i := 3) rfl (Or.inl lk_law__law_number_here) nd__law_number_here.1 nd__law_number_here.2) (q_pa_cons (q_pe_var (i := 5) rfl (Or.inl lk_law__law_handed) nd__law_handed.1 nd__law_handed.2) q_pa_nil)) (hdb := nd_sum_of.1)))
      (q_pss_cons (q_ps_if (q_pwpt (q_pw_or (q_pt_not (q_pt_val (q_pe_call G__law_is_sum (hr.mono (by decide)) lk_law__law_is_sum T.mg__law_is_sum T.kp__law_is_sum T.bn__law_is_sum .nil pass0E (q_pa_cons (q_pe_var (i := 7) rfl (Or.inl lk_law__law_found) nd__law_found.1 nd__law_found.2) (q_pa_cons (q_pe_var (i := 6) rfl (Or.inl lk_law__law_due_here) nd__law_due_here.1 nd__law_due_here.2) q_pa_nil)) (hdb := nd__law_is_sum.1)))) (q_pw_or1 (q_pt_cmpR (op_neDK (K := K) rfl hr.units) (q_pe_var (i := 5) rfl (Or.inl lk_law__law_handed) nd__law_handed.1 nd__law_handed.2) (q_pe_var (i := 4) rfl (Or.inl lk_law__law_pairs_here) nd__law_pairs_here.1 nd__law_pairs_here.2) (nomark _))))) (q_pss_one (q_ps_ret q_pe_bl)) q_pss_nil)
      (q_pss_cons (q_ps_if (q_pwpt (q_pw_or (q_pt_not (q_pt_val (q_pe_call G__law_is_sum (hr.mono (by decide)) lk_law__law_is_sum T.mg__law_is_sum T.kp__law_is_sum T.bn__law_is_sum .nil pass0E (q_pa_cons (q_pe_call G_sum_of (hr.mono (by decide)) lk_law_sum_of T.mg_sum_of T.kp_sum_of T.bn_sum_of .nil pass0E (q_pa_cons (q_pe_var (i := 3) rfl (Or.inl lk_law__law_number_here) nd__law_number_here.1 nd__law_number_here.2) (q_pa_cons (q_pe_callTy call_tuple_of lk_law_tuple T.b_tuple bt_tuple (q_pa_cons (q_pe_var (i := 4) rfl (Or.inl lk_law__law_pairs_here) nd__law_pairs_here.1 nd__law_pairs_here.2) q_pa_nil) (hn := nn_tuple) (hdb := nd_tuple.1)) q_pa_nil)) (hdb := nd_sum_of.1)) (q_pa_cons (q_pe_var (i := 6) rfl (Or.inl lk_law__law_due_here) nd__law_due_here.1 nd__law_due_here.2) q_pa_nil)) (hdb := nd__law_is_sum.1)))) (q_pw_or1 (q_pt_not (q_pt_val (q_pe_call G__law_is_sum (hr.mono (by decide)) lk_law__law_is_sum T.mg__law_is_sum T.kp__law_is_sum T.bn__law_is_sum .nil pass0E (q_pa_cons (q_pe_call G_sum_of (hr.mono (by decide)) lk_law_sum_of T.mg_sum_of T.kp_sum_of T.bn_sum_of .nil pass0E (q_pa_cons (q_pe_var (i := 3) rfl (Or.inl lk_law__law_number_here) nd__law_number_here.1 nd__law_number_here.2) (q_pa_cons (q_pe_rev (q_pe_var (i := 5) rfl (Or.inl lk_law__law_handed) nd__law_handed.1 nd__law_handed.2) q_pe_m1) q_pa_nil)) (hdb := nd_sum_of.1)) (q_pa_cons (q_pe_var (i := 6) rfl (Or.inl lk_law__law_due_here) nd__law_due_here.1 nd__law_due_here.2) q_pa_nil)) (hdb := nd__law_is_sum.1))))))) (q_pss_one (q_ps_ret q_pe_bl)) q_pss_nil)
      (q_pss_one (q_ps_if (q_pwpt (q_pw_or (q_pt_not (q_pt_val (q_pe_call G__law_is_sum (hr.mono (by decide)) lk_law__law_is_sum T.mg__law_is_sum T.kp__law_is_sum T.bn__law_is_sum .nil pass0E (q_pa_cons (q_pe_call G_sum_of (hr.mono (by decide)) lk_law_sum_of T.mg_sum_of T.kp_sum_of T.bn_sum_of .nil pass0E (q_pa_cons (q_pe_ix ix_d (q_pe_var (i := 7) rfl (Or.inl lk_law__law_found) nd__law_found.1 nd__law_found.2) q_pe_int (fun _ _ => rfl)) (q_pa_cons (q_pe_ix ix_d (q_pe_var (i := 7) rfl (Or.inl lk_law__law_found) nd__law_found.1 nd__law_found.2) q_pe_int (fun _ _ => rfl)) q_pa_nil)) (hdb := nd_sum_of.1)) (q_pa_cons (q_pe_var (i := 6) rfl (Or.inl lk_law__law_due_here) nd__law_due_here.1 nd__law_due_here.2) q_pa_nil)) (hdb := nd__law_is_sum.1)))) (q_pw_or1 (q_pt_not (q_pt_val (q_pe_call G__law_is_sum (hr.mono (by decide)) lk_law__law_is_sum T.mg__law_is_sum T.kp__law_is_sum T.bn__law_is_sum .nil pass0E (q_pa_cons (q_pe_call G_sum_of (hr.mono (by decide)) lk_law_sum_of T.mg_sum_of T.kp_sum_of T.bn_sum_of .nil pass0E (q_pa_cons (q_pe_var (i := 3) rfl (Or.inl lk_law__law_number_here) nd__law_number_here.1 nd__law_number_here.2) (q_pa_cons (q_pe_lst q_pa_nil) q_pa_nil)) (hdb := nd_sum_of.1)) (q_pa_cons (q_pe_tup (q_pa_cons (q_pe_var (i := 3) rfl (Or.inl lk_law__law_number_here) nd__law_number_here.1 nd__law_number_here.2) (q_pa_cons (q_pe_tup q_pa_nil) q_pa_nil))) q_pa_nil)) (hdb := nd__law_is_sum.1))))))) (q_pss_one (q_ps_ret q_pe_bl)) q_pss_nil)))))))))))
      (q_pss_one (q_ps_ret q_pe_bl))), ?_⟩
    walk_at "rd"
    refine ⟨_, .inl hs, ?_⟩
    rw [List.length_map]
    generalize hn : (if (if (30 : Int) < (ns.length : Int) then (30 : Int) else (ns.length : Int)) > 1 then (if (30 : Int) < (ns.length : Int) then (30 : Int) else (ns.length : Int)) else 1) = n
    have n1 : 1 ≤ n ∧ n ≤ 30 := by rw [← hn]; split <;> split <;> omega
    refine ⟨by omega, by omega, forB_range (fun i σ H' => ∃ v1 v2 v3 v4 v5 v6 v7, σ = [some (.ref p), v1, v2, v3, v4, v5, v6, v7] ∧ Same H H') ⟨_, _, _, _, _, _, _, rfl, Same.refl H⟩ ?_ ?_⟩
    · rintro i σ H1 hi ⟨v1, v2, v3, v4, v5, v6, v7, rfl, s1⟩
      walk_at "rd"
      refine ⟨p, ns, 0 + i, rfl, hs.keeps s1, by omega, by omega, fun q1 H2 hq1 s2 wa => ?_⟩
      walk_at "rd"
      refine ⟨q1, _, rfl, wa, by omega, fun an H3 x nx sb3 wa3 man => ?_⟩
      walk_at "rd"
      refine ⟨q1, _, rfl, wa3, by omega, fun lp H4 vs ps hlp mlp pp nb pl sb4 => ?_⟩
      have s4 : Same H H4 := fun c o e => (sb3.trans sb4) c o (ne_of_none (s1 c o e) hq1) (s2 c o (s1 c o e))
      have qn : SqT K H4 an (numV x) := wa3.sqT sb4 (SqT.of man)
      clear sb4 sb3 wa3 wa s2 hq1 s1 man hlp
      have lvs : vs.length = ps.length := Paired.length pp
      have ok : ∀ p ∈ ps, Ok p.2 := fun p hp => (nb p hp).ok
      have cn : ∀ n, cnt ps n ≤ 12 := fun n => Nat.le_trans (cnt_le ps n) pl
      walk_at "rd"
      refine ⟨_, .inl (SqL.of mlp), fun lh hlh => ?_⟩
      have s5 := Same.new (o := .lst vs) hlh
      have mh := upd_same (H := H4) (a := lh) (o := .lst vs)
      generalize upd H4 lh _ = H5 at s5 mh ⊢
      have pp5 := PairsAt.same pp s5
      have qn5 := qn.keeps s5
      have ml5 := s5 _ _ mlp
      have t5 := s4.trans s5
      walk_at "rd"
      refine ⟨an, lp, vs, ps, 60, 12, rfl, .inl (SqL.of ml5), pp5, nb, cn, by decide, by decide, by omega, fun rd H6 L s6 cL lL sD => ?_⟩
      walk_at "rd"
      refine ⟨an, lh, vs, ps, 60, 12, rfl, .inl (SqL.of (s6 _ _ mh)), PairsAt.same pp5 s6, nb, cn, by decide, by decide, by omega, fun rf H7 L2 s7 cL2 _ sF => ?_⟩
      have e2 := cL2.eq cL
      subst e2
      have sum_keeps : ∀ {Ha Hb : Hp} {v : V} {a : Addr} {M : List Pr}, Same Ha Hb → SumAt K Ha v a M → SumAt K Hb v a M := fun s h => by
        obtain ⟨r, f, us, e, h1, h2, h3⟩ := h
        exact ⟨r, f, us, e, h1.keeps s, h2.keeps s, PairsAt.same h3 s⟩
      have sD7 := sum_keeps s7 sD
      have s57 := s6.trans s7
      have qn7 := qn5.keeps s57
      have pp7 := PairsAt.same pp5 s57
      have ml7 := s57 _ _ ml5
      have mh7 := s57 _ _ mh
      have t7 := t5.trans s57
      clear sD qn5 pp5 ml5 mh t5 s57 s6 s7 s5 s4 qn pp mlp
      walk_at "rd"
      refine ⟨.ref rf, .ref rd, an, an, x, L2, rfl, sF, sD7, qn7, qn7, fun H8 s8 => ⟨_, rfl, ?_⟩⟩
      rw [if_neg (by decide)]
      refine ⟨_, _, .lst (SqL.of (s8 _ _ mh7)) (den_pairs (PairsAt.same pp7 s8)), .lst (SqL.of (s8 _ _ ml7)) (den_pairs (PairsAt.same pp7 s8)), by rw [D.depth]; have := depth_pairs ps; omega, false, congrArg V.bl (by rw [D.eq_refl]; rfl), ?_⟩
      rw [if_neg (by decide)]
      have sD8 := sum_keeps s8 sD7
      have sF8 := sum_keeps s8 sF
      have qn8 := qn7.keeps s8
      have pp8 := PairsAt.same pp7 s8
      have ml8 := s8 _ _ ml7
      have mh8 := s8 _ _ mh7
      have t8 := t7.trans s8
      clear sD7 sF qn7 pp7 ml7 mh7 t7 s8
      have is_ : ∀ {Ha Hb : Hp}, Same Ha Hb → SumAt K Ha (.ref rd) an L2 → SumAt K Ha (.ref rf) an L2 → SqT K Ha an (numV x) → PairsAt K Ha vs ps → Ha lp = some (.lst vs) → Ha lh = some (.lst vs) → Same H Ha →
          SumAt K Hb (.ref rd) an L2 ∧ SumAt K Hb (.ref rf) an L2 ∧ SqT K Hb an (numV x) ∧ PairsAt K Hb vs ps ∧ Hb lp = some (.lst vs) ∧ Hb lh = some (.lst vs) ∧ Same H Hb := fun s a b c d e f g => ⟨sum_keeps s a, sum_keeps s b, c.keeps s, PairsAt.same d s, s _ _ e, s _ _ f, g.trans s⟩
      walk_at "rd"
      refine ⟨_, .inl ⟨SqL.of ml8, fun tp htp => ?_⟩⟩
      have mt := upd_same (H := H8) (a := tp) (o := .tup vs)
      obtain ⟨sD9, sF9, qn9, pp9, ml9, mh9, t9⟩ := is_ (Same.new (o := .tup vs) htp) sD8 sF8 qn8 pp8 ml8 mh8 t8
      generalize upd H8 tp _ = H9 at mt sD9 sF9 qn9 pp9 ml9 mh9 t9 ⊢
      refine ⟨an, tp, vs, ps, 60, 12, rfl, .inr (SqT.of mt), pp9, nb, cn, by decide, by decide, by omega, fun r3 H10 L3 s10 c3 _ u3 => ?_⟩
      have e3 := c3.eq cL2
      subst e3
      obtain ⟨sD10, sF10, qn10, pp10, ml10, mh10, t10⟩ := is_ s10 sD9 sF9 qn9 pp9 ml9 mh9 t9
      refine ⟨.ref r3, .ref rd, an, an, x, L3, rfl, u3, sD10, qn10, qn10, fun H11 s11 => ⟨_, rfl, ?_⟩⟩
      rw [if_neg (by decide)]
      obtain ⟨sD11, sF11, qn11, pp11, ml11, mh11, t11⟩ := is_ s11 sD10 sF10 qn10 pp10 ml10 mh10 t10
      clear sD8 sF8 qn8 pp8 ml8 mh8 t8 mt sD9 sF9 qn9 pp9 ml9 mh9 t9 s10 s11 u3 sD10 sF10 qn10 pp10 ml10 mh10 t10
      refine ⟨vs, SqL.of mh11, fun lr hlr => ?_⟩
      have mr := upd_same (H := H11) (a := lr) (o := .lst vs.reverse)
      obtain ⟨sD12, sF12, qn12, pp12, ml12, mh12, t12⟩ := is_ (Same.new (o := .lst vs.reverse) hlr) sD11 sF11 qn11 pp11 ml11 mh11 t11
      generalize upd H11 lr _ = H12 at mr sD12 sF12 qn12 pp12 ml12 mh12 t12 ⊢
      refine ⟨an, lr, vs.reverse, ps.reverse, 60, 12, rfl, .inl (SqL.of mr), Paired.rev pp12, fun p hp => nb p (List.mem_reverse.mp hp), fun n => Nat.le_trans (cnt_le _ n) (by rw [List.length_reverse]; exact pl), by decide, by decide, by rw [List.length_reverse]; omega, fun r4 H13 L4 s13 c4 _ u4 => ?_⟩
      have e4 := (c4.rev ok).eq cL2
      subst e4
      obtain ⟨sD13, sF13, qn13, pp13, ml13, mh13, t13⟩ := is_ s13 sD12 sF12 qn12 pp12 ml12 mh12 t12
      refine ⟨.ref r4, .ref rd, an, an, x, L4, rfl, u4, sD13, qn13, qn13, fun H14 s14 => ⟨_, rfl, ?_⟩⟩
      rw [if_neg (by decide)]
      obtain ⟨sD14, sF14, qn14, pp14, ml14, mh14, t14⟩ := is_ s14 sD13 sF13 qn13 pp13 ml13 mh13 t13
      clear sD11 sF11 qn11 pp11 ml11 mh11 t11 mr sD12 sF12 qn12 pp12 ml12 mh12 t12 s13 s14 u4 sD13 sF13 qn13 pp13 ml13 mh13 t13
      walk_at "rd"
      obtain ⟨rf', f, us, erf, g1, g2, g3⟩ := id sF14
      cases erf
      have nbL : ∀ p ∈ L4, NB 733 p.2 := fun p hp => by
        rw [((cL2.mem p).mp hp).1]
        exact (tot_nb nb p.1).mono (by have := cn p.1; omega)
      refine ixd_t g1 rfl (ixd_t g1 rfl ⟨an, f, us, L4, 733, 1, rfl, .inr g2, g3, nbL, cnt_self cL2.rise, by decide, by decide, by omega, fun r5 H15 L5 s15 c5 _ u5 => ?_⟩)
      have e5 := c5.eq (cL2.self ok)
      subst e5
      obtain ⟨sD15, sF15, qn15, pp15, ml15, mh15, t15⟩ := is_ s15 sD14 sF14 qn14 pp14 ml14 mh14 t14
      refine ⟨.ref r5, .ref rd, an, an, x, L5, rfl, u5, sD15, qn15, qn15, fun H16 s16 => ⟨_, rfl, ?_⟩⟩
      rw [if_neg (by decide)]
      have qn16 := qn15.keeps s16
      have t16 := t15.trans s16
      refine ⟨by decide, fun e1 he1 => ?_⟩
      have sx := Same.new (o := .lst []) he1
      refine ⟨an, e1, [], [], 60, 12, rfl, .inl (SqL.of upd_same), .nil, fun p hp => (by cases hp), fun n => Nat.zero_le _, by decide, by decide, by decide, fun r6 H17 L6 s17 c6 _ u6 => ?_⟩
      have e6 := c6.eq Canon.nil
      subst e6
      have qn17 := (qn16.keeps sx).keeps s17
      have t17 := (t16.trans sx).trans s17
      refine ⟨by decide, fun e7 he7 => ⟨by decide, fun t7 ht7 => ?_⟩⟩
      have sy := (Same.new (o := .tup []) he7).trans (Same.new (o := .tup [V.ref an, V.ref e7]) ht7)
      refine ⟨.ref r6, .ref t7, an, an, x, [], rfl, sum_keeps sy u6, ⟨t7, e7, [], rfl, SqT.of upd_same, SqT.of (Same.new ht7 _ _ upd_same), .nil⟩, qn17.keeps sy, qn17.keeps sy, fun H18 s18 => ⟨_, rfl, ?_⟩⟩
      rw [if_neg (by decide)]
      exact (t17.trans sy).trans s18
    · rintro σ H1 ⟨v1, v2, v3, v4, v5, v6, v7, rfl, s1⟩
      first | exact q _ | (walk_at "rd"; exact q _)
end
end W

set_option Elab.async false
set_option linter.all false
set_option maxRecDepth 100000
set_option maxHeartbeats 4000000
namespace W
open PySem L2
theorem txt_mk {K : PySem.W.Frag} {h : Heap} {mg : Str → Option Value} (X : K.In h) (G : h.Ns mainGlobals mg)
    {f_common_divisor : Addr} {od_common_divisor an_common_divisor : Option Addr} {sl_common_divisor : Array (Option Value)} {oc_common_divisor kV_common_divisor dc_common_divisor pm_common_divisor cd_common_divisor ct_common_divisor : Value}
    {f_lowest_terms : Addr} {od_lowest_terms an_lowest_terms : Option Addr} {sl_lowest_terms : Array (Option Value)} {oc_lowest_terms kV_lowest_terms dc_lowest_terms pm_lowest_terms cd_lowest_terms ct_lowest_terms : Value}
    {f_plus : Addr} {od_plus an_plus : Option Addr} {sl_plus : Array (Option Value)} {oc_plus kV_plus dc_plus pm_plus cd_plus ct_plus : Value}
    {f_sum_of : Addr} {od_sum_of an_sum_of : Option Addr} {sl_sum_of : Array (Option Value)} {oc_sum_of kV_sum_of dc_sum_of pm_sum_of cd_sum_of ct_sum_of : Value}
    {f__law_well : Addr} {od__law_well an__law_well : Option Addr} {sl__law_well : Array (Option Value)} {oc__law_well kV__law_well dc__law_well pm__law_well cd__law_well ct__law_well : Value}
    {f__law_take : Addr} {od__law_take an__law_take : Option Addr} {sl__law_take : Array (Option Value)} {oc__law_take kV__law_take dc__law_take pm__law_take cd__law_take ct__law_take : Value}
    {f__law_common : Addr} {od__law_common an__law_common : Option Addr} {sl__law_common : Array (Option Value)} {oc__law_common kV__law_common dc__law_common pm__law_common cd__law_common ct__law_common : Value}
    {f__law_num : Addr} {od__law_num an__law_num : Option Addr} {sl__law_num : Array (Option Value)} {oc__law_num kV__law_num dc__law_num pm__law_num cd__law_num ct__law_num : Value}
    {f__law_add : Addr} {od__law_add an__law_add : Option Addr} {sl__law_add : Array (Option Value)} {oc__law_add kV__law_add dc__law_add pm__law_add cd__law_add ct__law_add : Value}
    {f__law_mul : Addr} {od__law_mul an__law_mul : Option Addr} {sl__law_mul : Array (Option Value)} {oc__law_mul kV__law_mul dc__law_mul pm__law_mul cd__law_mul ct__law_mul : Value}
    {f__law_number : Addr} {od__law_number an__law_number : Option Addr} {sl__law_number : Array (Option Value)} {oc__law_number kV__law_number dc__law_number pm__law_number cd__law_number ct__law_number : Value}
    {f__law_whole : Addr} {od__law_whole an__law_whole : Option Addr} {sl__law_whole : Array (Option Value)} {oc__law_whole kV__law_whole dc__law_whole pm__law_whole cd__law_whole ct__law_whole : Value}
    {f__law_is : Addr} {od__law_is an__law_is : Option Addr} {sl__law_is : Array (Option Value)} {oc__law_is kV__law_is dc__law_is pm__law_is cd__law_is ct__law_is : Value}
    {f__law_name : Addr} {od__law_name an__law_name : Option Addr} {sl__law_name : Array (Option Value)} {oc__law_name kV__law_name dc__law_name pm__law_name cd__law_name ct__law_name : Value}
    {f__law_names : Addr} {od__law_names an__law_names : Option Addr} {sl__law_names : Array (Option Value)} {oc__law_names kV__law_names dc__law_names pm__law_names cd__law_names ct__law_names : Value}
    {f__law_is_sum : Addr} {od__law_is_sum an__law_is_sum : Option Addr} {sl__law_is_sum : Array (Option Value)} {oc__law_is_sum kV__law_is_sum dc__law_is_sum pm__law_is_sum cd__law_is_sum ct__law_is_sum : Value}
    {f__law_pairs : Addr} {od__law_pairs an__law_pairs : Option Addr} {sl__law_pairs : Array (Option Value)} {oc__law_pairs kV__law_pairs dc__law_pairs pm__law_pairs cd__law_pairs ct__law_pairs : Value}
    {f__law_due : Addr} {od__law_due an__law_due : Option Addr} {sl__law_due : Array (Option Value)} {oc__law_due kV__law_due dc__law_due pm__law_due cd__law_due ct__law_due : Value}
    {f_law : Addr} {od_law an_law : Option Addr} {sl_law : Array (Option Value)} {oc_law kV_law dc_law pm_law cd_law ct_law : Value}
    {K_ZERO : Addr} {kc_ZERO : Option Addr} {ka_ZERO kb_ZERO : Tok} {kn_ZERO : Nat} {ks_ZERO : Array (Option Value)}
    (a_common_divisor : PySem.W.nsIn K mainGlobals "common_divisor" = some (some (.ref f_common_divisor)))
    (l_common_divisor : K.lookup f_common_divisor = some ⟨oc_common_divisor, od_common_divisor, .func (PySem.W.fnOf "common_divisor" "common_divisor" (defArgs s_common_divisor) (defBody s_common_divisor) (defScope s_common_divisor) .none kV_common_divisor dc_common_divisor pm_common_divisor an_common_divisor cd_common_divisor ct_common_divisor), sl_common_divisor⟩)
    (c_common_divisor : PySem.W.codeIn K cd_common_divisor "common_divisor" = true)
    (k_common_divisor : PySem.W.keepIn K (.ref f_common_divisor) = true)
    (a_lowest_terms : PySem.W.nsIn K mainGlobals "lowest_terms" = some (some (.ref f_lowest_terms)))
    (l_lowest_terms : K.lookup f_lowest_terms = some ⟨oc_lowest_terms, od_lowest_terms, .func (PySem.W.fnOf "lowest_terms" "lowest_terms" (defArgs s_lowest_terms) (defBody s_lowest_terms) (defScope s_lowest_terms) .none kV_lowest_terms dc_lowest_terms pm_lowest_terms an_lowest_terms cd_lowest_terms ct_lowest_terms), sl_lowest_terms⟩)
    (c_lowest_terms : PySem.W.codeIn K cd_lowest_terms "lowest_terms" = true)
    (k_lowest_terms : PySem.W.keepIn K (.ref f_lowest_terms) = true)
    (a_plus : PySem.W.nsIn K mainGlobals "plus" = some (some (.ref f_plus)))
    (l_plus : K.lookup f_plus = some ⟨oc_plus, od_plus, .func (PySem.W.fnOf "plus" "plus" (defArgs s_plus) (defBody s_plus) (defScope s_plus) .none kV_plus dc_plus pm_plus an_plus cd_plus ct_plus), sl_plus⟩)
    (c_plus : PySem.W.codeIn K cd_plus "plus" = true)
    (k_plus : PySem.W.keepIn K (.ref f_plus) = true)
    (a_sum_of : PySem.W.nsIn K mainGlobals "sum_of" = some (some (.ref f_sum_of)))
    (l_sum_of : K.lookup f_sum_of = some ⟨oc_sum_of, od_sum_of, .func (PySem.W.fnOf "sum_of" "sum_of" (defArgs s_sum_of) (defBody s_sum_of) (defScope s_sum_of) .none kV_sum_of dc_sum_of pm_sum_of an_sum_of cd_sum_of ct_sum_of), sl_sum_of⟩)
    (c_sum_of : PySem.W.codeIn K cd_sum_of "sum_of" = true)
    (k_sum_of : PySem.W.keepIn K (.ref f_sum_of) = true)
    (a__law_well : PySem.W.nsIn K mainGlobals "_law_well" = some (some (.ref f__law_well)))
    (l__law_well : K.lookup f__law_well = some ⟨oc__law_well, od__law_well, .func (PySem.W.fnOf "_law_well" "_law_well" (defArgs s__law_well) (defBody s__law_well) (defScope s__law_well) .none kV__law_well dc__law_well pm__law_well an__law_well cd__law_well ct__law_well), sl__law_well⟩)
    (c__law_well : PySem.W.codeIn K cd__law_well "_law_well" = true)
    (k__law_well : PySem.W.keepIn K (.ref f__law_well) = true)
    (a__law_take : PySem.W.nsIn K mainGlobals "_law_take" = some (some (.ref f__law_take)))
    (l__law_take : K.lookup f__law_take = some ⟨oc__law_take, od__law_take, .func (PySem.W.fnOf "_law_take" "_law_take" (defArgs s__law_take) (defBody s__law_take) (defScope s__law_take) .none kV__law_take dc__law_take pm__law_take an__law_take cd__law_take ct__law_take), sl__law_take⟩)
    (c__law_take : PySem.W.codeIn K cd__law_take "_law_take" = true)
    (k__law_take : PySem.W.keepIn K (.ref f__law_take) = true)
    (a__law_common : PySem.W.nsIn K mainGlobals "_law_common" = some (some (.ref f__law_common)))
    (l__law_common : K.lookup f__law_common = some ⟨oc__law_common, od__law_common, .func (PySem.W.fnOf "_law_common" "_law_common" (defArgs s__law_common) (defBody s__law_common) (defScope s__law_common) .none kV__law_common dc__law_common pm__law_common an__law_common cd__law_common ct__law_common), sl__law_common⟩)
    (c__law_common : PySem.W.codeIn K cd__law_common "_law_common" = true)
    (k__law_common : PySem.W.keepIn K (.ref f__law_common) = true)
    (a__law_num : PySem.W.nsIn K mainGlobals "_law_num" = some (some (.ref f__law_num)))
    (l__law_num : K.lookup f__law_num = some ⟨oc__law_num, od__law_num, .func (PySem.W.fnOf "_law_num" "_law_num" (defArgs s__law_num) (defBody s__law_num) (defScope s__law_num) .none kV__law_num dc__law_num pm__law_num an__law_num cd__law_num ct__law_num), sl__law_num⟩)
    (c__law_num : PySem.W.codeIn K cd__law_num "_law_num" = true)
    (k__law_num : PySem.W.keepIn K (.ref f__law_num) = true)
    (a__law_add : PySem.W.nsIn K mainGlobals "_law_add" = some (some (.ref f__law_add)))
    (l__law_add : K.lookup f__law_add = some ⟨oc__law_add, od__law_add, .func (PySem.W.fnOf "_law_add" "_law_add" (defArgs s__law_add) (defBody s__law_add) (defScope s__law_add) .none kV__law_add dc__law_add pm__law_add an__law_add cd__law_add ct__law_add), sl__law_add⟩)
    (c__law_add : PySem.W.codeIn K cd__law_add "_law_add" = true)
    (k__law_add : PySem.W.keepIn K (.ref f__law_add) = true)
    (a__law_mul : PySem.W.nsIn K mainGlobals "_law_mul" = some (some (.ref f__law_mul)))
    (l__law_mul : K.lookup f__law_mul = some ⟨oc__law_mul, od__law_mul, .func (PySem.W.fnOf "_law_mul" "_law_mul" (defArgs s__law_mul) (defBody s__law_mul) (defScope s__law_mul) .none kV__law_mul dc__law_mul pm__law_mul an__law_mul cd__law_mul ct__law_mul), sl__law_mul⟩)
    (c__law_mul : PySem.W.codeIn K cd__law_mul "_law_mul" = true)
    (k__law_mul : PySem.W.keepIn K (.ref f__law_mul) = true)
    (a__law_number : PySem.W.nsIn K mainGlobals "_law_number" = some (some (.ref f__law_number)))
    (l__law_number : K.lookup f__law_number = some ⟨oc__law_number, od__law_number, .func (PySem.W.fnOf "_law_number" "_law_number" (defArgs s__law_number) (defBody s__law_number) (defScope s__law_number) .none kV__law_number dc__law_number pm__law_number an__law_number cd__law_number ct__law_number), sl__law_number⟩)
    (c__law_number : PySem.W.codeIn K cd__law_number "_law_number" = true)
    (k__law_number : PySem.W.keepIn K (.ref f__law_number) = true)
    (a__law_whole : PySem.W.nsIn K mainGlobals "_law_whole" = some (some (.ref f__law_whole)))
    (l__law_whole : K.lookup f__law_whole = some ⟨oc__law_whole, od__law_whole, .func (PySem.W.fnOf "_law_whole" "_law_whole" (defArgs s__law_whole) (defBody s__law_whole) (defScope s__law_whole) .none kV__law_whole dc__law_whole pm__law_whole an__law_whole cd__law_whole ct__law_whole), sl__law_whole⟩)
    (c__law_whole : PySem.W.codeIn K cd__law_whole "_law_whole" = true)
    (k__law_whole : PySem.W.keepIn K (.ref f__law_whole) = true)
    (a__law_is : PySem.W.nsIn K mainGlobals "_law_is" = some (some (.ref f__law_is)))
    (l__law_is : K.lookup f__law_is = some ⟨oc__law_is, od__law_is, .func (PySem.W.fnOf "_law_is" "_law_is" (defArgs s__law_is) (defBody s__law_is) (defScope s__law_is) .none kV__law_is dc__law_is pm__law_is an__law_is cd__law_is ct__law_is), sl__law_is⟩)
    (c__law_is : PySem.W.codeIn K cd__law_is "_law_is" = true)
    (k__law_is : PySem.W.keepIn K (.ref f__law_is) = true)
    (a__law_name : PySem.W.nsIn K mainGlobals "_law_name" = some (some (.ref f__law_name)))
    (l__law_name : K.lookup f__law_name = some ⟨oc__law_name, od__law_name, .func (PySem.W.fnOf "_law_name" "_law_name" (defArgs s__law_name) (defBody s__law_name) (defScope s__law_name) .none kV__law_name dc__law_name pm__law_name an__law_name cd__law_name ct__law_name), sl__law_name⟩)
    (c__law_name : PySem.W.codeIn K cd__law_name "_law_name" = true)
    (k__law_name : PySem.W.keepIn K (.ref f__law_name) = true)
    (a__law_names : PySem.W.nsIn K mainGlobals "_law_names" = some (some (.ref f__law_names)))
    (l__law_names : K.lookup f__law_names = some ⟨oc__law_names, od__law_names, .func (PySem.W.fnOf "_law_names" "_law_names" (defArgs s__law_names) (defBody s__law_names) (defScope s__law_names) .none kV__law_names dc__law_names pm__law_names an__law_names cd__law_names ct__law_names), sl__law_names⟩)
    (c__law_names : PySem.W.codeIn K cd__law_names "_law_names" = true)
    (k__law_names : PySem.W.keepIn K (.ref f__law_names) = true)
    (a__law_is_sum : PySem.W.nsIn K mainGlobals "_law_is_sum" = some (some (.ref f__law_is_sum)))
    (l__law_is_sum : K.lookup f__law_is_sum = some ⟨oc__law_is_sum, od__law_is_sum, .func (PySem.W.fnOf "_law_is_sum" "_law_is_sum" (defArgs s__law_is_sum) (defBody s__law_is_sum) (defScope s__law_is_sum) .none kV__law_is_sum dc__law_is_sum pm__law_is_sum an__law_is_sum cd__law_is_sum ct__law_is_sum), sl__law_is_sum⟩)
    (c__law_is_sum : PySem.W.codeIn K cd__law_is_sum "_law_is_sum" = true)
    (k__law_is_sum : PySem.W.keepIn K (.ref f__law_is_sum) = true)
    (a__law_pairs : PySem.W.nsIn K mainGlobals "_law_pairs" = some (some (.ref f__law_pairs)))
    (l__law_pairs : K.lookup f__law_pairs = some ⟨oc__law_pairs, od__law_pairs, .func (PySem.W.fnOf "_law_pairs" "_law_pairs" (defArgs s__law_pairs) (defBody s__law_pairs) (defScope s__law_pairs) .none kV__law_pairs dc__law_pairs pm__law_pairs an__law_pairs cd__law_pairs ct__law_pairs), sl__law_pairs⟩)
    (c__law_pairs : PySem.W.codeIn K cd__law_pairs "_law_pairs" = true)
    (k__law_pairs : PySem.W.keepIn K (.ref f__law_pairs) = true)
    (a__law_due : PySem.W.nsIn K mainGlobals "_law_due" = some (some (.ref f__law_due)))
    (l__law_due : K.lookup f__law_due = some ⟨oc__law_due, od__law_due, .func (PySem.W.fnOf "_law_due" "_law_due" (defArgs s__law_due) (defBody s__law_due) (defScope s__law_due) .none kV__law_due dc__law_due pm__law_due an__law_due cd__law_due ct__law_due), sl__law_due⟩)
    (c__law_due : PySem.W.codeIn K cd__law_due "_law_due" = true)
    (k__law_due : PySem.W.keepIn K (.ref f__law_due) = true)
    (a_law : PySem.W.nsIn K mainGlobals "law" = some (some (.ref f_law)))
    (l_law : K.lookup f_law = some ⟨oc_law, od_law, .func (PySem.W.fnOf "law" "law" (defArgs s_law) (defBody s_law) (defScope s_law) .none kV_law dc_law pm_law an_law cd_law ct_law), sl_law⟩)
    (c_law : PySem.W.codeIn K cd_law "law" = true)
    (k_law : PySem.W.keepIn K (.ref f_law) = true)
    (ak_ZERO : PySem.W.nsIn K mainGlobals "ZERO" = some (some (.ref K_ZERO)))
    (lk_ZERO : K.lookup K_ZERO = some ⟨.type "tuple", kc_ZERO, .seq #[.int (0) ka_ZERO, .int (1) kb_ZERO] kn_ZERO, ks_ZERO⟩)
    (z_len : PySem.W.nsIn K mainGlobals "len" = some none)
    (z_isinstance : PySem.W.nsIn K mainGlobals "isinstance" = some none)
    (z_abs : PySem.W.nsIn K mainGlobals "abs" = some none)
    (z_max : PySem.W.nsIn K mainGlobals "max" = some none)
    (z_min : PySem.W.nsIn K mainGlobals "min" = some none)
    (z_int : PySem.W.nsIn K mainGlobals "int" = some none)
    (z_bool : PySem.W.nsIn K mainGlobals "bool" = some none)
    (z_str : PySem.W.nsIn K mainGlobals "str" = some none)
    (z_tuple : PySem.W.nsIn K mainGlobals "tuple" = some none)
    (z_list : PySem.W.nsIn K mainGlobals "list" = some none)
    (z_range : PySem.W.nsIn K mainGlobals "range" = some none)
    (z_sorted : PySem.W.nsIn K mainGlobals "sorted" = some none)
    (z_zip : PySem.W.nsIn K mainGlobals "zip" = some none) :
    ∃ a : Adr, Txt K mg a ∧ mg "law" = some (.ref a.f_law) ∧ ∀ (s : Shared) (v : Value), BindsTo s a.d_law ⟨[v], []⟩ [("_law_script", v)] := by
  have F_common_divisor := fund_mk (st := s_common_divisor) l_common_divisor c_common_divisor k_common_divisor
  have b_common_divisor := F_common_divisor.binds (ps := ["a", "b"]) fun _ _ _ _ _ _ us hl => match us, hl with | [_, _], _ => rfl
  have F_lowest_terms := fund_mk (st := s_lowest_terms) l_lowest_terms c_lowest_terms k_lowest_terms
  have b_lowest_terms := F_lowest_terms.binds (ps := ["top", "bottom"]) fun _ _ _ _ _ _ us hl => match us, hl with | [_, _], _ => rfl
  have F_plus := fund_mk (st := s_plus) l_plus c_plus k_plus
  have b_plus := F_plus.binds (ps := ["a", "b"]) fun _ _ _ _ _ _ us hl => match us, hl with | [_, _], _ => rfl
  have F_sum_of := fund_mk (st := s_sum_of) l_sum_of c_sum_of k_sum_of
  have b_sum_of := F_sum_of.binds (ps := ["number", "pairs"]) fun _ _ _ _ _ _ us hl => match us, hl with | [_, _], _ => rfl
  have F__law_well := fund_mk (st := s__law_well) l__law_well c__law_well k__law_well
  have b__law_well := F__law_well.binds (ps := ["_law_script", "_law_k"]) fun _ _ _ _ _ _ us hl => match us, hl with | [_, _], _ => rfl
  have F__law_take := fund_mk (st := s__law_take) l__law_take c__law_take k__law_take
  have b__law_take := F__law_take.binds (ps := ["_law_well_here", "_law_many"]) fun _ _ _ _ _ _ us hl => match us, hl with | [_, _], _ => rfl
  have F__law_common := fund_mk (st := s__law_common) l__law_common c__law_common k__law_common
  have b__law_common := F__law_common.binds (ps := ["_law_one", "_law_other"]) fun _ _ _ _ _ _ us hl => match us, hl with | [_, _], _ => rfl
  have F__law_num := fund_mk (st := s__law_num) l__law_num c__law_num k__law_num
  have b__law_num := F__law_num.binds (ps := ["_law_top", "_law_bottom"]) fun _ _ _ _ _ _ us hl => match us, hl with | [_, _], _ => rfl
  have F__law_add := fund_mk (st := s__law_add) l__law_add c__law_add k__law_add
  have b__law_add := F__law_add.binds (ps := ["_law_one", "_law_other"]) fun _ _ _ _ _ _ us hl => match us, hl with | [_, _], _ => rfl
  have F__law_mul := fund_mk (st := s__law_mul) l__law_mul c__law_mul k__law_mul
  have b__law_mul := F__law_mul.binds (ps := ["_law_one", "_law_other"]) fun _ _ _ _ _ _ us hl => match us, hl with | [_, _], _ => rfl
  have F__law_number := fund_mk (st := s__law_number) l__law_number c__law_number k__law_number
  have b__law_number := F__law_number.binds (ps := ["_law_well_here"]) fun _ _ _ _ _ _ us hl => match us, hl with | [_], _ => rfl
  have F__law_whole := fund_mk (st := s__law_whole) l__law_whole c__law_whole k__law_whole
  have b__law_whole := F__law_whole.binds (ps := ["_law_found"]) fun _ _ _ _ _ _ us hl => match us, hl with | [_], _ => rfl
  have F__law_is := fund_mk (st := s__law_is) l__law_is c__law_is k__law_is
  have b__law_is := F__law_is.binds (ps := ["_law_found", "_law_due_here"]) fun _ _ _ _ _ _ us hl => match us, hl with | [_, _], _ => rfl
  have F__law_name := fund_mk (st := s__law_name) l__law_name c__law_name k__law_name
  have b__law_name := F__law_name.binds (ps := ["_law_well_here", "_law_most"]) fun _ _ _ _ _ _ us hl => match us, hl with | [_, _], _ => rfl
  have F__law_names := fund_mk (st := s__law_names) l__law_names c__law_names k__law_names
  have b__law_names := F__law_names.binds (ps := ["_law_well_here", "_law_many"]) fun _ _ _ _ _ _ us hl => match us, hl with | [_, _], _ => rfl
  have F__law_is_sum := fund_mk (st := s__law_is_sum) l__law_is_sum c__law_is_sum k__law_is_sum
  have b__law_is_sum := F__law_is_sum.binds (ps := ["_law_found", "_law_due_here"]) fun _ _ _ _ _ _ us hl => match us, hl with | [_, _], _ => rfl
  have F__law_pairs := fund_mk (st := s__law_pairs) l__law_pairs c__law_pairs k__law_pairs
  have b__law_pairs := F__law_pairs.binds (ps := ["_law_well_here"]) fun _ _ _ _ _ _ us hl => match us, hl with | [_], _ => rfl
  have F__law_due := fund_mk (st := s__law_due) l__law_due c__law_due k__law_due
  have b__law_due := F__law_due.binds (ps := ["_law_number_here", "_law_pairs_here"]) fun _ _ _ _ _ _ us hl => match us, hl with | [_, _], _ => rfl
  have F_law := fund_mk (st := s_law) l_law c_law k_law
  have b_law := F_law.binds (ps := ["_law_script"]) fun _ _ _ _ _ _ us hl => match us, hl with | [_], _ => rfl
  refine ⟨{ f_common_divisor := f_common_divisor, d_common_divisor := PySem.W.fnOf "common_divisor" "common_divisor" (defArgs s_common_divisor) (defBody s_common_divisor) (defScope s_common_divisor) .none kV_common_divisor dc_common_divisor pm_common_divisor an_common_divisor cd_common_divisor ct_common_divisor, f_lowest_terms := f_lowest_terms, d_lowest_terms := PySem.W.fnOf "lowest_terms" "lowest_terms" (defArgs s_lowest_terms) (defBody s_lowest_terms) (defScope s_lowest_terms) .none kV_lowest_terms dc_lowest_terms pm_lowest_terms an_lowest_terms cd_lowest_terms ct_lowest_terms, f_plus := f_plus, d_plus := PySem.W.fnOf "plus" "plus" (defArgs s_plus) (defBody s_plus) (defScope s_plus) .none kV_plus dc_plus pm_plus an_plus cd_plus ct_plus, f_sum_of := f_sum_of, d_sum_of := PySem.W.fnOf "sum_of" "sum_of" (defArgs s_sum_of) (defBody s_sum_of) (defScope s_sum_of) .none kV_sum_of dc_sum_of pm_sum_of an_sum_of cd_sum_of ct_sum_of, f__law_well := f__law_well, d__law_well := PySem.W.fnOf "_law_well" "_law_well" (defArgs s__law_well) (defBody s__law_well) (defScope s__law_well) .none kV__law_well dc__law_well pm__law_well an__law_well cd__law_well ct__law_well, f__law_take := f__law_take, d__law_take := PySem.W.fnOf "_law_take" "_law_take" (defArgs s__law_take) (defBody s__law_take) (defScope s__law_take) .none kV__law_take dc__law_take pm__law_take an__law_take cd__law_take ct__law_take, f__law_common := f__law_common, d__law_common := PySem.W.fnOf "_law_common" "_law_common" (defArgs s__law_common) (defBody s__law_common) (defScope s__law_common) .none kV__law_common dc__law_common pm__law_common an__law_common cd__law_common ct__law_common, f__law_num := f__law_num, d__law_num := PySem.W.fnOf "_law_num" "_law_num" (defArgs s__law_num) (defBody s__law_num) (defScope s__law_num) .none kV__law_num dc__law_num pm__law_num an__law_num cd__law_num ct__law_num, f__law_add := f__law_add, d__law_add := PySem.W.fnOf "_law_add" "_law_add" (defArgs s__law_add) (defBody s__law_add) (defScope s__law_add) .none kV__law_add dc__law_add pm__law_add an__law_add cd__law_add ct__law_add, f__law_mul := f__law_mul, d__law_mul := PySem.W.fnOf "_law_mul" "_law_mul" (defArgs s__law_mul) (defBody s__law_mul) (defScope s__law_mul) .none kV__law_mul dc__law_mul pm__law_mul an__law_mul cd__law_mul ct__law_mul, f__law_number := f__law_number, d__law_number := PySem.W.fnOf "_law_number" "_law_number" (defArgs s__law_number) (defBody s__law_number) (defScope s__law_number) .none kV__law_number dc__law_number pm__law_number an__law_number cd__law_number ct__law_number, f__law_whole := f__law_whole, d__law_whole := PySem.W.fnOf "_law_whole" "_law_whole" (defArgs s__law_whole) (defBody s__law_whole) (defScope s__law_whole) .none kV__law_whole dc__law_whole pm__law_whole an__law_whole cd__law_whole ct__law_whole, f__law_is := f__law_is, d__law_is := PySem.W.fnOf "_law_is" "_law_is" (defArgs s__law_is) (defBody s__law_is) (defScope s__law_is) .none kV__law_is dc__law_is pm__law_is an__law_is cd__law_is ct__law_is, f__law_name := f__law_name, d__law_name := PySem.W.fnOf "_law_name" "_law_name" (defArgs s__law_name) (defBody s__law_name) (defScope s__law_name) .none kV__law_name dc__law_name pm__law_name an__law_name cd__law_name ct__law_name, f__law_names := f__law_names, d__law_names := PySem.W.fnOf "_law_names" "_law_names" (defArgs s__law_names) (defBody s__law_names) (defScope s__law_names) .none kV__law_names dc__law_names pm__law_names an__law_names cd__law_names ct__law_names, f__law_is_sum := f__law_is_sum, d__law_is_sum := PySem.W.fnOf "_law_is_sum" "_law_is_sum" (defArgs s__law_is_sum) (defBody s__law_is_sum) (defScope s__law_is_sum) .none kV__law_is_sum dc__law_is_sum pm__law_is_sum an__law_is_sum cd__law_is_sum ct__law_is_sum, f__law_pairs := f__law_pairs, d__law_pairs := PySem.W.fnOf "_law_pairs" "_law_pairs" (defArgs s__law_pairs) (defBody s__law_pairs) (defScope s__law_pairs) .none kV__law_pairs dc__law_pairs pm__law_pairs an__law_pairs cd__law_pairs ct__law_pairs, f__law_due := f__law_due, d__law_due := PySem.W.fnOf "_law_due" "_law_due" (defArgs s__law_due) (defBody s__law_due) (defScope s__law_due) .none kV__law_due dc__law_due pm__law_due an__law_due cd__law_due ct__law_due, f_law := f_law, d_law := PySem.W.fnOf "law" "law" (defArgs s_law) (defBody s_law) (defScope s_law) .none kV_law dc_law pm_law an_law cd_law ct_law, K_ZERO := K_ZERO }, ?_, PySem.W.mg_of X G a_law, fun s v => .of_eq rfl⟩
  exact {
    mg_common_divisor := PySem.W.mg_of X G a_common_divisor
    fun_common_divisor := F_common_divisor
    kp_common_divisor := k_common_divisor
    bn_common_divisor := b_common_divisor
    mg_lowest_terms := PySem.W.mg_of X G a_lowest_terms
    fun_lowest_terms := F_lowest_terms
    kp_lowest_terms := k_lowest_terms
    bn_lowest_terms := b_lowest_terms
    mg_plus := PySem.W.mg_of X G a_plus
    fun_plus := F_plus
    kp_plus := k_plus
    bn_plus := b_plus
    mg_sum_of := PySem.W.mg_of X G a_sum_of
    fun_sum_of := F_sum_of
    kp_sum_of := k_sum_of
    bn_sum_of := b_sum_of
    mg__law_well := PySem.W.mg_of X G a__law_well
    fun__law_well := F__law_well
    kp__law_well := k__law_well
    bn__law_well := b__law_well
    mg__law_take := PySem.W.mg_of X G a__law_take
    fun__law_take := F__law_take
    kp__law_take := k__law_take
    bn__law_take := b__law_take
    mg__law_common := PySem.W.mg_of X G a__law_common
    fun__law_common := F__law_common
    kp__law_common := k__law_common
    bn__law_common := b__law_common
    mg__law_num := PySem.W.mg_of X G a__law_num
    fun__law_num := F__law_num
    kp__law_num := k__law_num
    bn__law_num := b__law_num
    mg__law_add := PySem.W.mg_of X G a__law_add
    fun__law_add := F__law_add
    kp__law_add := k__law_add
    bn__law_add := b__law_add
    mg__law_mul := PySem.W.mg_of X G a__law_mul
    fun__law_mul := F__law_mul
    kp__law_mul := k__law_mul
    bn__law_mul := b__law_mul
    mg__law_number := PySem.W.mg_of X G a__law_number
    fun__law_number := F__law_number
    kp__law_number := k__law_number
    bn__law_number := b__law_number
    mg__law_whole := PySem.W.mg_of X G a__law_whole
    fun__law_whole := F__law_whole
    kp__law_whole := k__law_whole
    bn__law_whole := b__law_whole
    mg__law_is := PySem.W.mg_of X G a__law_is
    fun__law_is := F__law_is
    kp__law_is := k__law_is
    bn__law_is := b__law_is
    mg__law_name := PySem.W.mg_of X G a__law_name
    fun__law_name := F__law_name
    kp__law_name := k__law_name
    bn__law_name := b__law_name
    mg__law_names := PySem.W.mg_of X G a__law_names
    fun__law_names := F__law_names
    kp__law_names := k__law_names
    bn__law_names := b__law_names
    mg__law_is_sum := PySem.W.mg_of X G a__law_is_sum
    fun__law_is_sum := F__law_is_sum
    kp__law_is_sum := k__law_is_sum
    bn__law_is_sum := b__law_is_sum
    mg__law_pairs := PySem.W.mg_of X G a__law_pairs
    fun__law_pairs := F__law_pairs
    kp__law_pairs := k__law_pairs
    bn__law_pairs := b__law_pairs
    mg__law_due := PySem.W.mg_of X G a__law_due
    fun__law_due := F__law_due
    kp__law_due := k__law_due
    bn__law_due := b__law_due
    mg_law := PySem.W.mg_of X G a_law
    fun_law := F_law
    kp_law := k_law
    bn_law := b_law
    b_len := PySem.W.mg_none_of X G z_len
    b_isinstance := PySem.W.mg_none_of X G z_isinstance
    b_abs := PySem.W.mg_none_of X G z_abs
    b_max := PySem.W.mg_none_of X G z_max
    b_min := PySem.W.mg_none_of X G z_min
    b_int := PySem.W.mg_none_of X G z_int
    b_bool := PySem.W.mg_none_of X G z_bool
    b_str := PySem.W.mg_none_of X G z_str
    b_tuple := PySem.W.mg_none_of X G z_tuple
    b_list := PySem.W.mg_none_of X G z_list
    b_range := PySem.W.mg_none_of X G z_range
    b_sorted := PySem.W.mg_none_of X G z_sorted
    b_zip := PySem.W.mg_none_of X G z_zip
    mg_ZERO := PySem.W.mg_of X G ak_ZERO
    z_ZERO := fun H => .inr ⟨_, _, _, lk_ZERO, rfl, rfl, (show 2 ≤ sizeLine by decide), .cons ⟨_, rfl⟩ (.cons ⟨_, rfl⟩ .nil)⟩ }
theorem walk {l : PySem.W.OpenLaw} {q : Program} {loose : List Str} {XP : (Str → Option Value) → Heap → Prop} {YP : World → Heap → Prop} {d : DefRec} {K : Params → PySem.W.Frag} (hn : l.most = some 63) (hdf : d.params.defaults = [])
    (hY : ∀ (w : World) (h : Heap), YP w h → (K w.params).In h) (dn : d.name = "law")
    (F : ∀ (w : World) (mg : Str → Option Value) (h : Heap), (K w.params).In h → h.Ns mainGlobals mg → ∃ a : Adr, Txt (K w.params) mg a ∧ mg "law" = some (.ref a.f_law) ∧ ∀ (s : Shared) (v : Value), BindsTo s a.d_law ⟨[v], []⟩ [("_law_script", v)]) :
    PySem.W.WalkO q loose XP YP l.row.toRowW d [] (fun f vs => PySem.call f vs) := by
  refine L2.walk_of (n := 63) (k := 6) (x := "_law_script") (CX := fun w => CXE l.prog w) (sp := fun w => sp_law (K w.params)) hn (by decide) hdf ⟨rfl, by decide, by decide⟩ hY (fun w mg fa h KX G hfa => ?_) (fun _ _ a ns hl _ hS => ⟨a, ns, rfl, hS, hl, fun _ => rfl⟩) (fun w H s e s' z => by obtain ⟨_, _, _, _, _, y⟩ := z; exact y)
  obtain ⟨a, T, e, hb⟩ := F w mg h KX G
  rw [dn] at hfa
  have z := hfa.symm.trans e
  cases z
  exact ⟨a.d_law, hb, fun base _ _ => ok_law T⟩

end W
open PySem PySem.W PyProof.Rows
set_option maxRecDepth 100000 in
set_option maxHeartbeats 0 in
theorem PySem.Challenge.cw_fitwhatever_k04_sums_made_holds : PySem.Challenge.rw_fitwhatever_k04_sums_made.Holds := by
  w_on; o_law; k_head; (case hw => w_witness2)
  k_fill
  refine W.walk (l := PySem.Challenge.rw_fitwhatever_k04_sums_made) rfl rfl (fun w h Y => PySem.W.kIn_of Y) rfl ?F
  case F =>
    intro w mg h KX G
    refine' W.txt_mk KX G ?a_common_divisor ?l_common_divisor ?c_common_divisor ?k_common_divisor ?a_lowest_terms ?l_lowest_terms ?c_lowest_terms ?k_lowest_terms ?a_plus ?l_plus ?c_plus ?k_plus ?a_sum_of ?l_sum_of ?c_sum_of ?k_sum_of ?a__law_well ?l__law_well ?c__law_well ?k__law_well ?a__law_take ?l__law_take ?c__law_take ?k__law_take ?a__law_common ?l__law_common ?c__law_common ?k__law_common ?a__law_num ?l__law_num ?c__law_num ?k__law_num ?a__law_add ?l__law_add ?c__law_add ?k__law_add ?a__law_mul ?l__law_mul ?c__law_mul ?k__law_mul ?a__law_number ?l__law_number ?c__law_number ?k__law_number ?a__law_whole ?l__law_whole ?c__law_whole ?k__law_whole ?a__law_is ?l__law_is ?c__law_is ?k__law_is ?a__law_name ?l__law_name ?c__law_name ?k__law_name ?a__law_names ?l__law_names ?c__law_names ?k__law_names ?a__law_is_sum ?l__law_is_sum ?c__law_is_sum ?k__law_is_sum ?a__law_pairs ?l__law_pairs ?c__law_pairs ?k__law_pairs ?a__law_due ?l__law_due ?c__law_due ?k__law_due ?a_law ?l_law ?c_law ?k_law ?ak_ZERO ?lk_ZERO ?z_len ?z_isinstance ?z_abs ?z_max ?z_min ?z_int ?z_bool ?z_str ?z_tuple ?z_list ?z_range ?z_sorted ?z_zip
    (case a_common_divisor => k_is)
    (case l_common_divisor => k_is)
    (case c_common_divisor => k_is)
    (case k_common_divisor => k_is)
    (case a_lowest_terms => k_is)
    (case l_lowest_terms => k_is)
    (case c_lowest_terms => k_is)
    (case k_lowest_terms => k_is)
    (case a_plus => k_is)
    (case l_plus => k_is)
    (case c_plus => k_is)
    (case k_plus => k_is)
    (case a_sum_of => k_is)
    (case l_sum_of => k_is)
    (case c_sum_of => k_is)
    (case k_sum_of => k_is)
    (case a__law_well => k_is)
    (case l__law_well => k_is)
    (case c__law_well => k_is)
    (case k__law_well => k_is)
    (case a__law_take => k_is)
    (case l__law_take => k_is)
    (case c__law_take => k_is)
    (case k__law_take => k_is)
    (case a__law_common => k_is)
    (case l__law_common => k_is)
    (case c__law_common => k_is)
    (case k__law_common => k_is)
    (case a__law_num => k_is)
    (case l__law_num => k_is)
    (case c__law_num => k_is)
    (case k__law_num => k_is)
    (case a__law_add => k_is)
    (case l__law_add => k_is)
    (case c__law_add => k_is)
    (case k__law_add => k_is)
    (case a__law_mul => k_is)
    (case l__law_mul => k_is)
    (case c__law_mul => k_is)
    (case k__law_mul => k_is)
    (case a__law_number => k_is)
    (case l__law_number => k_is)
    (case c__law_number => k_is)
    (case k__law_number => k_is)
    (case a__law_whole => k_is)
    (case l__law_whole => k_is)
    (case c__law_whole => k_is)
    (case k__law_whole => k_is)
    (case a__law_is => k_is)
    (case l__law_is => k_is)
    (case c__law_is => k_is)
    (case k__law_is => k_is)
    (case a__law_name => k_is)
    (case l__law_name => k_is)
    (case c__law_name => k_is)
    (case k__law_name => k_is)
    (case a__law_names => k_is)
    (case l__law_names => k_is)
    (case c__law_names => k_is)
    (case k__law_names => k_is)
    (case a__law_is_sum => k_is)
    (case l__law_is_sum => k_is)
    (case c__law_is_sum => k_is)
    (case k__law_is_sum => k_is)
    (case a__law_pairs => k_is)
    (case l__law_pairs => k_is)
    (case c__law_pairs => k_is)
    (case k__law_pairs => k_is)
    (case a__law_due => k_is)
    (case l__law_due => k_is)
    (case c__law_due => k_is)
    (case k__law_due => k_is)
    (case a_law => k_is)
    (case l_law => k_is)
    (case c_law => k_is)
    (case k_law => k_is)
    (case ak_ZERO => k_is)
    (case lk_ZERO => k_is)
    (case z_len => k_is)
    (case z_isinstance => k_is)
    (case z_abs => k_is)
    (case z_max => k_is)
    (case z_min => k_is)
    (case z_int => k_is)
    (case z_bool => k_is)
    (case z_str => k_is)
    (case z_tuple => k_is)
    (case z_list => k_is)
    (case z_range => k_is)
    (case z_sorted => k_is)
    (case z_zip => k_is)
#print axioms PySem.Challenge.cw_fitwhatever_k04_sums_made_holds
