import PyProof.Rows.All
import Wide.All
import OpenK.AllK
import Wide.FinOn
import Lean
import PyProof.EqAt
import PyProof.EqKinds
import PyProof.TupleCall
import PySem.Challenge.RW_paperwright_k28_division_by_a_prime
set_option Elab.async false
set_option linter.all false
set_option maxRecDepth 100000
/-! THE HAND LAYER, for ints, bools, texts, own classes, LISTS and tuples (index, slices, in, append, pop ..), calls, loops. Paste it whole ahead of your own text; what your proof does not reach may be deleted. -/
namespace L2
open PySem PySem.Spec PyProof.Rows

/-- a key: an int or a str -/
abbrev Key := Sum Int Str
def keyIs : Key → Value → Bool
  | .inl k, v => Value.isInt k v
  | .inr x, v => Value.isStrOf x v
def keyH (w : World) : Key → Int
  | .inl k => hashInt k
  | .inr x => hashStr w x
theorem keyIs_shape : ∀ {k : Key} {v : Value}, keyIs k v = true → (∃ i t, k = Sum.inl i ∧ v = Value.int i t) ∨ (∃ x t, k = Sum.inr x ∧ v = Value.str x t)
  | .inl i, v, h => by
    obtain ⟨t, e⟩ := Value.isInt_shape (k := i) (v := v) h
    exact .inl ⟨i, t, rfl, e⟩
  | .inr x, v, h => by
    obtain ⟨t, e⟩ := Value.isStrOf_shape (x := x) (v := v) h
    exact .inr ⟨x, t, rfl, e⟩
theorem keyIs_int (i : Int) (t : Tok) : keyIs (.inl i) (.int i t) = true := by simp [keyIs, Value.isInt]
theorem keyIs_str (x : Str) (t : Tok) : keyIs (.inr x) (.str x t) = true := by simp [keyIs, Value.isStrOf]
theorem key_ll (a b : Int) : decide ((Sum.inl a : Key) = Sum.inl b) = (a == b) := by
  by_cases e : a = b
  · subst e; simp
  · have h : ¬ (Sum.inl a : Key) = Sum.inl b := fun q => e (Sum.inl.inj q)
    rw [decide_eq_false h]
    exact (beq_eq_false_iff_ne.mpr e).symm
theorem key_rr (a b : Str) : decide ((Sum.inr a : Key) = Sum.inr b) = decide (a = b) := by
  by_cases e : a = b
  · subst e; simp
  · have h : ¬ (Sum.inr a : Key) = Sum.inr b := fun q => e (Sum.inr.inj q)
    rw [decide_eq_false h, decide_eq_false e]
theorem key_lr (a : Int) (b : Str) : decide ((Sum.inl a : Key) = Sum.inr b) = false := decide_eq_false (fun q => nomatch q)
theorem key_rl (a : Str) (b : Int) : decide ((Sum.inr a : Key) = Sum.inl b) = false := decide_eq_false (fun q => nomatch q)

def mixKind (prog : Program) (w : World) : PySem.KeyKind prog w Key where
  is := keyIs
  hash := keyH w
  inj := fun v a b ha hb => by
    rcases keyIs_shape ha with ⟨i, t, rfl, rfl⟩ | ⟨x, t, rfl, rfl⟩
    · rcases keyIs_shape hb with ⟨j, u, rfl, e⟩ | ⟨y, u, rfl, e⟩
      · injection e with e1 _; rw [e1]
      · exact nomatch e
    · rcases keyIs_shape hb with ⟨j, u, rfl, e⟩ | ⟨y, u, rfl, e⟩
      · exact nomatch e
      · injection e with e1 _; rw [e1]
  byValue := fun k v h => by
    rcases keyIs_shape h with ⟨i, t, rfl, rfl⟩ | ⟨x, t, rfl, rfl⟩ <;> rfl
  pyHash := fun hv h => by
    rcases keyIs_shape hv with ⟨i, t, rfl, rfl⟩ | ⟨x, t, rfl, rfl⟩
    · exact wpAny_pyHash_int h
    · exact wpAny_pyHash_str h
  eqBool := fun hu hv h => by
    rcases keyIs_shape hu with ⟨i, t, rfl, rfl⟩ | ⟨x, t, rfl, rfl⟩
    · rcases keyIs_shape hv with ⟨j, u, rfl, rfl⟩ | ⟨y, u, rfl, rfl⟩
      · rw [key_ll] at h; exact wpAny_eqBool_int h
      · rw [key_lr] at h; exact SeqAt.EqAt.int_str i t y u _ _ _ _ h
    · rcases keyIs_shape hv with ⟨j, u, rfl, rfl⟩ | ⟨y, u, rfl, rfl⟩
      · rw [key_rl] at h; exact SeqAt.EqAt.str_int x t j u _ _ _ _ h
      · rw [key_rr] at h; exact wpAny_eqBool_str h
  «strs» := fun k x t v h => by
    rcases keyIs_shape h with ⟨i, u, rfl, e⟩ | ⟨y, u, rfl, e⟩
    · exact nomatch e
    · injection e with e1 _
      subst e1
      cases v <;> rfl

theorem mixKind_is (prog : Program) (w : World) (k : Key) (v : Value) : (mixKind prog w).is k v = keyIs k v := rfl
theorem mixKind_int (prog : Program) (w : World) (i : Int) (t : Tok) : (mixKind prog w).is (.inl i) (.int i t) = true := keyIs_int i t
theorem mixKind_str (prog : Program) (w : World) (x : Str) (t : Tok) : (mixKind prog w).is (.inr x) (.str x t) = true := keyIs_str x t
end L2

namespace L2
open PySem PySem.Spec PyProof.Rows

/-- a value, without the heap -/
inductive V where
  | non | bl (b : Bool) | int (i : Int) | str (x : Str) | byt (b : Array UInt8) | flt (b : UInt64) | ref (a : Addr) | ty (n : String)
  deriving DecidableEq

def RelV : V → Value → Prop
  | .non, u => u = Value.none
  | .bl b, u => u = Value.bool b
  | .int i, u => ∃ t, u = Value.int i t
  | .str x, u => ∃ t, u = Value.str x t
  | .byt b, u => ∃ t, u = Value.bytes b t
  | .flt b, u => ∃ t, u = Value.float b t
  | .ref a, u => u = Value.ref a
  | .ty n, u => u = Value.type n

abbrev Vals : List V → List Value → Prop := Paired RelV
theorem Vals.length {xs : List V} {us : List Value} (r : Vals xs us) : xs.length = us.length := Paired.length r
theorem Vals.get : ∀ {xs : List V} {us : List Value} {i : Nat} {x : V}, Vals xs us → xs[i]? = some x → ∃ u, us[i]? = some u ∧ RelV x u
  | _, _, _, _, .nil, e => by simp at e
  | _, _, 0, _, .cons r _, e => by simp at e; subst e; exact ⟨_, rfl, r⟩
  | _, _, i + 1, x, .cons _ t, e => by
    obtain ⟨u, h1, h2⟩ := Vals.get (i := i) (x := x) t (by simpa using e)
    exact ⟨u, by simpa using h1, h2⟩
theorem Vals.set {x : V} {u : Value} (r : RelV x u) : ∀ {xs : List V} {us : List Value} (i : Nat), Vals xs us → Vals (xs.set i x) (us.set i u)
  | _, _, _, .nil => .nil
  | _, _, 0, .cons _ t => .cons r t
  | _, _, i + 1, .cons q t => .cons q (Vals.set r i t)
theorem Vals.append : ∀ {xs ys : List V} {us ws : List Value}, Vals xs us → Vals ys ws → Vals (xs ++ ys) (us ++ ws)
  | _, _, _, _, .nil, s => s
  | _, _, _, _, .cons r t, s => .cons r (Vals.append t s)
theorem Vals.take : ∀ {xs : List V} {us : List Value} (n : Nat), Vals xs us → Vals (xs.take n) (us.take n)
  | _, _, 0, _ => .nil
  | _, _, _ + 1, .nil => .nil
  | _, _, n + 1, .cons r t => .cons r (Vals.take n t)
theorem Vals.drop : ∀ {xs : List V} {us : List Value} (n : Nat), Vals xs us → Vals (xs.drop n) (us.drop n)
  | _, _, 0, r => r
  | _, _, _ + 1, .nil => .nil
  | _, _, n + 1, .cons _ t => Vals.drop n t
theorem Vals.none_of : ∀ {xs : List V} {us : List Value} {i : Nat}, Vals xs us → xs[i]? = none → us[i]? = none := fun {xs us i} r e => by
  have h1 := r.length
  have h2 : xs.length ≤ i := List.getElem?_eq_none_iff.mp e
  exact List.getElem?_eq_none_iff.mpr (by omega)

def RelO : Option V → Option Value → Prop
  | some v, some u => RelV v u
  | none, none => True
  | _, _ => False
def KV {κ : Type} : List (κ × V) → List (κ × Value) → Prop := Paired fun (p : κ × V) (q : κ × Value) => p.1 = q.1 ∧ RelV p.2 q.2

/-- a key of a dict (00_mix): an int or a text -/
def kV : Key → V
  | .inl i => .int i
  | .inr x => .str x

/-- what stands at a tracked address -/
inductive HO where
  /-- a list -/
  | lst (xs : List V)
  /-- a tuple (never changes) -/
  | tup (xs : List V)
  /-- a dict whose keys are ints and texts; one whose keys are tuples of ints and texts (the empty one is both) -/
  | dK (kvs : List (Key × V)) | dT (kvs : List (List Key × V))
  /-- a set of ints: its members, its size -/
  | set (S : Int → Bool) (n : Nat)
  /-- an instance of the class at C, its dict at dx, its attributes -/
  | ins (C dx : Addr) (fs : List (Str × V))
  /-- the dict of the instance at x -/
  | own (x : Addr)
  /-- the dict of an exception -/
  | xd (fs : List (Str × V))
  /-- a bound method, f of x -/
  | met (f x : Addr)
  /-- a range object lo, lo + 1, .. below hi -/
  | rng (lo hi : Int)
  /-- a thing that is known to the object (the script; a dict while a loop walks it): read, never written while it is so -/
  | frz (o : Obj) (u : HO)
  /-- a code object's table -/
  | tbl (ps : Array Value)
  /-- any other thing, by what is true of its one object (a def of one's own: SetO a S n := HO.ext fun h => ..) -/
  | ext (φ : Heap → Prop)

abbrev Hp := Addr → Option HO
def upd (H : Hp) (a : Addr) (o : HO) : Hp := fun b => if b = a then some o else H b
theorem upd_same {H : Hp} {a : Addr} {o : HO} : upd H a o a = some o := by unfold upd; rw [if_pos rfl]
theorem upd_ne {H : Hp} {a b : Addr} {o : HO} (h : b ≠ a) : upd H a o b = H b := by unfold upd; rw [if_neg h]
theorem upd_upd {H : Hp} {a : Addr} {o u : HO} : upd (upd H a o) a u = upd H a u := by
  funext b; unfold upd; split <;> rfl
/-- two objects of different content stand apart -/
theorem ne_of {H : Hp} {a b : Addr} {o u : HO} (h : H a = some o) (h' : H b = some u) (d : o ≠ u) : a ≠ b := by
  intro e; subst e; rw [h] at h'; exact d (Option.some.inj h')
theorem ne_of_none {H : Hp} {a b : Addr} {o : HO} (h : H a = some o) (h' : H b = none) : a ≠ b := by
  intro e; subst e; rw [h] at h'; cases h'

section
variable (P : Program) (w : World)
def ObjOk (H : Hp) (h : Heap) (a : Addr) : HO → Prop
  | .lst xs => xs.length ≤ sizeLine ∧ ∃ (its : List Value) (n : Nat), Vals xs its ∧ h.get? a = some { cls := .type "list", data := .seq its.toArray n }
  | .tup xs => xs.length ≤ sizeLine ∧ ∃ its : List Value, Vals xs its ∧ IsTup h a its.toArray
  | .dK kvs => kvs.length ≤ sizeLine ∧ (a == sysModules) = false ∧ ∃ vs, KV kvs vs ∧ h.DictOf (mixKind P w) a vs
  | .dT kvs => kvs.length ≤ sizeLine ∧ (a == sysModules) = false ∧ ∃ xs : List (List Key × Addr × Value),
      Paired (fun (p : List Key × V) (q : List Key × Addr × Value) => p.1 = q.1 ∧ H q.2.1 = some (.tup (p.1.map kV)) ∧ RelV p.2 q.2.2) kvs xs ∧
      ∃ o es ep, h.get? a = some o ∧ o.ExactDict ∧ o.data = .dict es ep ∧ es.toList = xs.map (entryOfKey (tupleKind (mixKind P w))) ∧ (xs.map (·.1)).Nodup
  | .set S n => h.SetOf (intKind P w) a S n
  | .ins C dx fs => H dx = some (.own a) ∧ fs.length ≤ 1000 ∧ dx ≠ a ∧ h.get? a = some (PySem.W.instObj C dx) ∧
      ∃ mA, h.Ns1 dx mA ∧ (∀ f, RelO (fs.lookup f) (mA f)) ∧ PySem.Within mA (fs.map (·.1))
  | .own _ => ∃ o, h.get? a = some o
  | .xd fs => ∃ mA, h.Ns1 a mA ∧ ∀ f, RelO (fs.lookup f) (mA f)
  | .rng lo hi => ∃ t u v, h.get? a = some { cls := .type "range", data := .fields #[.int lo t, .int hi u, .int 1 v] }
  | .frz o u => h.get? a = some o ∧ ObjOk H h a u
  | .tbl ps => h.get? a = some { cls := .none, data := .fields ps }
  | .met f x => h.get? a = some (PySem.W.methodObj (.ref f) (.ref x))
  | .ext φ => φ h ∧ (∃ o, h.get? a = some o) ∧ ∀ h1 h2 : Heap, φ h1 → (∀ o, h1.get? a = some o → h2.get? a = some o) → φ h2
/-- the abstract heap is held -/
def HOk (H : Hp) (h : Heap) : Prop := ∀ a o, H a = some o → ObjOk P w H h a o
end

section
variable {P : Program} {w : World} {H H' : Hp} {h h' : Heap} {a : Addr} {o : HO}
theorem ObjOk.lt (x : ObjOk P w H h a o) : a < h.objs.size := by
  cases o with
  | lst xs => obtain ⟨_, _, _, _, e⟩ := x; exact Heap.lt_size e
  | tup xs => obtain ⟨_, _, _, p⟩ := x; exact p.lt
  | dK kvs => obtain ⟨_, _, _, _, o, _, _, e, _⟩ := x; exact Heap.lt_size e
  | dT kvs => obtain ⟨_, _, _, _, o, _, _, e, _⟩ := x; exact Heap.lt_size e
  | set S n => obtain ⟨o, _, _, _, e, _⟩ := x; exact Heap.lt_size e
  | ins C dx fs => obtain ⟨_, _, _, e, _⟩ := x; exact Heap.lt_size e
  | own y => obtain ⟨_, e⟩ := x; exact Heap.lt_size e
  | xd fs => obtain ⟨_, ⟨_, _, _, e, _⟩, _⟩ := x; exact Heap.lt_size e
  | rng lo hi => obtain ⟨_, _, _, e⟩ := x; exact Heap.lt_size e
  | frz ob u => obtain ⟨e, _⟩ := x; exact Heap.lt_size e
  | tbl ps => exact Heap.lt_size (show h.get? a = some _ from x)
  | met f y => exact Heap.lt_size (show h.get? a = some _ from x)
  | ext φ => obtain ⟨_, ⟨_, e⟩, _⟩ := x; exact Heap.lt_size e
theorem Paired.mapP {α β : Type} {F G : α → β → Prop} : ∀ {l₁ : List α} {l₂ : List β}, Paired F l₁ l₂ → (∀ a b, F a b → G a b) → Paired G l₁ l₂
  | _, _, .nil, _ => .nil
  | _, _, .cons r t, f => .cons (f _ _ r) (Paired.mapP t f)
theorem Paired.imp' {α β : Type} {F G : α → β → Prop} (f : ∀ a b, F a b → G a b) {l₁ : List α} {l₂ : List β} (r : Paired F l₁ l₂) : Paired G l₁ l₂ := Paired.mapP r f
/-- what an object's description leans on: its own object, its own dict, the tuples -/
theorem ObjOk.stay (x : ObjOk P w H h a o) (k : ∀ b u, (b = a ∨ H b = some (.own a)) → h.get? b = some u → h'.get? b = some u)
    (ho : ∀ b, H b = some (.own a) → H' b = some (.own a)) (ht : ∀ b xs, H b = some (.tup xs) → H' b = some (.tup xs)) : ObjOk P w H' h' a o := by
  induction o with
  | lst xs => obtain ⟨z, its, n, r, e⟩ := x; exact ⟨z, its, n, r, k _ _ (.inl rfl) e⟩
  | tup xs => obtain ⟨z, its, r, ob, e, c⟩ := x; exact ⟨z, its, r, ob, k _ _ (.inl rfl) e, c⟩
  | dK kvs => obtain ⟨z, y, vs, r, ob, es, ep, e, c⟩ := x; exact ⟨z, y, vs, r, ob, es, ep, k _ _ (.inl rfl) e, c⟩
  | dT kvs =>
    obtain ⟨z, y, xs, r, ob, es, ep, e, c⟩ := x
    exact ⟨z, y, xs, Paired.mapP r fun p q z => ⟨z.1, ht _ _ z.2.1, z.2.2⟩, ob, es, ep, k _ _ (.inl rfl) e, c⟩
  | set S n => obtain ⟨ob, es, ep, t, e, c⟩ := x; exact ⟨ob, es, ep, t, k _ _ (.inl rfl) e, c⟩
  | ins C dx fs =>
    obtain ⟨d, z, ne, e, mA, ⟨od, es, ep, e2, c⟩, r⟩ := x
    exact ⟨ho _ d, z, ne, k _ _ (.inl rfl) e, mA, ⟨od, es, ep, k _ _ (.inr d) e2, c⟩, r⟩
  | own y => obtain ⟨ob, e⟩ := x; exact ⟨ob, k _ _ (.inl rfl) e⟩
  | xd fs => obtain ⟨mA, ⟨od, es, ep, e, c⟩, r⟩ := x; exact ⟨mA, ⟨od, es, ep, k _ _ (.inl rfl) e, c⟩, r⟩
  | rng lo hi => obtain ⟨t, u, v, e⟩ := x; exact ⟨t, u, v, k _ _ (.inl rfl) e⟩
  | frz ob u ih => obtain ⟨e, q⟩ := x; exact ⟨k _ _ (.inl rfl) e, ih q⟩
  | tbl ps =>
    have e : h.get? a = some { cls := .none, data := .fields ps } := x
    show h'.get? a = some { cls := .none, data := .fields ps }
    exact k a _ (.inl rfl) e
  | met f y =>
    have e : h.get? a = some (PySem.W.methodObj (.ref f) (.ref y)) := x
    show h'.get? a = some (PySem.W.methodObj (.ref f) (.ref y))
    exact k a _ (.inl rfl) e
  | ext φ => obtain ⟨p, ⟨o, e⟩, st⟩ := x; exact ⟨st _ _ p fun o q => k _ _ (.inl rfl) q, ⟨o, k _ _ (.inl rfl) e⟩, st⟩
theorem HOk.lt (x : HOk P w H h) (e : H a = some o) : a < h.objs.size := (x a o e).lt
theorem HOk.fresh (x : HOk P w H h) (e : h.objs.size ≤ a) : H a = none := by
  cases q : H a with
  | none => rfl
  | some u => exact absurd (Nat.lt_of_lt_of_le (x.lt q) e) (Nat.lt_irrefl _)
/-- every object of the heap is kept -/
theorem HOk.kept (x : HOk P w H h) (k : ∀ b u, h.get? b = some u → h'.get? b = some u) : HOk P w H h' := fun a o e =>
  (x a o e).stay (fun b u _ q => k b u q) (fun _ q => q) fun _ _ q => q
/-- a new object is laid and tracked -/
theorem HOk.laid (x : HOk P w H h) (k : ∀ b u, h.get? b = some u → h'.get? b = some u) (hp : h.objs.size ≤ a) (new : ObjOk P w (upd H a o) h' a o) : HOk P w (upd H a o) h' := fun b u e => by
  have hn := x.fresh hp
  by_cases hb : b = a
  · subst hb; rw [upd_same] at e; cases e; exact new
  · rw [upd_ne hb] at e
    exact (x b u e).stay (fun c v _ q => k c v q) (fun c q => by rw [upd_ne (ne_of_none q hn)]; exact q) fun c xs q => by rw [upd_ne (ne_of_none q hn)]; exact q
end

/-- what may be read as u: it is u, or a known u -/
def Rd (H : Hp) (a : Addr) (u : HO) : Prop := H a = some u ∨ ∃ o, H a = some (.frz o u)
theorem Rd.of {H : Hp} {a : Addr} {u : HO} (h : H a = some u) : Rd H a u := .inl h
theorem Rd.ok {P : Program} {w : World} {H : Hp} {h : Heap} {a : Addr} {u : HO} (r : Rd H a u) (x : HOk P w H h) : ObjOk P w H h a u := by
  rcases r with r | ⟨o, r⟩
  · exact x a u r
  · obtain ⟨_, q⟩ := x a _ r
    exact q
/-- what may be written -/
def Mut : Option HO → Prop
  | some (.lst _) => True
  | some (.dK _) => True
  | some (.dT _) => True
  | some (.set _ _) => True
  | some (.ins _ _ _) => True
  | some (.ext _) => True
  | _ => False
section
variable {P : Program} {w : World} {H : Hp} {h h' : Heap} {x e : Addr} {o' : HO}
/-- the object at e is changed: x itself, or the dict of the instance x -/
theorem HOk.write (ok : HOk P w H h) (mu : Mut (H x)) (he : e = x ∨ H e = some (.own x)) (k : ∀ b u, b ≠ e → h.get? b = some u → h'.get? b = some u) (heo : ∃ u, h'.get? e = some u)
    (new : ObjOk P w (upd H x o') h' x o') : HOk P w (upd H x o') h' := fun b u q => by
  have nown : ∀ c y, H c = some (.own y) → c ≠ x := fun c y r z => by subst z; rw [r] at mu; exact mu
  have ntup : ∀ c xs, H c = some (.tup xs) → c ≠ x := fun c xs r z => by subst z; rw [r] at mu; exact mu
  by_cases hb : b = x
  · subst hb; rw [upd_same] at q; cases q; exact new
  · rw [upd_ne hb] at q
    by_cases hbe : b = e
    · have q' : H b = some (.own x) := by
        rcases he with z | z
        · exact absurd (hbe.trans z) hb
        · rw [hbe]; exact z
      rw [q] at q'; cases q'
      obtain ⟨v, hv⟩ := heo
      exact ⟨v, by rw [hbe]; exact hv⟩
    · refine (ok b u q).stay (fun c v hc r => k c v ?_ r) (fun c r => by rw [upd_ne (nown c b r)]; exact r) fun c xs r => by rw [upd_ne (ntup c xs r)]; exact r
      rcases hc with rfl | hc
      · exact hbe
      · rintro rfl
        rcases he with z | z
        · exact nown c b hc z
        · rw [hc] at z; cases z; exact hb rfl
end

/-! ### kept unless tracked; of the frames at fs (the callers') the slots may change (an exception that passes writes there); of the records at ex (iterators) nothing is said -/
structure Un (fs ex : List Addr) (H H' : Hp) (h h' : Heap) : Prop where
  keep : ∀ b o, h.get? b = some o → H b = none → b ∉ fs → b ∉ ex → h'.get? b = some o
  slot : ∀ b o, h.get? b = some o → H b = none → b ∈ fs → b ∉ ex → ∃ sl, h'.get? b = some { o with slots := sl }
  free : ∀ b o, h.get? b = some o → H b = none → b ∉ ex → H' b = none
  there : ∀ b o, h.get? b = some o → b ∉ ex → ∃ o', h'.get? b = some o'
  tups : ∀ b xs, H b = some (.tup xs) → H' b = some (.tup xs)
  frzs : ∀ b o u, H b = some (.frz o u) → H' b = some (.frz o u)
  tbls : ∀ b ps, H b = some (.tbl ps) → ∃ more, H' b = some (.tbl (ps ++ more))
section
variable {fs fs' ex ex' : List Addr} {H H1 H2 : Hp} {h h1 h2 h' : Heap} {a x e : Addr} {o : HO}
theorem Un.any (u : Un fs ex H H1 h h1) {b : Addr} {ob : Obj} (q : h.get? b = some ob) (n : H b = none) (hx : b ∉ ex) : ∃ sl, h1.get? b = some { ob with slots := sl } := by
  by_cases hb : b ∈ fs
  · exact u.slot b ob q n hb hx
  · exact ⟨ob.slots, u.keep b ob q n hb hx⟩
theorem Un.trans (a : Un fs ex H H1 h h1) (b : Un fs ex H1 H2 h1 h2) : Un fs ex H H2 h h2 where
  keep := fun c ob q n hc hx => b.keep c ob (a.keep c ob q n hc hx) (a.free c ob q n hx) hc hx
  slot := fun c ob q n hc hx => by
    obtain ⟨sl, e1⟩ := a.slot c ob q n hc hx
    obtain ⟨sl', e2⟩ := b.slot c _ e1 (a.free c ob q n hx) hc hx
    exact ⟨sl', e2⟩
  free := fun c ob q n hx => by
    obtain ⟨o', e1⟩ := a.there c ob q hx
    exact b.free c o' e1 (a.free c ob q n hx) hx
  there := fun c ob q hx => by
    obtain ⟨o', e1⟩ := a.there c ob q hx
    exact b.there c o' e1 hx
  tups := fun c xs q => b.tups c xs (a.tups c xs q)
  frzs := fun c ob xs q => b.frzs c ob xs (a.frzs c ob xs q)
  tbls := fun c ps q => by
    obtain ⟨m1, e1⟩ := a.tbls c ps q
    obtain ⟨m2, e2⟩ := b.tbls c _ e1
    exact ⟨m1 ++ m2, by rw [e2, Array.append_assoc]⟩
theorem Un.kept (k : ∀ b u, h.get? b = some u → h'.get? b = some u) : Un fs ex H H h h' :=
  ⟨fun b ob q _ _ _ => k b ob q, fun b ob q _ _ _ => ⟨ob.slots, k b ob q⟩, fun _ _ _ n _ => n, fun b ob q _ => ⟨ob, k b ob q⟩, fun _ _ q => q, fun _ _ _ q => q, fun _ ps q => ⟨#[], by rw [q]; simp⟩⟩
theorem Un.refl : Un fs ex H H h h := Un.kept fun _ _ q => q
theorem Un.laid (k : ∀ b u, h.get? b = some u → h'.get? b = some u) (hp : h.objs.size ≤ a) (hn : H a = none) : Un fs ex H (upd H a o) h h' where
  keep := fun b u q _ _ _ => k b u q
  slot := fun b u q _ _ _ => ⟨u.slots, k b u q⟩
  free := fun b u q n _ => by rw [upd_ne (Nat.ne_of_lt (Nat.lt_of_lt_of_le (Heap.lt_size q) hp))]; exact n
  there := fun b u q _ => ⟨u, k b u q⟩
  tups := fun b xs q => by rw [upd_ne (ne_of_none q hn)]; exact q
  frzs := fun b u xs q => by rw [upd_ne (ne_of_none q hn)]; exact q
  tbls := fun b ps q => ⟨#[], by rw [upd_ne (ne_of_none q hn), q]; simp⟩
theorem Un.write (mu : Mut (H x)) (he : e = x ∨ H e = some (.own x)) (k : ∀ b u, b ≠ e → h.get? b = some u → h'.get? b = some u) (heo : ∃ u, h'.get? e = some u) : Un fs ex H (upd H x o) h h' := by
  have hx : ∀ b, H b = none → b ≠ x := fun b n z => by subst z; rw [n] at mu; exact mu
  have hb : ∀ b, H b = none → b ≠ e := fun b n z => by
    subst z
    rcases he with r | r
    · exact hx b n r
    · rw [n] at r; cases r
  have hm : ∀ b u, H b = some u → ¬ Mut (some u) → b ≠ x := fun b u q nm z => by subst z; rw [q] at mu; exact nm mu
  refine ⟨fun b u q n _ _ => k b u (hb b n) q, fun b u q n _ _ => ⟨u.slots, k b u (hb b n) q⟩, fun b u q n _ => by rw [upd_ne (hx b n)]; exact n, fun b u q _ => ?_,
    fun b xs q => by rw [upd_ne (hm b _ q fun z => z)]; exact q, fun b u xs q => by rw [upd_ne (hm b _ q fun z => z)]; exact q, fun b ps q => ⟨#[], by rw [upd_ne (hm b _ q fun z => z), q]; simp⟩⟩
  by_cases hbe : b = e
  · subst hbe; exact heo
  · exact ⟨u, k b u hbe q⟩
theorem Un.mono (u : Un fs ex H H1 h h1) (hs : ∀ b ∈ fs, b ∈ fs') (hx : ∀ b ∈ ex, b ∈ ex') : Un fs' ex' H H1 h h1 :=
  ⟨fun b ob q n hb he => u.keep b ob q n (fun z => hb (hs b z)) fun z => he (hx b z), fun _ _ q n _ he => u.any q n fun z => he (hx _ z), fun b ob q n he => u.free b ob q n fun z => he (hx b z), fun b ob q he => u.there b ob q fun z => he (hx b z), u.tups, u.frzs, u.tbls⟩
end

/-! ### the heap without what is tracked -/
def trk (h : Heap) (H : Hp) : List Addr := (List.range h.objs.size).filter fun a => (H a).isSome
def hidT (h : Heap) (H : Hp) : Heap := PySem.W.hideAll h (trk h H)
theorem hidT_size (h : Heap) (H : Hp) : (hidT h H).objs.size = h.objs.size := PySem.W.hideAll_size _ _
theorem hidT_get {h : Heap} {H : Hp} {b : Addr} {o : Obj} (e : h.get? b = some o) (n : H b = none) : (hidT h H).get? b = some o :=
  PySem.W.hideAll_get _ e fun hm => by
    have q : (H b).isSome = true := (List.mem_filter.mp hm).2
    rw [n] at q; simp at q
theorem of_hidT {h : Heap} {H : Hp} {b : Addr} {o : Obj} (e : (hidT h H).get? b = some o) : h.get? b = some o ∧ H b = none := by
  have e' : h.get? b = some o := PySem.W.of_hideAll (trk h H) e
  refine ⟨e', ?_⟩
  cases q : H b with
  | none => rfl
  | some x =>
    have hm : b ∈ trk h H := List.mem_filter.mpr ⟨List.mem_range.mpr (Heap.lt_size e'), by simp [q]⟩
    have z : (hidT h H).get? b = none := PySem.W.hideAll_none (trk h H) hm
    rw [z] at e; cases e

/-! ### OpenK's ledger, filled with every new object but one -/
def allNews (g h : Heap) (L : Addr) : List (Addr × Obj) := (List.range h.objs.size).filterMap fun a => if a = L ∨ (g.get? a).isSome = true then none else (h.get? a).map fun o => (a, o)
theorem mem_allNews {g h : Heap} {L a : Addr} {o : Obj} (h1 : a ≠ L) (h2 : g.get? a = none) (h3 : h.get? a = some o) : (a, o) ∈ allNews g h L :=
  List.mem_filterMap.mpr ⟨a, List.mem_range.mpr (Heap.lt_size h3), by simp [h1, h2, h3]⟩
theorem of_mem_allNews {g h : Heap} {L : Addr} {p : Addr × Obj} (hp : p ∈ allNews g h L) : p.1 ≠ L ∧ g.get? p.1 = none ∧ h.get? p.1 = some p.2 := by
  obtain ⟨b, _, e⟩ := List.mem_filterMap.mp hp
  split at e
  · cases e
  · rename_i hn
    cases q : h.get? b with
    | none => rw [q] at e; simp at e
    | some u =>
      rw [q] at e
      simp only [Option.map_some, Option.some.injEq] at e
      subst e
      refine ⟨fun z => hn (.inl z), ?_, q⟩
      show g.get? b = none
      cases r : g.get? b with
      | none => rfl
      | some v => exact (hn (.inr (by simp [r]))).elim
def rest (g h : Heap) (L d : Addr) : List (Addr × Obj) := (allNews g h L).filter fun p => decide (p.1 ≠ d)
theorem rest_ne {g h : Heap} {L d : Addr} : ∀ p ∈ rest g h L d, p.1 ≠ d := fun p hp => of_decide_eq_true (List.mem_filter.mp hp).2
theorem mem_rest {g h : Heap} {L d a : Addr} {o : Obj} (h1 : a ≠ L) (h2 : g.get? a = none) (h3 : h.get? a = some o) (h4 : a ≠ d) : (a, o) ∈ rest g h L d :=
  List.mem_filter.mpr ⟨mem_allNews h1 h2 h3, decide_eq_true h4⟩
theorem news_all {g h : Heap} {L : Addr} : News g L h (allNews g h L) := fun p hp => let ⟨a, b, c⟩ := of_mem_allNews hp; ⟨c, a, b⟩
theorem news_at {g h : Heap} {L d : Addr} {o : Obj} (h1 : d ≠ L) (h2 : g.get? d = none) (h3 : h.get? d = some o) : News g L h ((d, o) :: rest g h L d) := fun p hp => by
  rcases List.mem_cons.mp hp with rfl | hp
  · exact ⟨h3, h1, h2⟩
  · exact news_all p (List.mem_filter.mp hp).1
/-- behind a rule that changed d alone: all else but the frame is kept -/
theorem kept_of_news {g h h' : Heap} {L d : Addr} {m : Str → Option Value} (k : ∀ b o, g.get? b = some o → h.get? b = some o) (F : Fr g L h' m) (N : News g L h' (rest g h L d)) :
    ∀ b o, b ≠ L → b ≠ d → h.get? b = some o → h'.get? b = some o := fun b o h1 h2 e => by
  cases q : g.get? b with
  | some u =>
    have := k b u q
    rw [e] at this; cases this
    exact F.keep b _ q
  | none => exact (N (b, o) (mem_rest h1 q e h2)).1
end L2

namespace L2
open PySem PySem.Spec PyProof.Rows

/-- the module's facts, over the base: the heap at the law's entry without what is tracked there -/
structure Mod (K : PySem.W.Frag) (mg : Str → Option Value) (base : Heap) : Prop where
  kin : K.In base
  glob : base.Ns mainGlobals mg
  blt : ∃ mb, base.Ns builtinsNs mb ∧ ∀ x : Str, x ≠ "__name__" → mb x = bootBuiltins x
  nolimit : base.NoLimit

/-- the context: a def's body (or a comprehension's block) running. base: fixed through the whole law; s₀, H₀: the entry; outer: the frames whose slots others may change (a def's callers); stack: all frames that run;
   ex: iterators that were made ahead of the entry and are walked here (a comprehension's); fn: the names whose cells were made at the entry (a def: all; a comprehension's block: its own); calm: not within an except suite; pn: pins that every state bears; xe: what is wanted of an exception that leaves the code -/
structure Cx where
  prog : Program
  w : World
  K : PySem.W.Frag
  mg : Str → Option Value
  base : Heap
  A : Around
  N : List Str
  s₀ : Shared
  H₀ : Hp
  env : Env
  outer : List Env
  stack : List Env
  ex : List Addr
  fn : Str → Bool
  calm : Bool
  pn : List (Addr × Obj)
  xe : Value → Shared → Prop
/-- the callers' frames -/
def frs (l : List Env) : List Addr := l.filterMap (·.frame)
abbrev Cx.fs (X : Cx) : List Addr := frs X.outer

def Vis (sc : Scope) (x : Str) : Prop := sc.names.lookup x = some .local ∨ sc.names.lookup x = some .cell ∨ sc.names.lookup x = some .free
def Loc (sc : Scope) (x : Str) : Prop := sc.names.lookup x = some .local ∨ sc.names.lookup x = some .cell
def Look (env : Env) (h : Heap) (m : Str → Option Value) (x : Str) (u : Value) : Prop :=
  (env.kindOf x = some .local ∧ m x = some u) ∨ ((env.kindOf x = some .cell ∨ env.kindOf x = some .free) ∧ ∃ c, env.cells.lookup x = some c ∧ h.IsCell c (some u))

structure Cx.Ok (X : Cx) : Prop where
  mod : Mod X.K X.mg X.base
  kind : X.env.scope.kind = .function
  glob : X.env.globals = mainGlobals
  blt : X.env.builtins = builtinsNs
  above : X.s₀.heap.objs.size ≤ X.env.locals
  inj : ∀ x y c, X.env.cells.lookup x = some c → X.env.cells.lookup y = some c → x = y
  has : ∀ x, (X.env.kindOf x = some .cell ∨ X.env.kindOf x = some .free) → ∃ c, X.env.cells.lookup x = some c
  cab : ∀ x c, X.fn x = true → X.env.cells.lookup x = some c → X.s₀.heap.objs.size ≤ c
  hd : X.calm = true → X.A.handled = none
  frames : X.A.frames = some X.stack
  stk : X.stack = X.outer ∨ (X.stack = X.env :: X.outer ∧ X.env.frame = some X.env.locals)
  exf : ∀ b ∈ X.ex, b ≠ X.env.locals ∧ ∀ x c, X.env.cells.lookup x = some c → c ≠ b
  bs : ∀ b o, X.base.get? b = some o → X.s₀.heap.get? b = some o ∧ X.H₀ b = none
  bsz : X.base.objs.size ≤ X.s₀.heap.objs.size
  noex : ∀ b o, X.base.get? b = some o → b ∉ X.ex
  exfs : ∀ b ∈ X.ex, b ∉ X.fs
  funs : X.s₀.heap.FunFrames X.base X.outer
  frf : ∀ b ∈ X.fs, X.H₀ b = none

structure Inv (X : Cx) (pins : List (Addr × Obj)) (σ : List (Option V)) (H : Hp) (s : Shared) : Prop where
  ok : X.Ok
  os : s.os = X.s₀.os
  bare : AllBare s.gens
  base : Un X.fs X.ex X.H₀ H X.s₀.heap s.heap
  loc : ∃ m, s.heap.Ns X.env.locals m ∧ ∀ (i : Nat) (x : Str) (v : V), X.N[i]? = some x → σ[i]? = some (some v) → Vis X.env.scope x → ∃ u, RelV v u ∧ Look X.env s.heap m x u
  cell : ∀ x c, X.env.cells.lookup x = some c → ∃ v, s.heap.IsCell c v
  free : H X.env.locals = none
  freeC : ∀ x c, X.env.cells.lookup x = some c → H c = none
  pin : ∀ p ∈ X.pn ++ pins, s.heap.get? p.1 = some p.2 ∧ H p.1 = none ∧ p.1 ≠ X.env.locals ∧ p.1 ∉ X.fs ∧ ∀ v, p.2.data ≠ .cell v
  hok : HOk X.prog X.w H s.heap
  len : σ.length = X.N.length

section
variable {X : Cx} {pins : List (Addr × Obj)} {σ : List (Option V)} {H H' : Hp} {s : Shared} {h' : Heap}

theorem Cx.Ok.nofr (ok : X.Ok) {b : Addr} {o : Obj} (e : X.base.get? b = some o) : b ∉ X.fs := fun hb => by
  have := (ok.funs.mem hb).1
  rw [e] at this; cases this
theorem Inv.bs (I : Inv X pins σ H s) : ∀ b o, X.base.get? b = some o → s.heap.get? b = some o ∧ H b = none := fun b o e =>
  ⟨I.base.keep b o (I.ok.bs b o e).1 (I.ok.bs b o e).2 (I.ok.nofr e) (I.ok.noex b o e), I.base.free b o (I.ok.bs b o e).1 (I.ok.bs b o e).2 (I.ok.noex b o e)⟩
theorem Inv.bk (I : Inv X pins σ H s) : ∀ b o, X.base.get? b = some o → s.heap.get? b = some o := fun b o e => (I.bs b o e).1
theorem Inv.mod (I : Inv X pins σ H s) : Mod X.K X.mg X.base := I.ok.mod
theorem Inv.kIn (I : Inv X pins σ H s) : X.K.In s.heap := I.ok.mod.kin.keeps I.bk
theorem Inv.nolimit (I : Inv X pins σ H s) : s.heap.NoLimit := I.ok.mod.nolimit.keeps I.bk
/-- the frame over the base: for OpenK's rules (K.In X.base is I.mod.kin) -/
theorem Inv.fr (I : Inv X pins σ H s) : ∃ m, Fr X.base X.env.locals s.heap m :=
  let ⟨m, hn, _⟩ := I.loc
  ⟨m, hn, I.bk, Nat.le_trans I.ok.bsz I.ok.above⟩
theorem Inv.lt (I : Inv X pins σ H s) : X.env.locals < s.heap.objs.size := let ⟨_, hn, _⟩ := I.loc; hn.lt
theorem Inv.sz (I : Inv X pins σ H s) : X.s₀.heap.objs.size ≤ s.heap.objs.size := Nat.le_trans I.ok.above (Nat.le_of_lt I.lt)
theorem Inv.nofs (I : Inv X pins σ H s) {a : Addr} (h : s.heap.objs.size ≤ a) : a ∉ X.fs := fun hb => by
  obtain ⟨_, o, ho, _⟩ := I.ok.funs.mem hb
  exact absurd (Nat.lt_of_lt_of_le (Heap.lt_size ho) (Nat.le_trans I.sz h)) (Nat.lt_irrefl _)
theorem Inv.cne (I : Inv X pins σ H s) : ∀ x c, X.env.cells.lookup x = some c → c ≠ X.env.locals := fun x c e z => by
  obtain ⟨v, o, ho, hd⟩ := I.cell x c e
  obtain ⟨m, ⟨o', es, ep, ho', hd', _⟩, _⟩ := I.loc
  rw [z, ho'] at ho; cases ho; rw [hd'] at hd; cases hd
theorem Inv.funs (I : Inv X pins σ H s) : s.heap.FunFrames X.base X.outer := by
  have all : ∀ (l : List Env), (∀ b ∈ frs l, b ∈ X.fs) → X.s₀.heap.FunFrames X.base l → s.heap.FunFrames X.base l := by
    intro l
    induction l with
    | nil => intro _ _; trivial
    | cons env r ih =>
      intro hs hl
      obtain ⟨hk, ⟨L, o, hf, hn, ho, hd⟩, hr⟩ := hl
      have hL : L ∈ X.fs := hs L (by unfold frs; rw [List.filterMap_cons, hf]; exact List.mem_cons_self)
      obtain ⟨sl, e⟩ := I.base.slot L o ho (I.ok.frf L hL) hL fun z => I.ok.exfs L z hL
      exact ⟨hk, ⟨L, _, hf, hn, e, hd⟩, ih (fun b hb => hs b (by unfold frs; rw [List.filterMap_cons, hf]; exact List.mem_cons_of_mem _ hb)) hr⟩
  exact all X.outer (fun _ hb => hb) I.ok.funs

/-- the frames that run, for a call -/
theorem Inv.stack (I : Inv X pins σ H s) : s.heap.FunFrames X.base X.stack := by
  rcases I.ok.stk with e | ⟨e, hf⟩
  · rw [e]; exact I.funs
  · rw [e]
    obtain ⟨m, hn, _⟩ := I.loc
    refine .cons (by rw [I.ok.kind]; decide) hf hn ?_ I.funs
    exact Heap.get?_none_of_le (Nat.le_trans I.ok.bsz I.ok.above)
theorem Inv.stkSub (I : Inv X pins σ H s) : ∀ b ∈ frs X.stack, b ∈ X.env.locals :: X.fs := fun b hb => by
  rcases I.ok.stk with e | ⟨e, hf⟩
  · rw [e] at hb; exact List.mem_cons_of_mem _ hb
  · rw [e] at hb
    unfold frs at hb
    rw [List.filterMap_cons, hf] at hb
    exact hb
theorem Inv.stkFree (I : Inv X pins σ H s) : ∀ b ∈ frs X.stack, H b = none := fun b hb => by
  rcases List.mem_cons.mp (I.stkSub b hb) with e | hb
  · rw [e]; exact I.free
  · obtain ⟨_, o, ho, _⟩ := I.ok.funs.mem hb
    exact I.base.free b o ho (I.ok.frf b hb) fun z => I.ok.exfs b z hb

/-- THE STEP: the untracked objects but the frame and the records at ch are kept (the callers' frames up to slots), the frame's map is kept, the new abstract heap is held -/
theorem Inv.step {g' : Array GenState} {t' : Nat} {d' : Drawn} {ch : List Addr} (I : Inv X pins σ H s)
    (hch : ∀ b ∈ ch, (b ∈ X.ex ∨ X.s₀.heap.objs.size ≤ b) ∧ b ≠ X.env.locals ∧ (∀ x c, X.env.cells.lookup x = some c → c ≠ b) ∧ ∀ p ∈ X.pn ++ pins, p.1 ≠ b)
    (keep : ∀ b o, b ≠ X.env.locals → b ∉ X.fs → b ∉ ch → s.heap.get? b = some o → H b = none → h'.get? b = some o)
    (slot : ∀ b o, b ≠ X.env.locals → b ∈ X.fs → b ∉ ch → s.heap.get? b = some o → H b = none → ∃ sl, h'.get? b = some { o with slots := sl }) (free : ∀ b o, b ∉ ch → s.heap.get? b = some o → H b = none → H' b = none)
    (there : ∀ b o, b ∉ ch → s.heap.get? b = some o → ∃ o', h'.get? b = some o')
    (tups : ∀ b xs, H b = some (.tup xs) → H' b = some (.tup xs)) (frzs : ∀ b o u, H b = some (.frz o u) → H' b = some (.frz o u)) (tbls : ∀ b ps, H b = some (.tbl ps) → ∃ more, H' b = some (.tbl (ps ++ more)))
    (ns : ∀ m, s.heap.Ns X.env.locals m → h'.Ns X.env.locals m) (hok : HOk X.prog X.w H' h') (hg : AllBare g') :
    Inv X pins σ H' { s with heap := h', gens := g', drawn := d', toks := t' } := by
  have neL : ∀ b o, X.s₀.heap.get? b = some o → b ≠ X.env.locals := fun b o e => Nat.ne_of_lt (Nat.lt_of_lt_of_le (Heap.lt_size e) I.ok.above)
  have neC : ∀ b o, X.s₀.heap.get? b = some o → b ∉ X.ex → b ∉ ch := fun b o e hx hb => by
    rcases (hch b hb).1 with z | z
    · exact hx z
    · exact absurd (Nat.lt_of_lt_of_le (Heap.lt_size e) z) (Nat.lt_irrefl _)
  have cellK : ∀ x c, X.env.cells.lookup x = some c → ∀ v, s.heap.IsCell c v → h'.IsCell c v := fun x c e v ⟨o, ho, hd⟩ => by
    have nch : c ∉ ch := fun z => (hch c z).2.2.1 x c e rfl
    by_cases hc : c ∈ X.fs
    · obtain ⟨sl, q⟩ := slot c o (I.cne x c e) hc nch ho (I.freeC x c e)
      exact ⟨_, q, hd⟩
    · exact ⟨o, keep c o (I.cne x c e) hc nch ho (I.freeC x c e), hd⟩
  refine ⟨I.ok, I.os, hg, ⟨fun b o e n hb hx => ?_, fun b o e n hb hx => ?_, fun b o e n hx => ?_, fun b o e hx => ?_, fun b xs e => tups b xs (I.base.tups b xs e), fun b o xs e => frzs b o xs (I.base.frzs b o xs e), fun b ps e => ?_⟩, ?_, fun x c e => ?_, ?_, fun x c e => ?_, fun p hp => ?_, hok, I.len⟩
  · exact keep b o (neL b o e) hb (neC b o e hx) (I.base.keep b o e n hb hx) (I.base.free b o e n hx)
  · obtain ⟨sl, e1⟩ := I.base.slot b o e n hb hx
    obtain ⟨sl', e2⟩ := slot b _ (neL b o e) hb (neC b o e hx) e1 (I.base.free b o e n hx)
    exact ⟨sl', e2⟩
  · obtain ⟨o', e1⟩ := I.base.there b o e hx
    exact free b o' (neC b o e hx) e1 (I.base.free b o e n hx)
  · obtain ⟨o', e1⟩ := I.base.there b o e hx
    exact there b o' (neC b o e hx) e1
  · obtain ⟨m1, e1⟩ := I.base.tbls b ps e
    obtain ⟨m2, e2⟩ := tbls b _ e1
    exact ⟨m1 ++ m2, by rw [e2, Array.append_assoc]⟩
  · obtain ⟨m, hn, hl⟩ := I.loc
    refine ⟨m, ns m hn, fun i x v e1 e2 e3 => ?_⟩
    obtain ⟨u, r, l⟩ := hl i x v e1 e2 e3
    refine ⟨u, r, ?_⟩
    rcases l with l | ⟨k, c, e, z⟩
    · exact .inl l
    · exact .inr ⟨k, c, e, cellK x c e _ z⟩
  · obtain ⟨v, z⟩ := I.cell x c e
    exact ⟨v, cellK x c e v z⟩
  · obtain ⟨m, ⟨o, _, _, ho, _⟩, _⟩ := I.loc
    exact free _ o (fun z => (hch _ z).2.1 rfl) ho I.free
  · obtain ⟨v, o, ho, hd⟩ := I.cell x c e
    exact free c o (fun z => (hch c z).2.2.1 x c e rfl) ho (I.freeC x c e)
  · obtain ⟨e, n, ne, nf, d⟩ := I.pin p hp
    have nch : p.1 ∉ ch := fun z => (hch p.1 z).2.2.2 p hp rfl
    exact ⟨keep p.1 p.2 ne nf nch e n, free p.1 p.2 nch e n, ne, nf, d⟩
/-- .. where the frame's own object is kept too -/
theorem Inv.un {t' : Nat} (I : Inv X pins σ H s) (u : Un X.fs [] H H' s.heap h') (hok : HOk X.prog X.w H' h') : Inv X pins σ H' { s with heap := h', toks := t' } := by
  obtain ⟨m, ⟨o, es, ep, ho, r⟩, _⟩ := id I.loc
  obtain ⟨sl, hL⟩ := u.any ho I.free (by simp)
  exact I.step (g' := s.gens) (d' := s.drawn) (ch := []) (fun _ z => nomatch z) (fun b o _ hb _ e n => u.keep b o e n hb (by simp)) (fun b o _ hb _ e n => u.slot b o e n hb (by simp)) (fun b o _ e n => u.free b o e n (by simp)) (fun b o _ e => u.there b o e (by simp)) u.tups u.frzs u.tbls (fun m' hm => by
    obtain ⟨o', es', ep', ho', r'⟩ := hm
    rw [ho] at ho'; cases ho'
    exact ⟨_, es', ep', hL, r'⟩) hok I.bare
/-- behind a call (or a comprehension's block): the slots of this frame may have changed too, the records at ch may have turned -/
theorem Inv.call {g' : Array GenState} {t' : Nat} {d' : Drawn} {ch : List Addr} (I : Inv X pins σ H s) (u : Un (frs X.stack) ch H H' s.heap h') (hok : HOk X.prog X.w H' h') (hg : AllBare g')
    (hch : ∀ b ∈ ch, (b ∈ X.ex ∨ X.s₀.heap.objs.size ≤ b) ∧ b ≠ X.env.locals ∧ (∀ x c, X.env.cells.lookup x = some c → c ≠ b) ∧ ∀ p ∈ X.pn ++ pins, p.1 ≠ b) :
    Inv X pins σ H' { s with heap := h', gens := g', drawn := d', toks := t' } := by
  obtain ⟨m, ⟨o, es, ep, ho, r⟩, _⟩ := id I.loc
  obtain ⟨sl, hL⟩ := u.any ho I.free fun z => (hch _ z).2.1 rfl
  exact I.step (ch := ch) hch (fun b o hL hb hc e n => u.keep b o e n (fun z => (List.mem_cons.mp (I.stkSub b z)).elim hL hb) hc) (fun b o _ _ hc e n => u.any e n hc) (fun b o hc e n => u.free b o e n hc) (fun b o hc e => u.there b o e hc) u.tups u.frzs u.tbls (fun m' hm => by
    obtain ⟨o', es', ep', ho', r'⟩ := hm
    rw [ho] at ho'; cases ho'
    exact ⟨_, es', ep', hL, r'⟩) hok hg
/-- an untracked record of ours (an iterator) has turned -/
theorem Inv.turned {t' : Nat} {it : Addr} (I : Inv X pins σ H s) (k : ∀ b o, b ≠ it → s.heap.get? b = some o → h'.get? b = some o) (hn : H it = none) (hL : it ≠ X.env.locals)
    (h1 : it ∈ X.ex ∨ X.s₀.heap.objs.size ≤ it) (h2 : ∀ x c, X.env.cells.lookup x = some c → c ≠ it) (h3 : ∀ p ∈ X.pn ++ pins, p.1 ≠ it) : Inv X pins σ H { s with heap := h', toks := t' } := by
  have nit : ∀ b u, H b = some u → b ≠ it := fun b u e z => by rw [z, hn] at e; cases e
  refine I.step (g' := s.gens) (d' := s.drawn) (ch := [it]) (fun b hb => ?_) (fun b o _ _ hc e _ => k b o (fun z => hc (by simp [z])) e) (fun b o _ _ hc e _ => ⟨o.slots, k b o (fun z => hc (by simp [z])) e⟩) (fun _ _ _ _ n => n)
    (fun b o hc e => ⟨o, k b o (fun z => hc (by simp [z])) e⟩) (fun _ _ e => e) (fun _ _ _ e => e) (fun b ps e => ⟨#[], by rw [e]; simp⟩) (fun m hm => ?_) (fun b u e => ?_) I.bare
  · have e : b = it := by simpa using hb
    subst e
    exact ⟨h1, hL, h2, h3⟩
  · obtain ⟨o, es, ep, ho, r⟩ := hm
    exact ⟨o, es, ep, k _ o (Ne.symm hL) ho, r⟩
  · refine (I.hok b u e).stay (fun c v hc q => k c v ?_ q) (fun _ q => q) fun _ _ q => q
    rcases hc with z | z
    · rw [z]; exact nit b u e
    · exact nit c _ z
theorem Inv.tok (I : Inv X pins σ H s) (t : Nat) : Inv X pins σ H { s with toks := t } := I.un (h' := s.heap) (t' := t) Un.refl I.hok
/-- all objects kept -/
theorem Inv.kept {t' : Nat} (I : Inv X pins σ H s) (k : ∀ b u, s.heap.get? b = some u → h'.get? b = some u) : Inv X pins σ H { s with heap := h', toks := t' } := I.un (Un.kept k) (I.hok.kept k)
/-- a new object laid and tracked -/
theorem Inv.laid {a : Addr} {o : HO} {t' : Nat} (I : Inv X pins σ H s) (k : ∀ b u, s.heap.get? b = some u → h'.get? b = some u) (hp : s.heap.objs.size ≤ a) (new : ObjOk X.prog X.w (upd H a o) h' a o) :
    Inv X pins σ (upd H a o) { s with heap := h', toks := t' } := I.un (Un.laid k hp (I.hok.fresh hp)) (I.hok.laid k hp new)
/-- an object written -/
theorem Inv.write {x e : Addr} {o : HO} {t' : Nat} (I : Inv X pins σ H s) (mu : Mut (H x)) (he : e = x ∨ H e = some (.own x)) (k : ∀ b u, b ≠ e → s.heap.get? b = some u → h'.get? b = some u) (heo : ∃ u, h'.get? e = some u)
    (new : ObjOk X.prog X.w (upd H x o) h' x o) : Inv X pins σ (upd H x o) { s with heap := h', toks := t' } := I.un (Un.write mu he k heo) (I.hok.write mu he k heo new)
/-- forgetting slots, pins -/
theorem Inv.weak {σ' : List (Option V)} (I : Inv X pins σ H s) (hl : σ'.length = σ.length) (w : ∀ (i : Nat) v, σ'[i]? = some (some v) → σ[i]? = some (some v)) : Inv X pins σ' H s :=
  ⟨I.ok, I.os, I.bare, I.base, let ⟨m, hn, hl'⟩ := I.loc; ⟨m, hn, fun i x v e1 e2 e3 => hl' i x v e1 (w i v e2) e3⟩, I.cell, I.free, I.freeC, I.pin, I.hok, hl.trans I.len⟩
theorem Inv.pins_of {pins' : List (Addr × Obj)} (I : Inv X pins σ H s) (h : ∀ p ∈ pins', s.heap.get? p.1 = some p.2 ∧ H p.1 = none ∧ p.1 ≠ X.env.locals ∧ p.1 ∉ X.fs ∧ ∀ v, p.2.data ≠ .cell v) : Inv X pins' σ H s :=
  ⟨I.ok, I.os, I.bare, I.base, I.loc, I.cell, I.free, I.freeC, fun p hp => (List.mem_append.mp hp).elim (fun z => I.pin p (List.mem_append_left _ z)) (h p), I.hok, I.len⟩

theorem nodup_ix {N : List Str} (hN : N.Nodup) {i j : Nat} {x : Str} (a : N[i]? = some x) (b : N[j]? = some x) : i = j := by
  obtain ⟨h1, e1⟩ := List.getElem?_eq_some_iff.mp a
  obtain ⟨h2, e2⟩ := List.getElem?_eq_some_iff.mp b
  exact (List.getElem_inj hN).mp (e1.trans e2.symm)

/-- a name is stored; what changed -/
theorem store_ok2 {M : Model} {A : Around} {E : Value → Shared → Prop} {i : Nat} {x : Str} {v : V} {u : Value} {Q : Unit → Shared → Prop} (I : Inv X pins σ H s) (hN : X.N.Nodup) (hi : X.N[i]? = some x) (hx : Loc X.env.scope x) (r : RelV v u)
    (h : ∀ s', Inv X pins (σ.set i (some v)) H s' → (∃ a, Heap.SameBut a s.heap s'.heap ∧ (a = X.env.locals ∨ X.env.cells.lookup x = some a)) → Q () s') (hf : X.fn x = true ∨ X.env.scope.names.lookup x = some .local := by first | exact .inl rfl | exact .inr rfl | assumption) : wpAny M A (storeName X.env x u) Q E s := by
  obtain ⟨m, hn, hl⟩ := id I.loc
  have hcls : (X.env.scope.kind == .class || (X.env.scope.kind == .module && X.env.locals != X.env.globals)) = false := by rw [I.ok.kind]; rfl
  have hiσ : i < σ.length := by rw [I.len]; exact (List.getElem?_eq_some_iff.mp hi).1
  have cne := I.cne
  have tracked : ∀ {a : Addr} {h' : Heap}, (∃ o, s.heap.get? a = some o ∧ H a = none) → Heap.SameBut a s.heap h' → HOk X.prog X.w H h' := fun {a h'} ha hs b ob e => by
    obtain ⟨_, _, hfree⟩ := ha
    refine (I.hok b ob e).stay (fun c w' hc q => (hs.2 c ?_).trans q) (fun _ q => q) fun _ _ q => q
    rintro rfl
    rcases hc with rfl | hc
    · rw [hfree] at e; cases e
    · rw [hfree] at hc; cases hc
  rcases hx with hk | hk
  · refine wpAny_storeName_local hk hn (fun h' hn' hs => ?_) hcls
    obtain ⟨oL, _, _, hoL, _⟩ := id hn
    refine h _ ⟨I.ok, I.os, I.bare, ⟨fun b o e n hb hx => ?_, fun b o e n hb hx => ?_, I.base.free, fun b o e hx => ?_, I.base.tups, I.base.frzs, I.base.tbls⟩, ⟨_, hn', fun j y v' e1 e2 e3 => ?_⟩, fun y c e => ?_, I.free, I.freeC, fun p hp => ?_, tracked ⟨oL, hoL, I.free⟩ hs, by simpa using I.len⟩ ⟨_, hs, .inl rfl⟩
    · exact (hs.2 b (Nat.ne_of_lt (Nat.lt_of_lt_of_le (Heap.lt_size e) I.ok.above))).trans (I.base.keep b o e n hb hx)
    · obtain ⟨sl, e1⟩ := I.base.slot b o e n hb hx
      exact ⟨sl, (hs.2 b (Nat.ne_of_lt (Nat.lt_of_lt_of_le (Heap.lt_size e) I.ok.above))).trans e1⟩
    · obtain ⟨o', e1⟩ := I.base.there b o e hx
      exact ⟨o', (hs.2 b (Nat.ne_of_lt (Nat.lt_of_lt_of_le (Heap.lt_size e) I.ok.above))).trans e1⟩
    · by_cases hj : j = i
      · subst hj
        rw [hi] at e1; cases e1
        rw [List.getElem?_set_self hiσ] at e2
        cases e2
        exact ⟨u, r, .inl ⟨hk, by simp⟩⟩
      · rw [List.getElem?_set_ne (Ne.symm hj)] at e2
        obtain ⟨u', r', q⟩ := hl j y v' e1 e2 e3
        refine ⟨u', r', ?_⟩
        rcases q with ⟨k, e⟩ | ⟨k, c, e, z⟩
        · refine .inl ⟨k, ?_⟩
          have : y ≠ x := fun e => hj (nodup_ix hN e1 (e ▸ hi))
          simp [this, e]
        · exact .inr ⟨k, c, e, z.sameBut hs (cne y c e)⟩
    · obtain ⟨w', z⟩ := I.cell y c e
      exact ⟨w', z.sameBut hs (cne y c e)⟩
    · obtain ⟨e, n, ne, nf, d⟩ := I.pin p hp
      exact ⟨(hs.2 p.1 ne).trans e, n, ne, nf, d⟩
  · have hfn : X.fn x = true := by
      rcases hf with z | z
      · exact z
      · rw [z] at hk; cases hk
    obtain ⟨c, hc⟩ := I.ok.has x (.inl hk)
    obtain ⟨w', z⟩ := I.cell x c hc
    refine wpAny_storeName_cell I.ok.kind hk hc z (fun h' hc' hs => ?_)
    obtain ⟨oc, hoc, hocd⟩ := id z
    refine h { s with heap := h' } ⟨I.ok, I.os, I.bare, ⟨fun b o e n hb hx => ?_, fun b o e n hb hx => ?_, I.base.free, fun b o e hx => ?_, I.base.tups, I.base.frzs, I.base.tbls⟩, ⟨m, hn.sameBut hs (Ne.symm (cne x c hc)), fun j y v' e1 e2 e3 => ?_⟩, fun y c' e => ?_, I.free, I.freeC, fun p hp => ?_, tracked ⟨oc, hoc, I.freeC x c hc⟩ hs, by simpa using I.len⟩ ⟨c, hs, .inr hc⟩
    · exact (hs.2 b (Nat.ne_of_lt (Nat.lt_of_lt_of_le (Heap.lt_size e) (I.ok.cab x c hfn hc)))).trans (I.base.keep b o e n hb hx)
    · obtain ⟨sl, e1⟩ := I.base.slot b o e n hb hx
      exact ⟨sl, (hs.2 b (Nat.ne_of_lt (Nat.lt_of_lt_of_le (Heap.lt_size e) (I.ok.cab x c hfn hc)))).trans e1⟩
    · obtain ⟨o', e1⟩ := I.base.there b o e hx
      exact ⟨o', (hs.2 b (Nat.ne_of_lt (Nat.lt_of_lt_of_le (Heap.lt_size e) (I.ok.cab x c hfn hc)))).trans e1⟩
    · by_cases hj : j = i
      · subst hj
        rw [hi] at e1; cases e1
        rw [List.getElem?_set_self hiσ] at e2
        cases e2
        exact ⟨u, r, .inr ⟨.inl hk, c, hc, hc'⟩⟩
      · rw [List.getElem?_set_ne (Ne.symm hj)] at e2
        obtain ⟨u', r', q⟩ := hl j y v' e1 e2 e3
        refine ⟨u', r', ?_⟩
        rcases q with q | ⟨k, c', e, z'⟩
        · exact .inl q
        · refine .inr ⟨k, c', e, z'.sameBut hs ?_⟩
          rintro rfl
          exact hj (nodup_ix hN e1 (I.ok.inj _ _ _ e hc ▸ hi))
    · by_cases hcc : c' = c
      · subst hcc; exact ⟨_, hc'⟩
      · obtain ⟨w2, z2⟩ := I.cell y c' e
        exact ⟨w2, z2.sameBut hs hcc⟩
    · obtain ⟨e, n, ne, nf, d⟩ := I.pin p hp
      refine ⟨(hs.2 p.1 ?_).trans e, n, ne, nf, d⟩
      intro q
      rw [q, hoc] at e
      have q' : oc = p.2 := Option.some.inj e
      exact d w' (by rw [← q']; exact hocd)
theorem store_ok {M : Model} {A : Around} {E : Value → Shared → Prop} {i : Nat} {x : Str} {v : V} {u : Value} {Q : Unit → Shared → Prop} (I : Inv X pins σ H s) (hN : X.N.Nodup) (hi : X.N[i]? = some x) (hx : Loc X.env.scope x) (r : RelV v u)
    (h : ∀ s', Inv X pins (σ.set i (some v)) H s' → Q () s') (hf : X.fn x = true ∨ X.env.scope.names.lookup x = some .local := by first | exact .inl rfl | exact .inr rfl | assumption) : wpAny M A (storeName X.env x u) Q E s :=
  store_ok2 I hN hi hx r (fun s' I' _ => h s' I') hf
/-- behind a call or a block, the state as it is -/
theorem Inv.call' {s' : Shared} {ch : List Addr} (I : Inv X pins σ H s) (ho : s'.os = s.os) (u : Un (frs X.stack) ch H H' s.heap s'.heap) (hok : HOk X.prog X.w H' s'.heap) (hg : AllBare s'.gens)
    (hch : ∀ b ∈ ch, (b ∈ X.ex ∨ X.s₀.heap.objs.size ≤ b) ∧ b ≠ X.env.locals ∧ (∀ x c, X.env.cells.lookup x = some c → c ≠ b) ∧ ∀ p ∈ X.pn ++ pins, p.1 ≠ b) : Inv X pins σ H' s' := by
  obtain ⟨h', g', d', t', o'⟩ := s'
  have e : o' = s.os := ho
  subst e
  exact I.call (g' := g') (t' := t') (d' := d') u hok hg hch
end

/-! ### the judgements -/
/-- an exception: its class, its own dict's address (where it has one), the abstract heap behind it -/
abbrev XK := Value → Option Addr → Hp → Prop
abbrev St := List (Option V)
abbrev VK := V → Hp → Prop
/-- an expression's reading; a test's; an argument list's -/
abbrev TE := St → Hp → VK → Prop
abbrev TT := St → Hp → (Bool → Hp → Prop) → Prop
abbrev TA := St → Hp → (List V → Hp → Prop) → Prop
/-- what is wanted behind a statement -/
structure Ends where
  nx : St → Hp → Prop
  rt : VK
  bk : St → Hp → Prop := fun _ _ => False
  ct : St → Hp → Prop := fun _ _ => False
abbrev TS := Ends → St → Hp → Prop

def EP (X : Cx) (pins : List (Addr × Obj)) (σ : St) (Q : VK) (u : Value) (s' : Shared) : Prop := ∃ v H', Inv X pins σ H' s' ∧ RelV v u ∧ Q v H'
def TP (X : Cx) (pins : List (Addr × Obj)) (σ : St) (Q : Bool → Hp → Prop) (b : Bool) (s' : Shared) : Prop := ∃ H', Inv X pins σ H' s' ∧ Q b H'
def AP (X : Cx) (pins : List (Addr × Obj)) (σ : St) (Q : List V → Hp → Prop) (us : List Value) (s' : Shared) : Prop := ∃ vs H', Inv X pins σ H' s' ∧ Vals vs us ∧ Q vs H'
def SP (X : Cx) (pins : List (Addr × Obj)) (D : Ends) (f : Flow) (s' : Shared) : Prop :=
  match f with
  | .next => ∃ σ' H', Inv X pins σ' H' s' ∧ D.nx σ' H'
  | .brk => ∃ σ' H', Inv X pins σ' H' s' ∧ D.bk σ' H'
  | .cont => ∃ σ' H', Inv X pins σ' H' s' ∧ D.ct σ' H'
  | .ret u => ∃ v σ' H', Inv X pins σ' H' s' ∧ RelV v u ∧ D.rt v H'

def PE (X : Cx) (e : Expr) (t : TE) : Prop :=
  ∀ (pins : List (Addr × Obj)) (s : Shared) (σ : St) (H : Hp) (Q : VK), Inv X pins σ H s → t σ H Q → wpAny (model X.prog X.w) X.A (eval e X.env) (EP X pins σ Q) X.xe s
def PT (X : Cx) (e : Expr) (t : TT) : Prop :=
  ∀ (pins : List (Addr × Obj)) (s : Shared) (σ : St) (H : Hp) (Q : Bool → Hp → Prop), Inv X pins σ H s → t σ H Q → wpAny (model X.prog X.w) X.A (isTrue e X.env (eval e X.env)) (TP X pins σ Q) X.xe s
/-- a test whatever its 'whole' is (and, or) -/
def PW (X : Cx) (e : Expr) (t : TT) : Prop :=
  ∀ (whole : Sem Value) (pins : List (Addr × Obj)) (s : Shared) (σ : St) (H : Hp) (Q : Bool → Hp → Prop), Inv X pins σ H s → t σ H Q → wpAny (model X.prog X.w) X.A (isTrue e X.env whole) (TP X pins σ Q) X.xe s
theorem PW.pt {X : Cx} {e : Expr} {t : TT} (h : PW X e t) : PT X e t := h _
/-- an argument list (no star), from the left -/
def PA (X : Cx) (es : List Expr) (t : TA) : Prop :=
  ∀ (pos : Pos) (pins : List (Addr × Obj)) (s : Shared) (σ : St) (H : Hp) (Q : List V → Hp → Prop), Inv X pins σ H s → t σ H Q → wpAny (model X.prog X.w) X.A (spliced (backTo pos (starEach es X.env))) (AP X pins σ Q) X.xe s
def PS (X : Cx) (st : Stmt) (t : TS) : Prop :=
  ∀ (pins : List (Addr × Obj)) (s : Shared) (σ : St) (H : Hp) (D : Ends), Inv X pins σ H s → t D σ H → wpAny (model X.prog X.w) X.A (exec st X.env) (SP X pins D) X.xe s
def PSs (X : Cx) (st : List Stmt) (t : TS) : Prop :=
  ∀ (pins : List (Addr × Obj)) (s : Shared) (σ : St) (H : Hp) (D : Ends), Inv X pins σ H s → t D σ H → wpAny (model X.prog X.w) X.A (execs st X.env) (SP X pins D) X.xe s
/-- weaken the end -/
theorem thn {α : Type} {t : Sem α} {Q Q' : α → Shared → Prop} {M : Model} {A : Around} {E : Value → Shared → Prop} {s : Shared} (h : wpAny M A t Q E s) (hQ : ∀ a s, Q a s → Q' a s) : wpAny M A t Q' E s := wpAny_mono h hQ fun _ _ x => x
end L2

namespace L2
open PySem PySem.Spec PyProof.Rows
section
variable {X : Cx}

/-- two expressions in a row -/
theorem bin {a b : Expr} {ta tb : TE} (ha : PE X a ta) (hb : PE X b tb) {pins : List (Addr × Obj)} {s : Shared} {σ : St} {H : Hp} {R : V → V → Hp → Prop} (I : Inv X pins σ H s) (h : ta σ H fun x H1 => tb σ H1 fun y H2 => R x y H2)
    {α : Type} {Q : α → Shared → Prop} {f : Value → Value → Sem α}
    (hf : ∀ v u s2 x y H2, Inv X pins σ H2 s2 → RelV x v → RelV y u → R x y H2 → wpAny (model X.prog X.w) X.A (f v u) Q X.xe s2) :
    wpAny (model X.prog X.w) X.A (eval a X.env) (fun v s₁ => wpAny (model X.prog X.w) X.A (eval b X.env) (fun u s₂ => wpAny (model X.prog X.w) X.A (f v u) Q X.xe s₂) X.xe s₁) X.xe s := by
  refine thn (ha pins s σ H _ I h) fun v s1 ⟨x, H1, I1, r1, q1⟩ => ?_
  refine thn (hb pins s1 σ H1 _ I1 q1) fun u s2 ⟨y, H2, I2, r2, q2⟩ => ?_
  exact hf v u s2 x y H2 I2 r1 r2 q2

/-! ### names and constants -/
def tVar (i : Nat) : TE := fun σ H Q => ∃ v, σ[i]? = some (some v) ∧ Q v H
def tC (v : V) : TE := fun _ H Q => Q v H
theorem pe_var {i : Nat} {x : Str} {pos : Pos} (hN : X.N[i]? = some x) (hv : Vis X.env.scope x) (hd : (x == ("__debug__" : Str)) = false := by decide) (hcd : (x == ("__classdict__" : Str)) = false := by decide) : PE X (.Name x pos) (tVar i) := by
  intro pins s σ H Q I h
  obtain ⟨v, e, h⟩ := h
  obtain ⟨m, hn, hl⟩ := I.loc
  obtain ⟨u, r, l⟩ := hl i x v hN e hv
  have fin : EP X pins σ Q u s := ⟨v, H, I, r, h⟩
  rcases l with ⟨hk, hm⟩ | ⟨hk, c, hc, hcell⟩
  · exact wpAny_Name (wpAny_loadName_local I.ok.kind hk hn hm fin) hd
  · rcases hk with hk | hk
    · exact wpAny_Name (wpAny_loadName_cell I.ok.kind hk hc hcell fin) hd
    · exact wpAny_Name (wpAny_loadName_free I.ok.kind hk hc hcell fin hcd) hd
theorem pe_int {i j pos} : PE X (.Constant (.int i) j pos) (tC (.int i)) := fun _ _ _ H _ I h => wpAny_Constant_int ⟨.int i, H, I.tok _, ⟨_, rfl⟩, h⟩
theorem pe_bl {b j pos} : PE X (.Constant (.bool b) j pos) (tC (.bl b)) := fun _ _ _ H _ I h => Constant_bool ⟨.bl b, H, I, rfl, h⟩
theorem pe_non {j pos} : PE X (.Constant .none j pos) (tC .non) := fun _ _ _ H _ I h => Constant_none ⟨.non, H, I, rfl, h⟩
theorem pe_str {x j pos} : PE X (.Constant (.str x) j pos) (tC (.str x)) := fun _ _ _ H _ I h => Calls.Constant_str ⟨.str x, H, I.tok _, ⟨_, rfl⟩, h⟩

/-- a global name of the def -/
def Gl (X : Cx) (x : Str) : Prop := X.env.kindOf x = some .globalImplicit
theorem ld_glob {E : Value → Shared → Prop} {pins : List (Addr × Obj)} {s : Shared} {σ : St} {H : Hp} {x : Str} {u : Value} {pos : Pos} {Q : Value → Shared → Prop} (I : Inv X pins σ H s) (hg : Gl X x) (hm : X.mg x = some u) (h : Q u s)
    (hd : (x == ("__debug__" : Str)) = false := by decide) : wpAny (model X.prog X.w) X.A (eval (.Name x pos) X.env) Q E s :=
  Calls.Name_function_global I.ok.kind hg (Calls.loadGlobal_global (by rw [I.ok.glob]; exact I.mod.glob.keeps I.bk) hm h) hd
theorem ld_blt {E : Value → Shared → Prop} {pins : List (Addr × Obj)} {s : Shared} {σ : St} {H : Hp} {x : Str} {u : Value} {pos : Pos} {Q : Value → Shared → Prop} (I : Inv X pins σ H s) (hg : Gl X x) (hm : X.mg x = none) (hv : bootBuiltins x = some u) (h : Q u s)
    (hn : x ≠ "__name__" := by decide) (hd : (x == ("__debug__" : Str)) = false := by decide) : wpAny (model X.prog X.w) X.A (eval (.Name x pos) X.env) Q E s := by
  obtain ⟨mb, h1, h2⟩ := I.mod.blt
  exact Calls.Name_function_global I.ok.kind hg (Calls.loadGlobal_builtin (by rw [I.ok.glob]; exact I.mod.glob.keeps I.bk) hm (by rw [I.ok.blt]; exact h1.keeps I.bk) ((h2 x hn).trans hv) h) hd
/-- a module's constant, a class, a function, as a value -/
theorem pe_glob {x : Str} {v : V} {u : Value} {pos : Pos} (hg : Gl X x) (hm : X.mg x = some u) (r : RelV v u) (hd : (x == ("__debug__" : Str)) = false := by decide) : PE X (.Name x pos) (tC v) :=
  fun _ _ _ H _ I h => ld_glob I hg hm ⟨v, H, I, r, h⟩ hd
theorem pe_bltn {x : Str} {v : V} {u : Value} {pos : Pos} (hg : Gl X x) (hm : X.mg x = none) (hv : bootBuiltins x = some u) (r : RelV v u) (hn : x ≠ "__name__" := by decide) (hd : (x == ("__debug__" : Str)) = false := by decide) : PE X (.Name x pos) (tC v) :=
  fun _ _ _ H _ I h => ld_blt I hg hm hv ⟨v, H, I, r, h⟩ hn hd

/-! ### arithmetic -/
/-- two ints -/
def t2I (ta tb : TE) (k : Int → Int → Hp → Prop) : St → Hp → Prop := fun σ H => ta σ H fun x H1 => tb σ H1 fun y H2 => ∃ i j, x = .int i ∧ y = .int j ∧ k i j H2
def tAdd (ta tb : TE) : TE := fun σ H Q => t2I ta tb (fun i j H2 => Q (.int (i + j)) H2) σ H
def tSub (ta tb : TE) : TE := fun σ H Q => t2I ta tb (fun i j H2 => Q (.int (i - j)) H2) σ H
/-- the left factor below 2^64 -/
def tMul (ta tb : TE) : TE := fun σ H Q => t2I ta tb (fun i j H2 => (-(2 ^ 64) < i ∧ i < 2 ^ 64) ∧ Q (.int (i * j)) H2) σ H
variable {a b : Expr} {ta tb : TE} {pos : Pos}
theorem pe_add (ha : PE X a ta) (hb : PE X b tb) : PE X (.BinOp a .Add b pos) (tAdd ta tb) := by
  intro pins s σ H Q I h
  refine wpAny_BinOp (bin ha hb I h fun v u s2 x y H2 I2 rx ry q => ?_)
  obtain ⟨i, j, rfl, rfl, q⟩ := q
  obtain ⟨t, rfl⟩ := rx
  obtain ⟨t', rfl⟩ := ry
  exact add_int ⟨.int _, H2, I2.tok _, ⟨_, rfl⟩, q⟩
theorem pe_sub (ha : PE X a ta) (hb : PE X b tb) : PE X (.BinOp a .Sub b pos) (tSub ta tb) := by
  intro pins s σ H Q I h
  refine wpAny_BinOp (bin ha hb I h fun v u s2 x y H2 I2 rx ry q => ?_)
  obtain ⟨i, j, rfl, rfl, q⟩ := q
  obtain ⟨t, rfl⟩ := rx
  obtain ⟨t', rfl⟩ := ry
  exact sub_int ⟨.int _, H2, I2.tok _, ⟨_, rfl⟩, q⟩
theorem pe_mul (ha : PE X a ta) (hb : PE X b tb) : PE X (.BinOp a .Mult b pos) (tMul ta tb) := by
  intro pins s σ H Q I h
  refine wpAny_BinOp (bin ha hb I h fun v u s2 x y H2 I2 rx ry q => ?_)
  obtain ⟨i, j, rfl, rfl, ⟨q1, q2⟩, q⟩ := q
  obtain ⟨t, rfl⟩ := rx
  obtain ⟨t', rfl⟩ := ry
  exact mul_int ⟨.int _, H2, I2.tok _, ⟨_, rfl⟩, q⟩ (.of_left (intBits_le_64 q1 q2))

/-! ### comparisons -/
def PC (X : Cx) (op : CmpOp) (a b : Expr) (t : TE) : Prop :=
  ∀ (pins : List (Addr × Obj)) (s : Shared) (σ : St) (H : Hp) (Q : VK), Inv X pins σ H s → t σ H Q →
    wpAny (model X.prog X.w) X.A (eval a X.env) (fun v s₁ => wpAny (model X.prog X.w) X.A (eval b X.env) (fun u s₂ => wpAny (model X.prog X.w) X.A (compareOp op v u) (EP X pins σ Q) X.xe s₂) X.xe s₁) X.xe s
theorem nobehind (b : Expr) {op : CmpOp} (h : op ≠ .In) (h2 : op ≠ .NotIn) : behindInMarks op b = false := by
  have e1 : (op == CmpOp.In) = false := by cases op <;> first | rfl | exact absurd rfl h
  have e2 : (op == CmpOp.NotIn) = false := by cases op <;> first | rfl | exact absurd rfl h2
  cases b <;> simp [behindInMarks, e1, e2]
def tCmp (p : Int → Int → Bool) (ta tb : TE) : TE := fun σ H Q => t2I ta tb (fun i j H2 => Q (.bl (p i j)) H2) σ H
abbrev tLt : TE → TE → TE := tCmp fun i j => decide (i < j)
abbrev tLe : TE → TE → TE := tCmp fun i j => decide (i ≤ j)
abbrev tGt : TE → TE → TE := tCmp fun i j => decide (j < i)
abbrev tGe : TE → TE → TE := tCmp fun i j => decide (j ≤ i)
abbrev tEqI : TE → TE → TE := tCmp fun i j => decide (i = j)
abbrev tNeI : TE → TE → TE := tCmp fun i j => !decide (i = j)
/-- a comparison of two ints, by its rule -/
theorem pc_int {op : CmpOp} {p : Int → Int → Bool} (ha : PE X a ta) (hb : PE X b tb)
    (rule : ∀ (i j : Int) (t u : Tok) (Q : Value → Shared → Prop) (s : Shared), Q (.bool (p i j)) s → wpAny (model X.prog X.w) X.A (compareOp op (.int i t) (.int j u)) Q X.xe s) : PC X op a b (tCmp p ta tb) := by
  intro pins s σ H Q I h
  refine bin ha hb I h fun v u s2 x y H2 I2 rx ry q => ?_
  obtain ⟨i, j, rfl, rfl, q⟩ := q
  obtain ⟨t, rfl⟩ := rx
  obtain ⟨t', rfl⟩ := ry
  exact rule i j t t' _ s2 ⟨.bl _, H2, I2, rfl, q⟩
theorem pc_lt (ha : PE X a ta) (hb : PE X b tb) : PC X .Lt a b (tLt ta tb) := pc_int ha hb fun _ _ _ _ _ _ h => lt_int h
theorem pc_le (ha : PE X a ta) (hb : PE X b tb) : PC X .LtE a b (tLe ta tb) := pc_int ha hb fun _ _ _ _ _ _ h => le_int h
theorem pc_gt (ha : PE X a ta) (hb : PE X b tb) : PC X .Gt a b (tGt ta tb) := pc_int ha hb fun _ _ _ _ _ _ h => gt_int h
theorem pc_ge (ha : PE X a ta) (hb : PE X b tb) : PC X .GtE a b (tGe ta tb) := pc_int ha hb fun _ _ _ _ _ _ h => ge_int h
theorem pc_eqI (ha : PE X a ta) (hb : PE X b tb) : PC X .Eq a b (tEqI ta tb) := pc_int ha hb fun _ _ _ _ _ _ h => eq_int (by rw [Bool.beq_eq_decide_eq]; exact h)
theorem pc_neI (ha : PE X a ta) (hb : PE X b tb) : PC X .NotEq a b (tNeI ta tb) := pc_int ha hb fun _ _ _ _ _ _ h => ne_int (by rw [bne, Bool.beq_eq_decide_eq]; exact h)
/-- is None -/
def tIsN (ta : TE) : TE := fun σ H Q => ta σ H fun x H1 => Q (.bl (decide (x = .non))) H1
def tNotN (ta : TE) : TE := fun σ H Q => ta σ H fun x H1 => Q (.bl (!decide (x = .non))) H1
theorem RelV.none_iff {x : V} {v : Value} (r : RelV x v) : (v == Value.none) = decide (x = .non) := by
  cases x with
  | non => cases r; rfl
  | bl _ => cases r; rfl
  | int _ => obtain ⟨t, rfl⟩ := r; rfl
  | str _ => obtain ⟨t, rfl⟩ := r; rfl
  | byt _ => obtain ⟨t, rfl⟩ := r; rfl
  | flt _ => obtain ⟨t, rfl⟩ := r; rfl
  | ref _ => cases r; rfl
  | ty _ => cases r; rfl
theorem pc_isN {j pos'} (ha : PE X a ta) : PC X .Is a (.Constant .none j pos') (tIsN ta) := by
  intro pins s σ H Q I h
  refine thn (ha pins s σ H _ I h) fun v s1 ⟨x, H1, I1, r1, q1⟩ => ?_
  exact Constant_none (is_none_gen ⟨.bl _, H1, I1, by rw [r1.none_iff]; rfl, q1⟩)
theorem pc_notN {j pos'} (ha : PE X a ta) : PC X .IsNot a (.Constant .none j pos') (tNotN ta) := by
  intro pins s σ H Q I h
  refine thn (ha pins s σ H _ I h) fun v s1 ⟨x, H1, I1, r1, q1⟩ => ?_
  exact Constant_none (isnot_none_gen ⟨.bl _, H1, I1, by rw [r1.none_iff]; rfl, q1⟩)
/-- a comparison as a value, as a test -/
def tB (t : TE) : TT := fun σ H Q => t σ H fun x H1 => ∃ c, x = .bl c ∧ Q c H1
theorem pe_cmp {op : CmpOp} {t : TE} (h : PC X op a b t) (h1 : behindInMarks op b = false := by first | exact nobehind _ (by decide) (by decide) | rfl) : PE X (.Compare a [op] [b] pos) t := fun pins s σ H Q I hw => wpAny_Compare1 (h pins s σ H Q I hw) h1
theorem pt_cmp {op : CmpOp} {t : TE} (h : PC X op a b t) (h1 : behindInMarks op b = false := by first | exact nobehind _ (by decide) (by decide) | rfl) : PT X (.Compare a [op] [b] pos) (tB t) := by
  intro pins s σ H Q I hw
  refine wpAny_isTrue_Compare1 (thn (h pins s σ H _ I hw) fun v s1 h1 => thn h1 fun u s2 h2 => thn h2 fun c s3 ⟨x, H1, I1, r1, q1⟩ => ?_) h1
  obtain ⟨d, rfl, q⟩ := q1
  cases r1
  exact wpAny_truthy_bool ⟨H1, I1, q⟩
/-- an expression whose value is a bool, as a test -/
theorem pt_val {e : Expr} {t : TE} (h : PE X e t) (he : ∀ whole, isTrue e X.env whole = (do let v ← whole; standAt e.pos; holding [v] (truthy v)) := by intro _; rfl) : PT X e (tB t) := by
  intro pins s σ H Q I hw
  refine isTrue_plain (thn (h pins s σ H _ I hw) fun v s1 ⟨x, H1, I1, r1, q1⟩ => ?_) (he _)
  obtain ⟨d, rfl, q⟩ := q1
  cases r1
  exact wpAny_truthy_bool ⟨H1, I1, q⟩

/-! ### and, or, not -/
variable {tA tB' : TT} {rest : List Expr}
def tAnd (t u : TT) : TT := fun σ H Q => t σ H fun c H1 => if c = true then u σ H1 Q else Q false H1
def tOr (t u : TT) : TT := fun σ H Q => t σ H fun c H1 => if c = true then Q true H1 else u σ H1 Q
def tNot (t : TT) : TT := fun σ H Q => t σ H fun c H1 => Q (!c) H1
theorem pw_and1 (ha : PT X a tA) : PW X (.BoolOp .And [a] pos) tA := by
  intro wh pins s σ H Q I h
  refine isTrue_and (thn (ha pins s σ H Q I h) fun c s1 e => ?_)
  cases c with
  | true => exact isTrue_and_nil e
  | false => exact e
theorem pw_or1 (ha : PT X a tA) : PW X (.BoolOp .Or [a] pos) tA := by
  intro wh pins s σ H Q I h
  refine isTrue_or (thn (ha pins s σ H Q I h) fun c s1 e => ?_)
  cases c with
  | false => exact isTrue_or_nil e
  | true => exact e
theorem pw_and (ha : PT X a tA) (hb : PW X (.BoolOp .And (b :: rest) pos) tB') : PW X (.BoolOp .And (a :: b :: rest) pos) (tAnd tA tB') := by
  intro wh pins s σ H Q I h
  refine isTrue_and (thn (ha pins s σ H _ I h) fun c s1 ⟨H1, I1, q1⟩ => ?_)
  cases c with
  | true => exact hb wh pins s1 σ H1 Q I1 q1
  | false => exact ⟨H1, I1, q1⟩
theorem pw_or (ha : PT X a tA) (hb : PW X (.BoolOp .Or (b :: rest) pos) tB') : PW X (.BoolOp .Or (a :: b :: rest) pos) (tOr tA tB') := by
  intro wh pins s σ H Q I h
  refine isTrue_or (thn (ha pins s σ H _ I h) fun c s1 ⟨H1, I1, q1⟩ => ?_)
  cases c with
  | true => exact ⟨H1, I1, q1⟩
  | false => exact hb wh pins s1 σ H1 Q I1 q1
theorem pt_not (ha : PT X a tA) : PT X (.UnaryOp .Not a pos) (tNot tA) := by
  intro pins s σ H Q I h
  exact isTrue_not (ha pins s σ H (fun c H1 => Q (!c) H1) I h)
/-- .. as values (bools) -/
def tAndV (ta tb : TE) : TE := fun σ H Q => ta σ H fun x H1 => ∃ c, x = .bl c ∧ if c = true then tb σ H1 Q else Q (.bl false) H1
def tOrV (ta tb : TE) : TE := fun σ H Q => ta σ H fun x H1 => ∃ c, x = .bl c ∧ if c = true then Q (.bl true) H1 else tb σ H1 Q
def tNotV (ta : TE) : TE := fun σ H Q => ta σ H fun x H1 => ∃ c, x = .bl c ∧ Q (.bl (!c)) H1
theorem pe_one {op} {t : TE} (h : PE X a t) : PE X (.BoolOp op [a] pos) t := fun pins s σ H Q I hw => BoolOp_one (h pins s σ H Q I hw)
theorem pe_and (ha : PE X a ta) (hb : PE X (.BoolOp .And (b :: rest) pos) tb) : PE X (.BoolOp .And (a :: b :: rest) pos) (tAndV ta tb) := by
  intro pins s σ H Q I h
  refine BoolOp_and (thn (ha pins s σ H _ I h) fun v s1 ⟨x, H1, I1, r1, q1⟩ => ?_)
  obtain ⟨c, rfl, q1⟩ := q1
  cases r1
  refine wpAny_truthy_bool ?_
  cases c with
  | true => exact hb pins s1 σ H1 Q I1 q1
  | false => exact ⟨.bl false, H1, I1, rfl, q1⟩
theorem pe_or (ha : PE X a ta) (hb : PE X (.BoolOp .Or (b :: rest) pos) tb) : PE X (.BoolOp .Or (a :: b :: rest) pos) (tOrV ta tb) := by
  intro pins s σ H Q I h
  refine BoolOp_or (thn (ha pins s σ H _ I h) fun v s1 ⟨x, H1, I1, r1, q1⟩ => ?_)
  obtain ⟨c, rfl, q1⟩ := q1
  cases r1
  refine wpAny_truthy_bool ?_
  cases c with
  | false => exact hb pins s1 σ H1 Q I1 q1
  | true => exact ⟨.bl true, H1, I1, rfl, q1⟩
theorem pe_not (ha : PE X a ta) : PE X (.UnaryOp .Not a pos) (tNotV ta) := by
  intro pins s σ H Q I h
  refine UnaryOp_ (thn (ha pins s σ H _ I h) fun v s1 ⟨x, H1, I1, r1, q1⟩ => ?_)
  obtain ⟨c, rfl, q1⟩ := q1
  cases r1
  exact not_of (wpAny_truthy_bool ⟨.bl (!c), H1, I1, rfl, q1⟩)
/-- a if t else b -/
def tIf (t : TT) (ta tb : TE) : TE := fun σ H Q => t σ H fun c H1 => if c = true then ta σ H1 Q else tb σ H1 Q
theorem pe_ifExp {c : Expr} (hc : PT X c tA) (ha : PE X a ta) (hb : PE X b tb) : PE X (.IfExp c a b pos) (tIf tA ta tb) := by
  intro pins s σ H Q I h
  refine wpAny_IfExp (thn (hc pins s σ H _ I h) fun d s1 ⟨H1, I1, q1⟩ => ?_)
  cases d with
  | true => exact ha pins s1 σ H1 Q I1 q1
  | false => exact hb pins s1 σ H1 Q I1 q1
end
end L2

namespace L2
open PySem PySem.Spec PyProof.Rows

/-! ### a list, a tuple that is read: tracked, frozen, or an object of the module -/
def SqL (K : PySem.W.Frag) (H : Hp) (a : Addr) (xs : List V) : Prop :=
  Rd H a (.lst xs) ∨
    ∃ (o : Obj) (its : Array Value) (n : Nat), K.lookup a = some o ∧ o.cls = .type "list" ∧ o.dict = none ∧ o.data = .seq its n ∧ its.size ≤ sizeLine ∧ Vals xs its.toList
def SqT (K : PySem.W.Frag) (H : Hp) (a : Addr) (xs : List V) : Prop :=
  Rd H a (.tup xs) ∨
    ∃ (o : Obj) (its : Array Value) (n : Nat), K.lookup a = some o ∧ o.cls = .type "tuple" ∧ o.data = .seq its n ∧ its.size ≤ sizeLine ∧ Vals xs its.toList
def absV : Value → Option V
  | .none => some .non
  | .bool b => some (.bl b)
  | .int i _ => some (.int i)
  | .str x _ => some (.str x)
  | .bytes b _ => some (.byt b)
  | .float b _ => some (.flt b)
  | .ref a => some (.ref a)
  | .type n => some (.ty n)
  | _ => none
theorem RelV.abs {x : V} {u : Value} (r : RelV x u) : absV u = some x := by
  cases x with
  | non => cases r; rfl
  | bl _ => cases r; rfl
  | int _ => obtain ⟨t, rfl⟩ := r; rfl
  | str _ => obtain ⟨t, rfl⟩ := r; rfl
  | byt _ => obtain ⟨t, rfl⟩ := r; rfl
  | flt _ => obtain ⟨t, rfl⟩ := r; rfl
  | ref _ => cases r; rfl
  | ty _ => cases r; rfl
theorem RelV.inj {x y : V} {u : Value} (r : RelV x u) (q : RelV y u) : x = y := Option.some.inj (r.abs.symm.trans q.abs)
theorem Vals.inj : ∀ {xs ys : List V} {us : List Value}, Vals xs us → Vals ys us → xs = ys
  | _, _, _, .nil, .nil => rfl
  | _, _, _, .cons r t, .cons r' t' => by rw [r.inj r', Vals.inj t t']
section
variable {X : Cx} {pins : List (Addr × Obj)} {σ : St} {H : Hp} {s : Shared} {a : Addr} {xs ys : List V}
theorem SqL.of {K : PySem.W.Frag} (h : H a = some (.lst xs)) : SqL K H a xs := .inl (.inl h)
theorem SqT.of {K : PySem.W.Frag} (h : H a = some (.tup xs)) : SqT K H a xs := .inl (.inl h)
theorem Inv.list (I : Inv X pins σ H s) (h : SqL X.K H a xs) : ∃ its : List Value, Vals xs its ∧ PlainL s.heap a its.toArray ∧ xs.length ≤ sizeLine := by
  rcases h with h | ⟨o, its, n, hk, hc, hd, hs, hz, r⟩
  · obtain ⟨z, its, n, r, e⟩ := h.ok I.hok
    exact ⟨its, r, ⟨_, n, e, rfl, rfl, rfl⟩, z⟩
  · refine ⟨its.toList, r, ⟨o, n, I.kIn a o hk, hc, hd, by simpa using hs⟩, ?_⟩
    have e := r.length
    simp only [Array.length_toList] at e
    omega
theorem Inv.tuple (I : Inv X pins σ H s) (h : SqT X.K H a xs) : ∃ its : List Value, Vals xs its ∧ IsTup s.heap a its.toArray ∧ xs.length ≤ sizeLine := by
  rcases h with h | ⟨o, its, n, hk, hc, hs, hz, r⟩
  · obtain ⟨z, its, r, p⟩ := h.ok I.hok
    exact ⟨its, r, p, z⟩
  · refine ⟨its.toList, r, ⟨o, I.kIn a o hk, hc, n, by simpa using hs⟩, ?_⟩
    have e := r.length
    simp only [Array.length_toList] at e
    omega
theorem Inv.list_inj (I : Inv X pins σ H s) (h : SqL X.K H a xs) (h' : SqL X.K H a ys) : xs = ys := by
  obtain ⟨its, r, ⟨o, n, e, _, _, d⟩, _⟩ := I.list h
  obtain ⟨its', r', ⟨o', n', e', _, _, d'⟩, _⟩ := I.list h'
  rw [e] at e'; cases e'
  rw [d] at d'
  injection d' with d1 _
  have : its = its' := by simpa using congrArg Array.toList d1
  subst this
  exact r.inj r'
theorem Inv.tuple_inj (I : Inv X pins σ H s) (h : SqT X.K H a xs) (h' : SqT X.K H a ys) : xs = ys := by
  obtain ⟨its, r, ⟨o, e, _, n, d⟩, _⟩ := I.tuple h
  obtain ⟨its', r', ⟨o', e', _, n', d'⟩, _⟩ := I.tuple h'
  rw [e] at e'; cases e'
  rw [d] at d'
  injection d' with d1 _
  have : its = its' := by simpa using congrArg Array.toList d1
  subst this
  exact r.inj r'
end

/-! ### another wish about exceptions -/
abbrev Cx.wish (X : Cx) (E : Value → Shared → Prop) : Cx := { X with xe := E }
/-- no exception leaves -/
abbrev Cx.nox (X : Cx) : Cx := X.wish fun _ _ => False
theorem Cx.Ok.wish {X : Cx} (ok : X.Ok) (E : Value → Shared → Prop) : (X.wish E).Ok :=
  ⟨ok.mod, ok.kind, ok.glob, ok.blt, ok.above, ok.inj, ok.has, ok.cab, ok.hd, ok.frames, ok.stk, ok.exf, ok.bs, ok.bsz, ok.noex, ok.exfs, ok.funs, ok.frf⟩
theorem Cx.Ok.unwish {X : Cx} {E : Value → Shared → Prop} (ok : (X.wish E).Ok) : X.Ok :=
  ⟨ok.mod, ok.kind, ok.glob, ok.blt, ok.above, ok.inj, ok.has, ok.cab, ok.hd, ok.frames, ok.stk, ok.exf, ok.bs, ok.bsz, ok.noex, ok.exfs, ok.funs, ok.frf⟩
section
variable {X : Cx} {pins : List (Addr × Obj)} {σ : St} {H : Hp} {s : Shared} {E : Value → Shared → Prop}
theorem Inv.wish (I : Inv X pins σ H s) (E : Value → Shared → Prop) : Inv (X.wish E) pins σ H s := ⟨I.ok.wish E, I.os, I.bare, I.base, I.loc, I.cell, I.free, I.freeC, I.pin, I.hok, I.len⟩
theorem Inv.unwish (I : Inv (X.wish E) pins σ H s) : Inv X pins σ H s := ⟨I.ok.unwish, I.os, I.bare, I.base, I.loc, I.cell, I.free, I.freeC, I.pin, I.hok, I.len⟩
theorem SP.unwish {D : Ends} {f : Flow} {s' : Shared} (h : SP (X.wish E) pins D f s') : SP X pins D f s' := by
  cases f with
  | next => obtain ⟨σ', H', I, q⟩ := h; exact ⟨σ', H', I.unwish, q⟩
  | brk => obtain ⟨σ', H', I, q⟩ := h; exact ⟨σ', H', I.unwish, q⟩
  | cont => obtain ⟨σ', H', I, q⟩ := h; exact ⟨σ', H', I.unwish, q⟩
  | ret u => obtain ⟨v, σ', H', I, r, q⟩ := h; exact ⟨v, σ', H', I.unwish, r, q⟩
theorem PE.nox {e : Expr} {t : TE} (h : PE X.nox e t) : PE X e t := fun pins s σ H Q I hw =>
  wpAny_mono (h pins s σ H Q (I.wish _) hw) (fun _ _ ⟨v, H', I', r, q⟩ => ⟨v, H', I'.unwish, r, q⟩) fun _ _ z => False.elim z
theorem PT.nox {e : Expr} {t : TT} (h : PT X.nox e t) : PT X e t := fun pins s σ H Q I hw =>
  wpAny_mono (h pins s σ H Q (I.wish _) hw) (fun _ _ ⟨H', I', q⟩ => ⟨H', I'.unwish, q⟩) fun _ _ z => False.elim z
theorem PSs.nox {st : List Stmt} {t : TS} (h : PSs X.nox st t) : PSs X st t := fun pins s σ H D I hw =>
  wpAny_mono (h pins s σ H D (I.wish _) hw) (fun _ _ q => q.unwish) fun _ _ z => False.elim z
end

/-! ### blocks and small statements -/
section
variable {X : Cx} {st : Stmt} {rest : List Stmt} {t u : TS} {e : Expr} {te : TE} {pos : Pos}
def tNext : TS := fun D σ H => D.nx σ H
def tSeq (t u : TS) : TS := fun D σ H => t { D with nx := u D } σ H
theorem pss_nil : PSs X [] tNext := fun _ _ σ H _ I h => wpAny_execs_nil ⟨σ, H, I, h⟩
theorem pss_cons (h1 : PS X st t) (h2 : PSs X rest u) : PSs X (st :: rest) (tSeq t u) := by
  intro pins s σ H D I h
  refine wpAny_execs_cons (thn (h1 pins s σ H { D with nx := u D } I h) fun f s1 q => ?_)
  cases f with
  | next =>
    obtain ⟨σ', H', I', q⟩ := q
    exact h2 pins s1 σ' H' D I' q
  | ret v => exact q
  | brk => exact q
  | cont => exact q
theorem pss_one (h1 : PS X st t) : PSs X [st] t := by
  intro pins s σ H D I h
  refine wpAny_execs_cons (thn (h1 pins s σ H D I h) fun f s1 q => ?_)
  cases f with
  | next => exact wpAny_execs_nil q
  | ret v => exact q
  | brk => exact q
  | cont => exact q
def tBreak : TS := fun D σ H => D.bk σ H
def tCont : TS := fun D σ H => D.ct σ H
theorem ps_pass : PS X (.Pass pos) tNext := fun _ _ σ H _ I h => wpAny_Pass ⟨σ, H, I, h⟩
theorem ps_break : PS X (.Break pos) tBreak := fun _ _ σ H _ I h => wpAny_Break ⟨σ, H, I, h⟩
theorem ps_continue : PS X (.Continue pos) tCont := fun _ _ σ H _ I h => wpAny_Continue ⟨σ, H, I, h⟩
/-- in a def's body nothing is shown -/
theorem Inv.quiet {pins : List (Addr × Obj)} {σ : St} {H : Hp} {s : Shared} (I : Inv X pins σ H s) : interactive X.env = false := by simp [interactive, I.ok.kind]
/-- a docstring -/
theorem ps_doc {x j pos pos'} : PS X (.Expr (.Constant (.str x) j pos) pos') tNext := fun _ s σ H _ I h => wpAny_Expr (Calls.Constant_str (show SP X _ _ .next { s with toks := s.toks + 1 } from ⟨σ, H, I.tok _, h⟩)) I.quiet
/-- an expression whose value is dropped -/
def tDrop (te : TE) : TS := fun D σ H => te σ H fun _ H1 => D.nx σ H1
theorem ps_expr (he : PE X e te) (hs : swapsWith e none pos.line X.env = pure false := by rfl) : PS X (.Expr e pos) (tDrop te) := by
  intro pins s σ H D I h
  exact wpAny_Expr_any (thn (he pins s σ H _ I h) fun v s1 ⟨x, H1, I1, r1, q1⟩ => ⟨σ, H1, I1, q1⟩) I.quiet hs
def tRet (te : TE) : TS := fun D σ H => te σ H D.rt
theorem ps_ret (he : PE X e te) : PS X (.Return (some e) pos) (tRet te) := by
  intro pins s σ H D I h
  exact wpAny_Return_some (thn (he pins s σ H _ I h) fun v s1 ⟨x, H1, I1, r1, q1⟩ => ⟨x, σ, H1, I1, r1, q1⟩)
def tRetN : TS := fun D _ H => D.rt .non H
theorem ps_retN : PS X (.Return none pos) tRetN := fun _ _ σ H _ I h => wpAny_Return_none ⟨.non, σ, H, I, rfl, h⟩
def tIfS (c : TT) (t u : TS) : TS := fun D σ H => c σ H fun b H1 => if b = true then t D σ H1 else u D σ H1
theorem ps_if {c : Expr} {a b : List Stmt} {tc : TT} (hc : PT X c tc) (ha : PSs X a t) (hb : PSs X b u) : PS X (.If c a b pos) (tIfS tc t u) := by
  intro pins s σ H D I h
  refine wpAny_If (thn (hc pins s σ H _ I h) fun d s1 ⟨H1, I1, q1⟩ => ?_)
  cases d with
  | true => exact ha pins s1 σ H1 D I1 q1
  | false => exact hb pins s1 σ H1 D I1 q1
/-- code that the proof never comes to -/
def tNever : TS := fun _ _ _ => False
theorem ps_never : PS X st tNever := fun _ _ _ _ _ _ h => h.elim
theorem pss_never {sts : List Stmt} : PSs X sts tNever := fun _ _ _ _ _ _ h => h.elim
end

/-! ### targets -/
abbrev TG := V → St → Hp → (St → Hp → Prop) → Prop
abbrev TGs := List V → St → Hp → (St → Hp → Prop) → Prop
def PG (X : Cx) (target : Expr) (t : TG) : Prop :=
  ∀ (pins : List (Addr × Obj)) (s : Shared) (σ : St) (H : Hp) (v : V) (u : Value) (Q : St → Hp → Prop), Inv X pins σ H s → RelV v u → t v σ H Q →
    wpAny (model X.prog X.w) X.A (assign target X.env u) (fun _ s' => ∃ σ' H', Inv X pins σ' H' s' ∧ Q σ' H') X.xe s
/-- several targets, one after another -/
def PGs (X : Cx) (ts : List Expr) (t : TGs) : Prop :=
  ∀ (pins : List (Addr × Obj)) (s : Shared) (σ : St) (H : Hp) (vs : List V) (us : List Value) (Q : St → Hp → Prop), Inv X pins σ H s → Vals vs us → t vs σ H Q →
    wpAny (model X.prog X.w) X.A (assignInOrder ((assignEach ts X.env).map (·.2)) us) (fun _ s' => ∃ σ' H', Inv X pins σ' H' s' ∧ Q σ' H') X.xe s
/-- o[i] = v, by values -/
abbrev TSet := V → V → V → Hp → (Hp → Prop) → Prop
def PSet (X : Cx) (t : TSet) : Prop :=
  ∀ (pins : List (Addr × Obj)) (s : Shared) (σ : St) (H : Hp) (o i v : V) (ov iv u : Value) (Q : Hp → Prop), Inv X pins σ H s → RelV o ov → RelV i iv → RelV v u → t o i v H Q →
    wpAny (model X.prog X.w) X.A (setItem ov iv u) (fun _ s' => ∃ H', Inv X pins σ H' s' ∧ Q H') X.xe s
/-- a op= b, by values -/
abbrev TIp := V → V → Hp → VK → Prop
def PIp (X : Cx) (op : Operator) (t : TIp) : Prop :=
  ∀ (pins : List (Addr × Obj)) (s : Shared) (σ : St) (H : Hp) (x y : V) (v u : Value) (Q : VK), Inv X pins σ H s → RelV x v → RelV y u → t x y H Q →
    wpAny (model X.prog X.w) X.A (inplaceOp op v u) (EP X pins σ Q) X.xe s
section
variable {X : Cx} {pos : Pos}
def gName (i : Nat) : TG := fun v σ H Q => Q (σ.set i (some v)) H
theorem pg_name {i : Nat} {x : Str} (hN : X.N.Nodup) (hi : X.N[i]? = some x) (hx : Loc X.env.scope x) (hf : X.fn x = true ∨ X.env.scope.names.lookup x = some .local := by first | exact .inl rfl | exact .inr rfl | assumption) : PG X (.Name x pos) (gName i) := by
  intro pins s σ H v u Q I r h
  exact wpAny_assign_Name (store_ok I hN hi hx r (fun s' I' => ⟨_, H, I', h⟩) hf)
def gNil : TGs := fun vs σ H Q => vs = [] ∧ Q σ H
def gCons (t : TG) (u : TGs) : TGs := fun vs σ H Q => ∃ v r, vs = v :: r ∧ t v σ H fun σ' H' => u r σ' H' Q
theorem pgs_nil : PGs X [] gNil := by
  intro pins s σ H vs us Q I r h
  obtain ⟨e, h⟩ := h
  subst e
  cases r
  exact assignInOrder_nil ⟨σ, H, I, h⟩
theorem pgs_cons {e : Expr} {es : List Expr} {t : TG} {u : TGs} (h1 : PG X e t) (h2 : PGs X es u)
    (hs : (assignEach (e :: es) X.env).map (·.2) = assign e X.env :: (assignEach es X.env).map (·.2) := by rfl) : PGs X (e :: es) (gCons t u) := by
  intro pins s σ H vs us Q I r h
  obtain ⟨v, vr, e1, h⟩ := h
  subst e1
  cases r with
  | cons r rr =>
    rw [hs]
    refine assignInOrder_cons (thn (h1 pins s σ H _ _ _ I r h) fun _ s1 ⟨σ1, H1, I1, q1⟩ => ?_)
    exact h2 pins s1 σ1 H1 _ _ Q I1 rr q1
/-- (a, b, ..) = a tuple of that length -/
def gTup (K : PySem.W.Frag) (n : Nat) (t : TGs) : TG := fun v σ H Q => ∃ a xs, v = .ref a ∧ SqT K H a xs ∧ xs.length = n ∧ t xs σ H Q
theorem pg_tup {es : List Expr} {k : Nat} {t : TGs} {n : Nat} (hc : X.calm = true) (h : PGs X es t)
    (hn : (assignEach es X.env).length = n := by rfl) (hst : (assignEach es X.env).findIdx? (·.1) = none := by rfl) : PG X (.Tuple es k pos) (gTup X.K n t) := by
  intro pins s σ H v u Q I r hw
  obtain ⟨a, xs, e1, hq, hl, hw⟩ := hw
  subst e1
  cases r
  obtain ⟨its, rv, ht, hz⟩ := I.tuple hq
  refine assign_Tuple_tuple (I.ok.hd hc) ht (by simp [hn, ← hl, rv.length]) hst fun h' hx => ?_
  have I1 : Inv X pins σ H { s with heap := h' } := I.kept (t' := s.toks) fun b o e => hx b o (Nat.ne_of_lt (Heap.lt_size e)) e
  exact h pins _ σ H xs _ Q I1 (by simpa using rv) hw
/-- o[i] = .. -/
def gSub (to ti : TE) (t : TSet) : TG := fun v σ H Q => to σ H fun o H1 => ti σ H1 fun i H2 => t o i v H2 fun H3 => Q σ H3
theorem pg_sub {o i : Expr} {to ti : TE} {t : TSet} (ho : PE X o to) (hi : PE X i ti) (hs : PSet X t)
    (ha : ∀ v, assign (.Subscript o i pos) X.env v = (do
      let ov ← holding [v] (eval o X.env)
      let iv ← holding [v, ov] (eval i X.env)
      standAt pos
      holding [v, ov, iv] (setItem ov iv v)
      release [v, ov, iv] []) := by intro _; rfl) : PG X (.Subscript o i pos) (gSub to ti t) := by
  intro pins s σ H v u Q I r h
  rw [ha]
  refine wpAny_bind (wpAny_holding (thn (ho pins s σ H _ I h) fun ov s1 ⟨x, H1, I1, r1, q1⟩ => ?_))
  refine wpAny_bind (wpAny_holding (thn (hi pins s1 σ H1 _ I1 q1) fun iv s2 ⟨y, H2, I2, r2, q2⟩ => ?_))
  refine wpAny_bind (wpAny_standAt (wpAny_bind (wpAny_holding (thn (hs pins s2 σ H2 x y v ov iv u _ I2 r1 r2 r q2) fun _ s3 ⟨H3, I3, q3⟩ => ?_))))
  exact wpAny_release ⟨σ, H3, I3, q3⟩
/-- target = value -/
def tAsg (te : TE) (g : TG) : TS := fun D σ H => te σ H fun x H1 => g x σ H1 D.nx
theorem ps_asg {tg e : Expr} {te : TE} {g : TG} (he : PE X e te) (hg : PG X tg g) (hs : swapsWithSole [tg] e pos.line X.env = pure false := by rfl) (hw : swappedStores [tg] e X.env = pure none := by rfl)
    (h1 : (assignEach [tg] X.env).map (·.2) = [assign tg X.env] := by rfl) : PS X (.Assign [tg] e pos) (tAsg te g) := by
  intro pins s σ H D I h
  refine wpAny_Assign_stores (thn (he pins s σ H _ I h) fun v s1 ⟨x, H1, I1, r1, q1⟩ => ?_) hs hw
  rw [h1]
  exact thn (hg pins s1 σ H1 x v _ I1 r1 q1) fun _ s2 q => q
/-- name = value -/
theorem ps_set {i : Nat} {x : Str} {e : Expr} {te : TE} {pos' : Pos} (hN : X.N.Nodup) (hi : X.N[i]? = some x) (hx : Loc X.env.scope x) (he : PE X e te) (hs : swapsWith e (some (.Name x pos')) pos.line X.env = pure false := by rfl) (hf : X.fn x = true ∨ X.env.scope.names.lookup x = some .local := by first | exact .inl rfl | exact .inr rfl | assumption) :
    PS X (.Assign [.Name x pos'] e pos) (tAsg te (gName i)) := by
  intro pins s σ H D I h
  refine wpAny_Assign_Name (thn (he pins s σ H _ I h) fun v s1 ⟨y, H1, I1, r1, q1⟩ => ?_) hs
  exact store_ok I1 hN hi hx r1 (fun s2 I2 => ⟨_, H1, I2, q1⟩) hf
/-- a, b = x, y with plain local names: stored from the right; the pair itself is not tracked (the opening rows as in PyProof/Rows/TupAssign.lean:23) -/
def tPar (i j : Nat) (ta : TA) : TS := fun D σ H => ta σ H fun vs H1 => ∃ v w, vs = [v, w] ∧ D.nx ((σ.set i (some v)).set j (some w)) H1
theorem ps_par {i j : Nat} {x y : Str} {a b : Expr} {ta : TA} {px py pt : Pos} {kt k2 pt2} (hc : X.calm = true) (hN : X.N.Nodup) (hi : X.N[i]? = some x) (hj : X.N[j]? = some y) (hij : i ≠ j)
    (hx : X.env.scope.names.lookup x = some .local) (hy : X.env.scope.names.lookup y = some .local) (ha : PA X [a, b] ta)
    (hw : swappedStores [.Tuple [.Name x px, .Name y py] kt pt] (.Tuple [a, b] k2 pt2) X.env = pure (some [x, y]))
    (hs : swapsWithSole [.Tuple [.Name x px, .Name y py] kt pt] (.Tuple [a, b] k2 pt2) pos.line X.env = pure false := by rfl) :
    PS X (.Assign [.Tuple [.Name x px, .Name y py] kt pt] (.Tuple [a, b] k2 pt2) pos) (tPar i j ta) := by
  intro pins s σ H D I h
  rw [exec_Assign_arm]
  refine wpAny_bind (wpAny_standAt ?_)
  rw [hs]
  refine wpAny_bind (wpAny_pure ?_)
  rw [if_neg (by decide)]
  refine wpAny_bind (Tuple_ (thn (ha _ pins s σ H _ I h) fun us s1 ⟨vs, H1, I1, r1, q1⟩ => ?_))
  obtain ⟨v, w, e1, q1⟩ := q1
  subst e1
  obtain ⟨u1, u2, rfl, rv, rw'⟩ : ∃ u1 u2, us = [u1, u2] ∧ RelV v u1 ∧ RelV w u2 := by
    cases r1 with
    | cons p q =>
      cases q with
      | cons p' q' =>
        cases q'
        exact ⟨_, _, rfl, p, p'⟩
  refine wpAny_newObj_type ?_ (by show 2 ≤ sizeLine; decide)
  have I2 : Inv X pins σ H1 { s1 with heap := s1.heap.push { cls := .type "tuple", data := .seq [u1, u2].toArray } } := I1.kept (t' := s1.toks) fun b o e => Heap.get?_push_of_some _ e
  rw [hw]
  refine wpAny_bind (wpAny_pure ?_)
  show wpAny (model X.prog X.w) X.A (do rule "assign.swapped-stores"; let items ← unpackItems (.ref s1.heap.objs.size) 2 none; assignInOrder [fun v => bindName X.env y v, fun v => bindName X.env x v] items.reverse; pure Flow.next) _ _ _
  refine wpAny_bind (wpAny_rule (wpAny_bind (unpackItems_tuple (items := #[u1, u2]) (I.ok.hd hc) (IsTup.new s1.heap _) fun h' hx' => ?_)))
  have I3 := I2.kept (h' := h') (t' := s1.toks) fun b o e => hx' b o (Nat.ne_of_lt (Heap.lt_size e)) e
  show wpAny _ _ (assignInOrder [fun v => bindName X.env y v, fun v => bindName X.env x v] [u2, u1] >>= fun _ => pure Flow.next) _ _ _
  refine wpAny_bind (assignInOrder_cons (wpAny_bindName (store_ok I3 hN hj (.inl hy) rw' (fun s2 I4 => ?_) (.inr hy))))
  refine assignInOrder_cons (wpAny_bindName (store_ok I4 hN hi (.inl hx) rv (fun s3 I5 => assignInOrder_nil (wpAny_pure ?_)) (.inr hx)))
  rw [List.set_comm _ _ (Ne.symm hij)] at I5
  exact ⟨_, H1, I5, q1⟩
/-- name op= e -/
def tAug (i : Nat) (te : TE) (ti : TIp) : TS := fun D σ H => ∃ x, σ[i]? = some (some x) ∧ te σ H fun y H1 => ti x y H1 fun z H2 => D.nx (σ.set i (some z)) H2
theorem ps_aug {i : Nat} {x : Str} {e : Expr} {te : TE} {op : Operator} {ti : TIp} {pos' : Pos} (hN : X.N.Nodup) (hi : X.N[i]? = some x) (hx : Loc X.env.scope x) (he : PE X e te) (ho : PIp X op ti) (hf : X.fn x = true ∨ X.env.scope.names.lookup x = some .local := by first | exact .inl rfl | exact .inr rfl | assumption) :
    PS X (.AugAssign (.Name x pos') op e pos) (tAug i te ti) := by
  intro pins s σ H D I h
  obtain ⟨v, e1, h⟩ := h
  obtain ⟨m, hn, hl⟩ := I.loc
  have vis : Vis X.env.scope x := by rcases hx with k | k; exact .inl k; exact .inr (.inl k)
  obtain ⟨u, r, l⟩ := hl i x v hi e1 vis
  refine wpAny_AugAssign_Name ?_
  have go : wpAny (model X.prog X.w) X.A (eval e X.env) (fun w s₂ => wpAny (model X.prog X.w) X.A (inplaceOp op u w) (fun r s₃ => wpAny (model X.prog X.w) X.A (storeName X.env x r) (fun _ => SP X pins D .next) X.xe s₃) X.xe s₂) X.xe s := by
    refine thn (he pins s σ H _ I h) fun w s1 ⟨y, H1, I1, r1, q1⟩ => ?_
    refine thn (ho pins s1 σ H1 v y u w _ I1 r r1 q1) fun z s2 ⟨zv, H2, I2, r2, q2⟩ => ?_
    exact store_ok I2 hN hi hx r2 (fun s3 I3 => ⟨_, H2, I3, q2⟩) hf
  rcases l with ⟨hk, hm⟩ | ⟨hk, c, hc, hcell⟩
  · exact wpAny_loadName_local I.ok.kind hk hn hm go
  · rcases hk with hk | hk
    · exact wpAny_loadName_cell I.ok.kind hk hc hcell go
    · rcases hx with k | k
      · have : X.env.scope.names.lookup x = some .free := hk
        rw [k] at this; cases this
      · have : X.env.scope.names.lookup x = some .free := hk
        rw [k] at this; cases this
/-- o[i] op= e -/
def tAugS (to ti te : TE) (tget : V → V → Hp → VK → Prop) (tip : TIp) (tset : TSet) : TS := fun D σ H => to σ H fun o H1 => ti σ H1 fun i H2 => tget o i H2 fun x H3 => te σ H3 fun y H4 => tip x y H4 fun z H5 => tset o i z H5 fun H6 => D.nx σ H6
/-- o[i], by values -/
def PGet (X : Cx) (t : V → V → Hp → VK → Prop) : Prop :=
  ∀ (pins : List (Addr × Obj)) (s : Shared) (σ : St) (H : Hp) (o i : V) (ov iv : Value) (Q : VK), Inv X pins σ H s → RelV o ov → RelV i iv → t o i H Q →
    wpAny (model X.prog X.w) X.A (getItem ov iv) (EP X pins σ Q) X.xe s
theorem ps_augS {o i e : Expr} {to ti te : TE} {tget : V → V → Hp → VK → Prop} {tip : TIp} {tset : TSet} {op : Operator} {tpos : Pos} (ho : PE X o to) (hi : PE X i ti) (hg : PGet X tget) (he : PE X e te) (hp : PIp X op tip) (hs : PSet X tset)
    (ha : ∀ ov iv new, augStore i ov iv new = (do holding [new, ov, iv] (setItem ov iv new); release [new, ov, iv] []; pure .next) := by intros; rfl) : PS X (.AugAssign (.Subscript o i tpos) op e pos) (tAugS to ti te tget tip tset) := by
  intro pins s σ H D I h
  refine wpAny_AugAssign_SubscriptAny (thn (ho pins s σ H _ I h) fun ov s1 ⟨x1, H1, I1, r1, q1⟩ => ?_) ha
  refine thn (hi pins s1 σ H1 _ I1 q1) fun iv s2 ⟨x2, H2, I2, r2, q2⟩ => ?_
  refine thn (hg pins s2 σ H2 x1 x2 ov iv _ I2 r1 r2 q2) fun old s3 ⟨x3, H3, I3, r3, q3⟩ => ?_
  refine thn (he pins s3 σ H3 _ I3 q3) fun v s4 ⟨x4, H4, I4, r4, q4⟩ => ?_
  refine thn (hp pins s4 σ H4 x3 x4 old v _ I4 r3 r4 q4) fun new s5 ⟨x5, H5, I5, r5, q5⟩ => ?_
  exact thn (hs pins s5 σ H5 x1 x2 x5 ov iv new _ I5 r1 r2 r5 q5) fun _ s6 ⟨H6, I6, q6⟩ => ⟨σ, H6, I6, q6⟩
/-- ints -/
def ipI (f : Int → Int → Int) : TIp := fun x y H Q => ∃ i j, x = .int i ∧ y = .int j ∧ Q (.int (f i j)) H
theorem ip_add : PIp X .Add (ipI fun i j => i + j) := by
  intro pins s σ H x y v u Q I r1 r2 h
  obtain ⟨i, j, e1, e2, q⟩ := h
  subst e1; subst e2
  obtain ⟨t, rfl⟩ := r1
  obtain ⟨t', rfl⟩ := r2
  exact iadd_int ⟨.int _, H, I.tok _, ⟨_, rfl⟩, q⟩
theorem ip_sub : PIp X .Sub (ipI fun i j => i - j) := by
  intro pins s σ H x y v u Q I r1 r2 h
  obtain ⟨i, j, e1, e2, q⟩ := h
  subst e1; subst e2
  obtain ⟨t, rfl⟩ := r1
  obtain ⟨t', rfl⟩ := r2
  exact isub_int ⟨.int _, H, I.tok _, ⟨_, rfl⟩, q⟩
end

/-! ### while -/
section
variable {X : Cx} {pos : Pos}
/-- the invariant W with its measure -/
def tWhile (c : TT) (tb : TS) : TS := fun D σ H => ∃ W : Nat → St → Hp → Prop, (∃ m, W m σ H) ∧ ∀ m σ H, W m σ H →
  c σ H fun b H1 => if b = true then ∃ N : St → Hp → Prop, (∀ σ' H', N σ' H' → ∃ m', m' < m ∧ W m' σ' H') ∧ tb { D with nx := N, ct := N, bk := D.nx } σ H1 else D.nx σ H1
theorem ps_while {c : Expr} {body : List Stmt} {tc : TT} {tb : TS} (hp : PassesOwn (model X.prog X.w) X.A X.env X.xe) (hc : PT X c tc) (hb : PSs X body tb) : PS X (.While c body [] pos) (tWhile tc tb) := by
  intro pins s σ H D I h
  obtain ⟨W, ⟨m0, w0⟩, turn⟩ := h
  refine wpAny_While (codeAny_whileLoop (fun n s' => ∃ σ' H', Inv X pins σ' H' s' ∧ W n σ' H') ?_ m0 ⟨σ, H, I, w0⟩)
  rintro n s1 ⟨σ1, H1, I1, w1⟩
  refine wpAny_passesOwn hp (thn (hc pins s1 σ1 H1 _ I1 (turn n σ1 H1 w1)) fun b s2 ⟨H2, I2, q2⟩ => ?_)
  cases b with
  | true =>
    obtain ⟨N, hN, q2⟩ := q2
    rw [if_pos rfl]
    refine wpAny_passesOwn hp (thn (hb pins s2 σ1 H2 _ I2 q2) fun f s3 q3 => ?_)
    cases f with
    | next =>
      obtain ⟨σ3, H3, I3, n3⟩ := q3
      obtain ⟨m', hm, w3⟩ := hN σ3 H3 n3
      exact ⟨m', hm, σ3, H3, I3, w3⟩
    | cont =>
      obtain ⟨σ3, H3, I3, n3⟩ := q3
      obtain ⟨m', hm, w3⟩ := hN σ3 H3 n3
      exact ⟨m', hm, σ3, H3, I3, w3⟩
    | brk => exact q3
    | ret v => exact q3
  | false =>
    rw [if_neg Bool.false_ne_true]
    exact wpAny_execs_nil ⟨σ1, H2, I2, q2⟩
end

/-! ### what a loop or a comprehension walks -/
/-- at turn i: it yields x (the heap may grow), or it stops -/
structure It where
  go : Nat → Hp → Prop
  yld : Nat → Hp → V → Hp → Prop
  stop : Nat → Hp → Prop
/-- the iterator's own objects may turn: they are not the frame's, not pinned, younger than the entry (or a comprehension's own) -/
def FpOk (X : Cx) (pins : List (Addr × Obj)) (H : Hp) (b : Addr) : Prop :=
  H b = none ∧ b ≠ X.env.locals ∧ b ∉ X.fs ∧ (b ∈ X.ex ∨ X.s₀.heap.objs.size ≤ b) ∧ (∀ x c, X.env.cells.lookup x = some c → c ≠ b) ∧ ∀ p ∈ X.pn ++ pins, p.1 ≠ b
theorem Inv.fpOk {X : Cx} {pins : List (Addr × Obj)} {σ : St} {H H' : Hp} {s : Shared} {b : Addr} (I : Inv X pins σ H s) (hb : s.heap.objs.size ≤ b) (hn : H' b = none) : FpOk X pins H' b := by
  refine ⟨hn, Nat.ne_of_gt (Nat.lt_of_lt_of_le I.lt hb), I.nofs hb, .inr (Nat.le_trans I.sz hb), fun x c e z => ?_, fun p hp z => ?_⟩
  · obtain ⟨v, q⟩ := I.cell x c e
    exact absurd (Nat.lt_of_lt_of_le q.lt (by rw [z]; exact hb)) (Nat.lt_irrefl _)
  · exact absurd (Nat.lt_of_lt_of_le (Heap.lt_size (I.pin p hp).1) (by rw [z]; exact hb)) (Nat.lt_irrefl _)
structure Turn (P : Program) (w : World) (K : PySem.W.Frag) (tg : Expr) (J : It) (fp : List Addr) (it : Addr) (tn : Nat → Heap → Prop) : Prop where
  mem : it ∈ fp
  obj : ∀ i h, tn i h → ∀ b ∈ fp, ∃ o, h.get? b = some o ∧ ∀ v, o.data ≠ .cell v
  keep : ∀ i h h', tn i h → (∀ b ∈ fp, ∀ o, h.get? b = some o → h'.get? b = some o) → tn i h'
  item : ∀ (X : Cx), X.prog = P → X.w = w → X.K = K → X.calm = true → ∀ (i : Nat) (pins : List (Addr × Obj)) (s : Shared) (σ : St) (H : Hp) (E : Value → Shared → Prop), Inv X pins σ H s → (∀ b ∈ fp, FpOk X pins H b) → tn i s.heap → J.go i H →
    wpAny (model P w) X.A (pyNext (.ref it)) (fun r s1 => ∃ u, r = some u ∧
      wpAny (model P w) X.A (letOwnedTupleGo tg (.ref it) u) (fun _ s2 => ∃ x H', Inv X pins σ H' s2 ∧ RelV x u ∧ J.yld i H x H' ∧ tn (i + 1) s2.heap ∧ ∀ b ∈ fp, H' b = none) E s1) E s
  done : ∀ (X : Cx), X.prog = P → X.w = w → X.K = K → X.calm = true → ∀ (i : Nat) (pins : List (Addr × Obj)) (s : Shared) (σ : St) (H : Hp) (E : Value → Shared → Prop), Inv X pins σ H s → (∀ b ∈ fp, FpOk X pins H b) → tn i s.heap → J.stop i H →
    wpAny (model P w) X.A (pyNext (.ref it)) (fun r s1 => r = none ∧ Inv X pins σ H s1) E s
  self : ∀ (A : Around) (i : Nat) (s : Shared) (Q : Value → Shared → Prop) (E : Value → Shared → Prop), tn i s.heap → Q (.ref it) s → wpAny (model P w) A (pyIter (.ref it)) Q E s
abbrev TI := St → Hp → (It → Hp → Prop) → Prop
/-- an iterator has come -/
def PIE (X : Cx) (pins : List (Addr × Obj)) (σ : St) (tg : Expr) (R : It → Hp → Prop) (itv : Value) (s2 : Shared) : Prop :=
  ∃ (it : Addr) (fp : List Addr) (tn : Nat → Heap → Prop) (J : It) (H' : Hp), itv = .ref it ∧ Inv X pins σ H' s2 ∧ Turn X.prog X.w X.K tg J fp it tn ∧ tn 0 s2.heap ∧ (∀ b ∈ fp, FpOk X pins H' b) ∧ R J H'
def PI (X : Cx) (tg iter : Expr) (wi : TI) : Prop :=
  ∀ (pins : List (Addr × Obj)) (s : Shared) (σ : St) (H : Hp) (R : It → Hp → Prop), Inv X pins σ H s → wi σ H R →
    wpAny (model X.prog X.w) X.A (eval iter X.env) (fun v s1 => wpAny (model X.prog X.w) X.A (pyIter v) (PIE X pins σ tg R) X.xe s1) X.xe s

/-- the step ahead of the store is nothing for an iterator that keeps no tuple -/
theorem go_of {M : Model} {A : Around} {E : Value → Shared → Prop} {s : Shared} {tg : Expr} {it : Addr} {u : Value} {o : Obj} {n : String} {vs : Array Value} {Q : Unit → Shared → Prop} (ho : s.heap.get? it = some o) (hc : o.cls = .type n) (hd : o.data = .fields vs)
    (hn : ["enumerate", "zip", "dict_itemiterator", "dict_reverseitemiterator", "odict_iterator", "itertools.zip_longest", "itertools.pairwise"].contains n = false) (hQ : Q () s) : wpAny M A (letOwnedTupleGo tg (.ref it) u) Q E s := by
  unfold letOwnedTupleGo
  cases tg <;> first
    | exact wpAny_pure hQ
    | (cases u <;> first
        | exact wpAny_pure hQ
        | (refine wpAny_bind (wpAny_load ho ?_)
           rw [hc, hd]
           show wpAny M A (if (["enumerate", "zip", "dict_itemiterator", "dict_reverseitemiterator", "odict_iterator", "itertools.zip_longest", "itertools.pairwise"].contains n && vs[0]? == some (rawInt _)) = true then _ else _) Q E s
           rw [if_neg (by intro h; rw [hn, Bool.false_and] at h; cases h)]
           exact wpAny_pure hQ))

/-- the list at a, as it stands at each turn (a loop may append to it) -/
def Itl (K : PySem.W.Frag) (a : Addr) : It :=
  ⟨fun i H => ∃ xs x, SqL K H a xs ∧ xs[i]? = some x, fun i H x H' => H' = H ∧ ∀ xs, SqL K H a xs → xs[i]? = some x, fun i H => ∃ xs, SqL K H a xs ∧ xs.length ≤ i⟩
def Itt (K : PySem.W.Frag) (a : Addr) : It :=
  ⟨fun i H => ∃ xs x, SqT K H a xs ∧ xs[i]? = some x, fun i H x H' => H' = H ∧ ∀ xs, SqT K H a xs → xs[i]? = some x, fun i H => ∃ xs, SqT K H a xs ∧ xs.length ≤ i⟩
/-- lo, lo + 1, .. (n of them) -/
def Itr (lo : Int) (n : Nat) : It := ⟨fun i _ => i < n, fun i H x H' => H' = H ∧ x = .int (lo + i), fun i _ => n ≤ i⟩
theorem turn_list {P : Program} {w : World} {K : PySem.W.Frag} {tg : Expr} (a it : Addr) : Turn P w K tg (Itl K a) [it] it (fun i h => h.IsListIter it a i) where
  mem := by simp
  obj := fun i h st b hb => by
    have e : b = it := by simpa using hb
    subst e
    obtain ⟨o, e, c, d⟩ := st
    exact ⟨o, e, fun v z => by rw [d] at z; cases z⟩
  keep := fun i h h' st k => st.at fun o e => k it (by simp) o e
  item := by
    intro X hP hw hK hc i pins s σ H E I hf st hg
    subst hP hw hK
    obtain ⟨xs, x, hq, hx⟩ := hg
    obtain ⟨its, rv, p, hz⟩ := I.list hq
    obtain ⟨u, hu, ru⟩ := rv.get hx
    obtain ⟨f0, f1, f2, f3, f4, f5⟩ := hf it (by simp)
    refine wpAny_pyNext_list_item st p.isList (x := u) (by simpa using hu) fun h' st' sb => ?_
    have I1 : Inv X pins σ H { s with heap := h' } := I.turned (t' := s.toks) (fun b o hb e => (sb.2 b hb).trans e) f0 f1 f3 f4 f5
    obtain ⟨o, e, c, d⟩ := id st'
    exact ⟨u, rfl, go_of (s := { s with heap := h' }) e c d (by decide) ⟨x, H, I1, ru, ⟨rfl, fun ys hy => by rw [I.list_inj hy hq]; exact hx⟩, st', fun b hb => (hf b hb).1⟩⟩
  done := by
    intro X hP hw hK hc i pins s σ H E I hf st hg
    subst hP hw hK
    obtain ⟨xs, hq, hx⟩ := hg
    obtain ⟨its, rv, p, hz⟩ := I.list hq
    obtain ⟨f0, f1, f2, f3, f4, f5⟩ := hf it (by simp)
    have hl := rv.length
    exact wpAny_pyNext_list_end (I.ok.hd hc) st p.isList (by simp; omega) fun h' eb => ⟨rfl, I.turned (t' := s.toks) (fun b o hb e => eb b o hb e) f0 f1 f3 f4 f5⟩
  self := fun _ _ _ _ _ st h => wpAny_pyIter_listiter st h
theorem turn_tuple {P : Program} {w : World} {K : PySem.W.Frag} {tg : Expr} (a it : Addr) : Turn P w K tg (Itt K a) [it] it (fun i h => h.IsTupleIter it a i) where
  mem := by simp
  obj := fun i h st b hb => by
    have e : b = it := by simpa using hb
    subst e
    obtain ⟨o, e, c, d⟩ := st
    exact ⟨o, e, fun v z => by rw [d] at z; cases z⟩
  keep := fun i h h' st k => st.at fun o e => k it (by simp) o e
  item := by
    intro X hP hw hK hc i pins s σ H E I hf st hg
    subst hP hw hK
    obtain ⟨xs, x, hq, hx⟩ := hg
    obtain ⟨its, rv, p, hz⟩ := I.tuple hq
    obtain ⟨u, hu, ru⟩ := rv.get hx
    obtain ⟨f0, f1, f2, f3, f4, f5⟩ := hf it (by simp)
    refine wpAny_pyNext_tuple_item st (show s.heap.IsTuple a its.toArray from p) (x := u) (by simpa using hu) fun h' st' sb => ?_
    have I1 : Inv X pins σ H { s with heap := h' } := I.turned (t' := s.toks) (fun b o hb e => (sb.2 b hb).trans e) f0 f1 f3 f4 f5
    obtain ⟨o, e, c, d⟩ := id st'
    exact ⟨u, rfl, go_of (s := { s with heap := h' }) e c d (by decide) ⟨x, H, I1, ru, ⟨rfl, fun ys hy => by rw [I.tuple_inj hy hq]; exact hx⟩, st', fun b hb => (hf b hb).1⟩⟩
  done := by
    intro X hP hw hK hc i pins s σ H E I hf st hg
    subst hP hw hK
    obtain ⟨xs, hq, hx⟩ := hg
    obtain ⟨its, rv, p, hz⟩ := I.tuple hq
    obtain ⟨f0, f1, f2, f3, f4, f5⟩ := hf it (by simp)
    have hl := rv.length
    exact wpAny_pyNext_tuple_end (I.ok.hd hc) st (show s.heap.IsTuple a its.toArray from p) (by simp; omega) fun h' eb => ⟨rfl, I.turned (t' := s.toks) (fun b o hb e => eb b o hb e) f0 f1 f3 f4 f5⟩
  self := fun _ _ _ _ _ st h => wpAny_pyIter_tupleiter st h
theorem turn_range {P : Program} {w : World} {K : PySem.W.Frag} {tg : Expr} (it : Addr) (lo : Int) (n : Nat) : Turn P w K tg (Itr lo n) [it] it (fun i h => IsRangeIter h it (lo + (i : Nat) * 1) ((n : Int) - (i : Nat)) 1) where
  mem := by simp
  obj := fun i h st b hb => by
    have e : b = it := by simpa using hb
    subst e
    exact ⟨_, st, fun v z => by
      have z' : Data.fields _ = Data.cell v := z
      cases z'⟩
  keep := fun i h h' st k => k it (by simp) _ st
  item := by
    intro X hP hw hK hc i pins s σ H E I hf st hg
    subst hP hw hK
    obtain ⟨f0, f1, f2, f3, f4, f5⟩ := hf it (by simp)
    have W := Walks.range (prog := X.prog) (w := X.w) (I.ok.hd hc) it lo 1 n
    refine W.item i s _ _ hg st fun v h' tk hv st' kk => ?_
    obtain ⟨t, rfl⟩ := hv
    have I1 : Inv X pins σ H { s with heap := h', toks := tk } := I.turned (fun b o hb e => kk b o (by simpa using hb) e) f0 f1 f3 f4 f5
    refine ⟨_, rfl, go_of (s := { s with heap := h', toks := tk }) (n := "range_iterator") st' rfl rfl (by decide) ⟨.int (lo + i), H, I1, ⟨t, ?_⟩, ⟨rfl, rfl⟩, st', fun b hb => (hf b hb).1⟩⟩
    rw [Int.mul_one]
  done := by
    intro X hP hw hK hc i pins s σ H E I hf st hg
    subst hP hw hK
    obtain ⟨f0, f1, f2, f3, f4, f5⟩ := hf it (by simp)
    exact wpAny_pyNext_range_end (I.ok.hd hc) st (by have : n ≤ i := hg; omega) fun h' eb => ⟨rfl, I.turned (t' := s.toks) (fun b o hb e => eb b o hb e) f0 f1 f3 f4 f5⟩
  self := fun _ _ _ _ _ st h => wpAny_pyIter_rangeiter st h
end L2

namespace L2
open PySem PySem.Spec PyProof.Rows
section
variable {X : Cx} {tg : Expr}
def iList (K : PySem.W.Frag) (tl : TE) : TI := fun σ H R => tl σ H fun x H1 => ∃ a, x = .ref a ∧ (∃ xs, SqL K H1 a xs) ∧ R (Itl K a) H1
def iTup (K : PySem.W.Frag) (tl : TE) : TI := fun σ H R => tl σ H fun x H1 => ∃ a, x = .ref a ∧ (∃ xs, SqT K H1 a xs) ∧ R (Itt K a) H1
theorem pi_list {l : Expr} {tl : TE} (hl : PE X l tl) : PI X tg l (iList X.K tl) := by
  intro pins s σ H R I h
  refine thn (hl pins s σ H _ I h) fun v s1 ⟨x, H1, I1, r1, q1⟩ => ?_
  obtain ⟨a, e, ⟨xs, hq⟩, q⟩ := q1
  subst e
  cases r1
  obtain ⟨its, rv, p, hz⟩ := I1.list hq
  refine wpAny_pyIter_list p.isList ?_
  refine ⟨s1.heap.objs.size, [s1.heap.objs.size], _, _, H1, rfl, I1.kept (t' := s1.toks) fun b o e => Heap.get?_push_of_some _ e, turn_list a _, ⟨_, Heap.get?_push_size _ rfl, rfl, rfl⟩, fun b hb => ?_, q⟩
  have e : b = s1.heap.objs.size := by simpa using hb
  subst e
  exact I1.fpOk (Nat.le_refl _) (I1.hok.fresh (Nat.le_refl _))
theorem pi_tup {l : Expr} {tl : TE} (hl : PE X l tl) : PI X tg l (iTup X.K tl) := by
  intro pins s σ H R I h
  refine thn (hl pins s σ H _ I h) fun v s1 ⟨x, H1, I1, r1, q1⟩ => ?_
  obtain ⟨a, e, ⟨xs, hq⟩, q⟩ := q1
  subst e
  cases r1
  obtain ⟨its, rv, p, hz⟩ := I1.tuple hq
  refine wpAny_pyIter_tuple (show s1.heap.IsTuple a its.toArray from p) ?_
  refine ⟨s1.heap.objs.size, [s1.heap.objs.size], _, _, H1, rfl, I1.kept (t' := s1.toks) fun b o e => Heap.get?_push_of_some _ e, turn_tuple a _, ⟨_, Heap.get?_push_size _ rfl, rfl, rfl⟩, fun b hb => ?_, q⟩
  have e : b = s1.heap.objs.size := by simpa using hb
  subst e
  exact I1.fpOk (Nat.le_refl _) (I1.hok.fresh (Nat.le_refl _))
/-- a range object just made, walked -/
theorem range_it {pins : List (Addr × Obj)} {σ : St} {H : Hp} {s : Shared} {R : It → Hp → Prop} {E : Value → Shared → Prop} {lo hi : Int} {t u v : Tok} {tk : Nat} (I : Inv X pins σ H s) (h1 : -(2 ^ 62) ≤ lo) (h2 : lo < 2 ^ 62) (h3 : -(2 ^ 62) ≤ hi) (h4 : hi < 2 ^ 62)
    (q : R (Itr lo (hi - lo).toNat) H) : wpAny (model X.prog X.w) X.A (pyIter (.ref s.heap.objs.size)) (PIE X pins σ tg R) E { s with heap := s.heap.push { cls := .type "range", data := .fields #[.int lo t, .int hi u, .int 1 v] }, toks := tk } := by
  refine wpAny_pyIter_range (IsRange.new ..) (small_one h1 h2 h3 h4) ?_
  have I1 : Inv X pins σ H { s with heap := s.heap.push { cls := .type "range", data := .fields #[.int lo t, .int hi u, .int 1 v] }, toks := tk } := I.kept fun b o e => Heap.get?_push_of_some _ e
  refine ⟨(s.heap.push { cls := .type "range", data := .fields #[.int lo t, .int hi u, .int 1 v] }).objs.size, [(s.heap.push { cls := .type "range", data := .fields #[.int lo t, .int hi u, .int 1 v] }).objs.size], _, _, H, rfl,
    I1.kept (t' := tk) fun b o e => Heap.get?_push_of_some _ e, turn_range _ lo (hi - lo).toNat, ?_, fun b hb => ?_, q⟩
  · have e1 : lo + ((0 : Nat) : Int) * 1 = lo := by simp
    have e2 : (((hi - lo).toNat : Nat) : Int) - ((0 : Nat) : Int) = Builtin.Range.rangeSize lo hi 1 := by rw [rangeSize_one]; split <;> omega
    show IsRangeIter _ _ (lo + ((0 : Nat) : Int) * 1) ((((hi - lo).toNat : Nat) : Int) - ((0 : Nat) : Int)) 1
    rw [e1, e2]
    exact Heap.get?_push_size _ rfl
  · have e : b = (s.heap.push { cls := .type "range", data := .fields #[.int lo t, .int hi u, .int 1 v] }).objs.size := by simpa using hb
    subst e
    exact I1.fpOk (Nat.le_refl _) (I1.hok.fresh (Nat.le_refl _))
def iRng1 (ta : TA) : TI := fun σ H R => ta σ H fun vs H1 => ∃ j : Int, vs = [.int j] ∧ -(2 ^ 62) ≤ j ∧ j < 2 ^ 62 ∧ R (Itr 0 j.toNat) H1
def iRng2 (ta : TA) : TI := fun σ H R => ta σ H fun vs H1 => ∃ i j : Int, vs = [.int i, .int j] ∧ (-(2 ^ 62) ≤ i ∧ i < 2 ^ 62 ∧ -(2 ^ 62) ≤ j ∧ j < 2 ^ 62) ∧ R (Itr i (j - i).toNat) H1
theorem pi_range1 {a : Expr} {ta : TA} {p pos : Pos} (hg : Gl X "range") (hm : X.mg "range" = none) (ha : PA X [a] ta) (hs : starEach [a] X.env = [(false, eval a X.env)] := by rfl) : PI X tg (.Call (.Name "range" p) [a] [] pos) (iRng1 ta) := by
  intro pins s σ H R I h
  refine Call_ (ld_blt I hg hm boot_range (PyProof.Rows.callWith_type1 (thn (ha pos pins s σ H _ I h) fun us s1 ⟨vs, H1, I1, r1, q1⟩ => ?_) hs rfl))
  obtain ⟨j, e, q1, q2, q⟩ := q1
  subst e
  cases r1 with
  | cons r rr =>
    cases rr
    obtain ⟨t, rfl⟩ := r
    exact call_range_1 (range_it I1 (by omega) (by omega) q1 q2 (by simpa using q))
theorem pi_range2 {a b : Expr} {ta : TA} {p pos : Pos} (hg : Gl X "range") (hm : X.mg "range" = none) (ha : PA X [a, b] ta) (hs : starEach [a, b] X.env = [(false, eval a X.env), (false, eval b X.env)] := by rfl) (hs2 : starEach [b] X.env = [(false, eval b X.env)] := by rfl) :
    PI X tg (.Call (.Name "range" p) [a, b] [] pos) (iRng2 ta) := by
  intro pins s σ H R I h
  refine Call_ (ld_blt I hg hm boot_range (PyProof.Rows.callWith_type1 (thn (ha pos pins s σ H _ I h) fun us s1 ⟨vs, H1, I1, r1, q1⟩ => ?_) (by rw [hs, hs2]) (by rw [hs2]; rfl)))
  obtain ⟨i, j, e, ⟨q1, q2, q3, q4⟩, q⟩ := q1
  subst e
  cases r1 with
  | cons r rr =>
    cases rr with
    | cons r' rr =>
      cases rr
      obtain ⟨t, rfl⟩ := r
      obtain ⟨t', rfl⟩ := r'
      exact call_range_2 (range_it I1 q1 q2 q3 q4 q)

/-! ### for -/
/-- W: the invariant by the turn and a measure; N: what the body is to reach -/
def tFor (wi : TI) (g : TG) (tb : TS) : TS := fun D σ H => wi σ H fun J H1 => ∃ W : Nat → Nat → St → Hp → Prop, (∃ m, W 0 m σ H1) ∧ ∀ i m σ H, W i m σ H →
  (J.stop i H ∧ D.nx σ H) ∨ (J.go i H ∧ ∃ N : St → Hp → Prop, (∀ σ' H', N σ' H' → ∃ m', m' < m ∧ W (i + 1) m' σ' H') ∧ ∀ x H', J.yld i H x H' → g x σ H' fun σ2 H2 => tb { D with nx := N, ct := N, bk := D.nx } σ2 H2)
/-- the records at fp as they stand -/
def pinsAt (fp : List Addr) (h : Heap) : List (Addr × Obj) := fp.filterMap fun b => (h.get? b).map fun o => (b, o)
theorem mem_pinsAt {fp : List Addr} {h : Heap} {b : Addr} {o : Obj} (hb : b ∈ fp) (e : h.get? b = some o) : (b, o) ∈ pinsAt fp h := List.mem_filterMap.mpr ⟨b, hb, by rw [e]; rfl⟩
theorem of_pinsAt {fp : List Addr} {h : Heap} {p : Addr × Obj} (hp : p ∈ pinsAt fp h) : p.1 ∈ fp ∧ h.get? p.1 = some p.2 := by
  obtain ⟨b, hb, e⟩ := List.mem_filterMap.mp hp
  cases q : h.get? b with
  | none => rw [q] at e; cases e
  | some o =>
    rw [q] at e
    have e' : (b, o) = p := Option.some.inj e
    subst e'
    exact ⟨hb, q⟩
theorem Inv.pinned {pins : List (Addr × Obj)} {σ : St} {H : Hp} {s : Shared} {fp : List Addr} (I : Inv X pins σ H s) (hf : ∀ b ∈ fp, FpOk X pins H b) (ho : ∀ b ∈ fp, ∃ o, s.heap.get? b = some o ∧ ∀ v, o.data ≠ .cell v) : Inv X (pins ++ pinsAt fp s.heap) σ H s :=
  I.pins_of fun p hp => (List.mem_append.mp hp).elim (fun z => I.pin p (List.mem_append_right _ z)) fun z => by
    obtain ⟨hb, e⟩ := of_pinsAt z
    obtain ⟨f0, f1, f2, _⟩ := hf p.1 hb
    obtain ⟨o, e', d⟩ := ho p.1 hb
    rw [e] at e'; cases e'
    exact ⟨e, f0, f1, f2, d⟩
theorem Inv.unpinned {pins pl : List (Addr × Obj)} {σ : St} {H : Hp} {s : Shared} (I : Inv X (pins ++ pl) σ H s) : Inv X pins σ H s := I.pins_of fun p hp => I.pin p (List.mem_append_right _ (List.mem_append_left _ hp))
theorem ps_for {iter : Expr} {body : List Stmt} {wi : TI} {g : TG} {tb : TS} {pos : Pos} (hp : PassesOwn (model X.prog X.w) X.A X.env X.xe) (hc : X.calm = true) (hi : PI X tg iter wi) (hg : PG X tg g) (hb : PSs X body tb)
    (hs : ∀ x, foldedSetIterable iter X.env x = pure x := by intro _; rfl) : PS X (.For tg iter body [] pos) (tFor wi g tb) := by
  intro pins s σ H D I h
  refine wpAny_For (thn (hi pins s σ H _ I h) fun v s1 h1 => thn h1 fun itv s2 h2 => ?_) hs
  obtain ⟨it, fp, tn, J, H2, e, I2, T, st2, f2, W, ⟨m0, w0⟩, turn⟩ := h2
  subst e
  -- what stays true of the iterator's objects through the loop
  have stat : ∀ {H' : Hp}, (∀ b ∈ fp, H' b = none) → ∀ b ∈ fp, FpOk X pins H' b := fun hn b hb => ⟨hn b hb, (f2 b hb).2⟩
  refine codeAny_forLoop_any (fun n s' => ∃ i σ' H', Inv X pins σ' H' s' ∧ tn i s'.heap ∧ (∀ b ∈ fp, H' b = none) ∧ W i n σ' H') ?_ m0 ⟨0, σ, H2, I2, st2, fun b hb => (f2 b hb).1, w0⟩
  rintro n s3 ⟨i, σ3, H3, I3, st3, fr3, w3⟩
  rcases turn i n σ3 H3 w3 with ⟨stop, qn⟩ | ⟨go, N, hN, step⟩
  · refine wpAny_passesOwn hp (thn (T.done X rfl rfl rfl hc i pins s3 σ3 H3 X.xe I3 (stat fr3) st3 stop) fun r s4 ⟨hr, I4⟩ => ?_)
    subst hr
    exact wpAny_execs_nil ⟨σ3, H3, I4, qn⟩
  · refine wpAny_passesOwn hp (thn (T.item X rfl rfl rfl hc i pins s3 σ3 H3 X.xe I3 (stat fr3) st3 go) fun r s4 ⟨u, hr, h4⟩ => ?_)
    subst hr
    refine wpAny_passesOwn hp (thn h4 fun _ s5 ⟨x, H5, I5, r5, y5, st5, fr5⟩ => ?_)
    have I5' := I5.pinned (stat fr5) (T.obj _ _ st5)
    refine wpAny_passesOwn hp (thn (hg _ s5 σ3 H5 x u _ I5' r5 (step x H5 y5)) fun _ s6 ⟨σ6, H6, I6, q6⟩ => ?_)
    refine wpAny_passesOwn hp (thn (hb _ s6 σ6 H6 _ I6 q6) fun f s7 q7 => ?_)
    have again : ∀ {σ7 : St} {H7 : Hp}, Inv X (pins ++ pinsAt fp s5.heap) σ7 H7 s7 → N σ7 H7 → ∃ m, m < n ∧ ∃ i σ' H', Inv X pins σ' H' s7 ∧ tn i s7.heap ∧ (∀ b ∈ fp, H' b = none) ∧ W i m σ' H' := fun {σ7 H7} I7 n7 => by
      obtain ⟨m', hm, w7⟩ := hN σ7 H7 n7
      refine ⟨m', hm, i + 1, σ7, H7, I7.unpinned, T.keep _ _ _ st5 fun b hb o e => (I7.pin (b, o) (List.mem_append_right _ (List.mem_append_right _ (mem_pinsAt hb e)))).1, fun b hb => ?_, w7⟩
      obtain ⟨o, e, d⟩ := T.obj _ _ st5 b hb
      exact (I7.pin (b, o) (List.mem_append_right _ (List.mem_append_right _ (mem_pinsAt hb e)))).2.1
    cases f with
    | next => obtain ⟨σ7, H7, I7, n7⟩ := q7; exact again I7 n7
    | cont => obtain ⟨σ7, H7, I7, n7⟩ := q7; exact again I7 n7
    | brk => obtain ⟨σ7, H7, I7, q7⟩ := q7; exact ⟨σ7, H7, I7.unpinned, q7⟩
    | ret v => obtain ⟨x7, σ7, H7, I7, r7, q7⟩ := q7; exact ⟨x7, σ7, H7, I7.unpinned, r7, q7⟩
end

/-! ### the forms one uses -/
/-- over a list that the body leaves as it is -/
theorem for_list {K : PySem.W.Frag} {a : Addr} {xs : List V} {g : TG} {tb : TS} {D : Ends} {σ : St} {H : Hp} (Pv : Nat → St → Hp → Prop) (h0 : Pv 0 σ H) (hl : ∀ i σ H, i ≤ xs.length → Pv i σ H → SqL K H a xs)
    (hs : ∀ i x σ H, xs[i]? = some x → Pv i σ H → g x σ H fun σ2 H2 => tb { D with nx := Pv (i + 1), ct := Pv (i + 1), bk := D.nx } σ2 H2) (hd : ∀ σ H, Pv xs.length σ H → D.nx σ H) :
    ∃ W : Nat → Nat → St → Hp → Prop, (∃ m, W 0 m σ H) ∧ ∀ i m σ H, W i m σ H →
      ((Itl K a).stop i H ∧ D.nx σ H) ∨ ((Itl K a).go i H ∧ ∃ N : St → Hp → Prop, (∀ σ' H', N σ' H' → ∃ m', m' < m ∧ W (i + 1) m' σ' H') ∧ ∀ x H', (Itl K a).yld i H x H' → g x σ H' fun σ2 H2 => tb { D with nx := N, ct := N, bk := D.nx } σ2 H2) := by
  refine ⟨fun i m σ H => m = xs.length - i ∧ i ≤ xs.length ∧ Pv i σ H, ⟨xs.length, by simp, Nat.zero_le _, h0⟩, ?_⟩
  rintro i m σ H ⟨rfl, hi, p⟩
  have q := hl i σ H hi p
  by_cases hlt : i < xs.length
  · refine .inr ⟨⟨xs, xs[i], q, by simp [hlt]⟩, Pv (i + 1), fun σ' H' p' => ⟨xs.length - (i + 1), by omega, rfl, hlt, p'⟩, fun x H' y => ?_⟩
    obtain ⟨e, y⟩ := y
    subst e
    exact hs i x σ _ (y xs q) p
  · have e : i = xs.length := by omega
    subst e
    exact .inl ⟨⟨xs, q, Nat.le_refl _⟩, hd σ H p⟩
theorem for_tup {K : PySem.W.Frag} {a : Addr} {xs : List V} {g : TG} {tb : TS} {D : Ends} {σ : St} {H : Hp} (Pv : Nat → St → Hp → Prop) (h0 : Pv 0 σ H) (hl : ∀ i σ H, i ≤ xs.length → Pv i σ H → SqT K H a xs)
    (hs : ∀ i x σ H, xs[i]? = some x → Pv i σ H → g x σ H fun σ2 H2 => tb { D with nx := Pv (i + 1), ct := Pv (i + 1), bk := D.nx } σ2 H2) (hd : ∀ σ H, Pv xs.length σ H → D.nx σ H) :
    ∃ W : Nat → Nat → St → Hp → Prop, (∃ m, W 0 m σ H) ∧ ∀ i m σ H, W i m σ H →
      ((Itt K a).stop i H ∧ D.nx σ H) ∨ ((Itt K a).go i H ∧ ∃ N : St → Hp → Prop, (∀ σ' H', N σ' H' → ∃ m', m' < m ∧ W (i + 1) m' σ' H') ∧ ∀ x H', (Itt K a).yld i H x H' → g x σ H' fun σ2 H2 => tb { D with nx := N, ct := N, bk := D.nx } σ2 H2) := by
  refine ⟨fun i m σ H => m = xs.length - i ∧ i ≤ xs.length ∧ Pv i σ H, ⟨xs.length, by simp, Nat.zero_le _, h0⟩, ?_⟩
  rintro i m σ H ⟨rfl, hi, p⟩
  have q := hl i σ H hi p
  by_cases hlt : i < xs.length
  · refine .inr ⟨⟨xs, xs[i], q, by simp [hlt]⟩, Pv (i + 1), fun σ' H' p' => ⟨xs.length - (i + 1), by omega, rfl, hlt, p'⟩, fun x H' y => ?_⟩
    obtain ⟨e, y⟩ := y
    subst e
    exact hs i x σ _ (y xs q) p
  · have e : i = xs.length := by omega
    subst e
    exact .inl ⟨⟨xs, q, Nat.le_refl _⟩, hd σ H p⟩
theorem for_range {lo : Int} {n : Nat} {g : TG} {tb : TS} {D : Ends} {σ : St} {H : Hp} (Pv : Nat → St → Hp → Prop) (h0 : Pv 0 σ H)
    (hs : ∀ i σ H, i < n → Pv i σ H → g (.int (lo + i)) σ H fun σ2 H2 => tb { D with nx := Pv (i + 1), ct := Pv (i + 1), bk := D.nx } σ2 H2) (hd : ∀ σ H, Pv n σ H → D.nx σ H) :
    ∃ W : Nat → Nat → St → Hp → Prop, (∃ m, W 0 m σ H) ∧ ∀ i m σ H, W i m σ H →
      ((Itr lo n).stop i H ∧ D.nx σ H) ∨ ((Itr lo n).go i H ∧ ∃ N : St → Hp → Prop, (∀ σ' H', N σ' H' → ∃ m', m' < m ∧ W (i + 1) m' σ' H') ∧ ∀ x H', (Itr lo n).yld i H x H' → g x σ H' fun σ2 H2 => tb { D with nx := N, ct := N, bk := D.nx } σ2 H2) := by
  refine ⟨fun i m σ H => m = n - i ∧ i ≤ n ∧ Pv i σ H, ⟨n, by simp, Nat.zero_le _, h0⟩, ?_⟩
  rintro i m σ H ⟨rfl, hi, p⟩
  by_cases hlt : i < n
  · refine .inr ⟨hlt, Pv (i + 1), fun σ' H' p' => ⟨n - (i + 1), by omega, rfl, hlt, p'⟩, fun x H' y => ?_⟩
    obtain ⟨e, y⟩ := y
    subst e y
    exact hs i σ _ hlt p
  · have e : i = n := by omega
    subst e
    exact .inl ⟨Nat.le_refl _, hd σ H p⟩
/-- while, by a word and a measure of the state -/
theorem while_by {c : TT} {tb : TS} {D : Ends} {σ : St} {H : Hp} (Pv : St → Hp → Prop) (μ : St → Hp → Nat) (h0 : Pv σ H)
    (hs : ∀ σ H, Pv σ H → c σ H fun b H1 => if b = true then tb { D with nx := fun σ' H' => Pv σ' H' ∧ μ σ' H' < μ σ H, ct := fun σ' H' => Pv σ' H' ∧ μ σ' H' < μ σ H, bk := D.nx } σ H1 else D.nx σ H1)
    (mono : ∀ σ H Q Q', (∀ b H1, Q b H1 → Q' b H1) → c σ H Q → c σ H Q') : tWhile c tb D σ H := by
  refine ⟨fun m σ H => m = μ σ H ∧ Pv σ H, ⟨_, rfl, h0⟩, ?_⟩
  rintro m σ H ⟨rfl, p⟩
  refine mono σ H _ _ (fun b H1 q => ?_) (hs σ H p)
  cases b with
  | true => exact ⟨_, fun σ' H' ⟨p', l⟩ => ⟨_, l, rfl, p'⟩, q⟩
  | false => exact q
end L2

namespace L2
open PySem PySem.Spec PyProof.Rows

abbrev R2 := V → V → Hp → VK → Prop
/-- a two-place operation on values: f is binaryOp op, inplaceOp op or compareOp op -/
def OpR (X : Cx) (f : Value → Value → Sem Value) (r : R2) : Prop :=
  ∀ (pins : List (Addr × Obj)) (s : Shared) (σ : St) (H : Hp) (x y : V) (v u : Value) (Q : VK), Inv X pins σ H s → RelV x v → RelV y u → r x y H Q →
    wpAny (model X.prog X.w) X.A (f v u) (EP X pins σ Q) X.xe s
/-- a one-place operation -/
def UnR (X : Cx) (f : Value → Sem Value) (r : V → Hp → VK → Prop) : Prop :=
  ∀ (pins : List (Addr × Obj)) (s : Shared) (σ : St) (H : Hp) (x : V) (v : Value) (Q : VK), Inv X pins σ H s → RelV x v → r x H Q →
    wpAny (model X.prog X.w) X.A (f v) (EP X pins σ Q) X.xe s
/-- a call of a value that is known (a builtin, a type) with values -/
def CallR (X : Cx) (f : Value) (r : List V → Hp → VK → Prop) : Prop :=
  ∀ (pins : List (Addr × Obj)) (s : Shared) (σ : St) (H : Hp) (xs : List V) (us : List Value) (Q : VK), Inv X pins σ H s → Vals xs us → r xs H Q →
    wpAny (model X.prog X.w) X.A (call f us) (EP X pins σ Q) X.xe s
/-- a value's truth -/
def TruR (X : Cx) (r : V → Hp → (Bool → Hp → Prop) → Prop) : Prop :=
  ∀ (pins : List (Addr × Obj)) (s : Shared) (σ : St) (H : Hp) (x : V) (v : Value) (Q : Bool → Hp → Prop), Inv X pins σ H s → RelV x v → r x H Q →
    wpAny (model X.prog X.w) X.A (truthy v) (TP X pins σ Q) X.xe s

def tOp (r : R2) (ta tb : TE) : TE := fun σ H Q => ta σ H fun x H1 => tb σ H1 fun y H2 => r x y H2 Q
def tUn (r : V → Hp → VK → Prop) (ta : TE) : TE := fun σ H Q => ta σ H fun x H1 => r x H1 Q
/-- ints in, under C, and a value out -/
def rI (C : Int → Int → Prop) (g : Int → Int → V) : R2 := fun x y H Q => ∃ i j, x = .int i ∧ y = .int j ∧ C i j ∧ Q (g i j) H
def rI0 (g : Int → Int → V) : R2 := fun x y H Q => ∃ i j, x = .int i ∧ y = .int j ∧ Q (g i j) H
def rU (g : Int → V) : V → Hp → VK → Prop := fun x H Q => ∃ i, x = .int i ∧ Q (g i) H

section
variable {X : Cx} {a b c : Expr} {ta tb tc : TE} {pos : Pos}

theorem binT (ha : PE X a ta) (hb : PE X b tb) {pins : List (Addr × Obj)} {s : Shared} {σ : St} {H : Hp} {R : V → V → Hp → Prop} (I : Inv X pins σ H s)
    (h : ta σ H fun x H1 => tb σ H1 fun y H2 => R x y H2) {Q : Value → Shared → Prop} {f : Value → Value → Sem Value}
    (hf : ∀ v u s2 x y H2, Inv X pins σ H2 s2 → RelV x v → RelV y u → R x y H2 → wpAny (model X.prog X.w) X.A (f v u) Q X.xe s2) :
    wpAny (model X.prog X.w) X.A (eval a X.env) (fun v s₁ => wpAny (model X.prog X.w) X.A (eval b X.env) (fun u s₂ => wpAny (model X.prog X.w) X.A (f v u) Q X.xe s₂) X.xe s₁) X.xe s := by
  refine thn (ha pins s σ H _ I h) fun v s1 ⟨x, H1, I1, r1, q1⟩ => ?_
  refine thn (hb pins s1 σ H1 _ I1 q1) fun u s2 ⟨y, H2, I2, r2, q2⟩ => ?_
  exact hf v u s2 x y H2 I2 r1 r2 q2

theorem pe_op {op : Operator} {r : R2} (ho : OpR X (binaryOp op) r) (ha : PE X a ta) (hb : PE X b tb) : PE X (.BinOp a op b pos) (tOp r ta tb) := by
  intro pins s σ H Q I h
  exact wpAny_BinOp (binT ha hb I h fun v u s2 x y H2 I2 rx ry q => ho pins s2 σ H2 x y v u Q I2 rx ry q)
theorem pe_un {op : UnaryOp} {r : V → Hp → VK → Prop} (ho : UnR X (unaryOp op) r) (ha : PE X a ta) : PE X (.UnaryOp op a pos) (tUn r ta) := by
  intro pins s σ H Q I h
  exact UnaryOp_ (thn (ha pins s σ H _ I h) fun v s1 ⟨x, H1, I1, r1, q1⟩ => ho pins s1 σ H1 x v Q I1 r1 q1)
/-- a op= e at a name: the name's slot i -/
theorem augR {op : Operator} {r : R2} (ho : OpR X (inplaceOp op) r) {pins : List (Addr × Obj)} {s : Shared} {σ : St} {H : Hp} {x y : V} {v u : Value} {Q : VK} (I : Inv X pins σ H s)
    (rx : RelV x v) (ry : RelV y u) (q : r x y H Q) : wpAny (model X.prog X.w) X.A (inplaceOp op v u) (EP X pins σ Q) X.xe s := ho pins s σ H x y v u Q I rx ry q

/-! ### ints -/
theorem opI {f : Value → Value → Sem Value} {C : Int → Int → Prop} {g : Int → Int → Int}
    (rule : ∀ (i j : Int) (t u : Tok) (s : Shared) (Q : Value → Shared → Prop) (E : Value → Shared → Prop), C i j → Q (.int (g i j) s.toks) { s with toks := s.toks + 1 } → wpAny (model X.prog X.w) X.A (f (.int i t) (.int j u)) Q E s) :
    OpR X f (rI C fun i j => .int (g i j)) := by
  intro pins s σ H x y v u Q I rx ry h
  obtain ⟨i, j, rfl, rfl, hc, q⟩ := h
  obtain ⟨t, rfl⟩ := rx
  obtain ⟨t', rfl⟩ := ry
  exact rule i j t t' s _ _ hc ⟨.int (g i j), H, I.tok _, ⟨_, rfl⟩, q⟩
theorem opI0 {f : Value → Value → Sem Value} {g : Int → Int → Int}
    (rule : ∀ (i j : Int) (t u : Tok) (s : Shared) (Q : Value → Shared → Prop) (E : Value → Shared → Prop), Q (.int (g i j) s.toks) { s with toks := s.toks + 1 } → wpAny (model X.prog X.w) X.A (f (.int i t) (.int j u)) Q E s) :
    OpR X f (rI0 fun i j => .int (g i j)) := by
  intro pins s σ H x y v u Q I rx ry h
  obtain ⟨i, j, rfl, rfl, q⟩ := h
  obtain ⟨t, rfl⟩ := rx
  obtain ⟨t', rfl⟩ := ry
  exact rule i j t t' s _ _ ⟨.int (g i j), H, I.tok _, ⟨_, rfl⟩, q⟩
theorem opB0 {f : Value → Value → Sem Value} {g : Int → Int → Bool}
    (rule : ∀ (i j : Int) (t u : Tok) (s : Shared) (Q : Value → Shared → Prop) (E : Value → Shared → Prop), Q (.bool (g i j)) s → wpAny (model X.prog X.w) X.A (f (.int i t) (.int j u)) Q E s) :
    OpR X f (rI0 fun i j => .bl (g i j)) := by
  intro pins s σ H x y v u Q I rx ry h
  obtain ⟨i, j, rfl, rfl, q⟩ := h
  obtain ⟨t, rfl⟩ := rx
  obtain ⟨t', rfl⟩ := ry
  exact rule i j t t' s _ _ ⟨.bl (g i j), H, I, rfl, q⟩

def CDiv (i j : Int) : Prop := 0 < j ∧ j < 1073741824
def CDivN (i j : Int) : Prop := j ≠ 0 ∧ j.natAbs < 1073741824
def CPow (i j : Int) : Prop := 0 ≤ j ∧ j ≤ 1000000 ∧ i.natAbs < 2 ^ 64
def CMul (i j : Int) : Prop := (-(2 ^ 64) < i ∧ i < 2 ^ 64) ∨ (-(2 ^ 64) < j ∧ j < 2 ^ 64)
theorem CMul.ok {i j : Int} (h : CMul i j) : IntMulOk i j := by
  rcases h with ⟨h1, h2⟩ | ⟨h1, h2⟩
  · exact .of_left (intBits_le_64 h1 h2)
  · exact .of_right (intBits_le_64 h1 h2)
theorem two_pow_nn (k : Nat) : (0 : Int) ≤ 2 ^ k := by
  rw [two_pow_cast]
  exact Int.natCast_nonneg _

theorem op_add : OpR X (binaryOp .Add) (rI0 fun i j => .int (i + j)) := opI0 fun _ _ _ _ _ _ _ q => add_int q
theorem op_sub : OpR X (binaryOp .Sub) (rI0 fun i j => .int (i - j)) := opI0 fun _ _ _ _ _ _ _ q => sub_int q
theorem op_mul : OpR X (binaryOp .Mult) (rI CMul fun i j => .int (i * j)) := opI fun _ _ _ _ _ _ _ hc q => mul_int q hc.ok
/-- // by a positive divisor -/
theorem op_fdiv : OpR X (binaryOp .FloorDiv) (rI CDiv fun i j => .int (i / j)) := opI fun i j _ _ _ _ _ hc q => by
  have h1 : (0 : Int) < j := hc.1
  have h2 : j < 1073741824 := hc.2
  exact floordiv_int (by omega) (by rw [Int.fdiv_eq_ediv_of_nonneg i (by omega)]; exact q) (.inl (PyProof.noPylong_small (by omega)))
theorem op_fdivN : OpR X (binaryOp .FloorDiv) (rI CDivN fun i j => .int (i.fdiv j)) := opI fun _ _ _ _ _ _ _ hc q => floordiv_int hc.1 q (.inl (PyProof.noPylong_small hc.2))
/-- % by a positive divisor of any size -/
theorem op_mod : OpR X (binaryOp .Mod) (rI (fun _ j => 0 < j) fun i j => .int (i % j)) := opI fun i j _ _ _ _ _ hc q => by
  have h1 : (0 : Int) < j := hc
  exact mod_int' (by omega) (by rw [Int.fmod_eq_emod_of_nonneg i (by omega)]; exact q)
theorem op_modN : OpR X (binaryOp .Mod) (rI (fun _ j => j ≠ 0) fun i j => .int (i.fmod j)) := opI fun _ _ _ _ _ _ _ hc q => mod_int' hc q
theorem op_pow : OpR X (binaryOp .Pow) (rI CPow fun i j => .int (i ^ j.toNat)) := opI fun _ _ _ _ _ _ _ hc q => pow_int_small hc.1 hc.2.1 hc.2.2 q
theorem op_shl : OpR X (binaryOp .LShift) (rI CPow fun i j => .int (i * 2 ^ j.toNat)) := opI fun _ _ _ _ _ _ _ hc q => lshift_int_small hc.1 hc.2.1 hc.2.2 q
theorem op_shr : OpR X (binaryOp .RShift) (rI (fun _ j => 0 ≤ j) fun i j => .int (i / 2 ^ j.toNat)) := opI fun i j _ _ _ _ _ hc q =>
  rshift_int hc (by rw [Int.fdiv_eq_ediv_of_nonneg i (two_pow_nn _)]; exact q)
theorem op_and : OpR X (binaryOp .BitAnd) (rI0 fun i j => .int (Builtin.bitAnd i j)) := opI0 fun _ _ _ _ _ _ _ q => and_int q
theorem op_or : OpR X (binaryOp .BitOr) (rI0 fun i j => .int (Builtin.bitOr i j)) := opI0 fun _ _ _ _ _ _ _ q => or_int q
theorem op_xor : OpR X (binaryOp .BitXor) (rI0 fun i j => .int (Builtin.bitXor i j)) := opI0 fun _ _ _ _ _ _ _ q => xor_int q

theorem iop_add : OpR X (inplaceOp .Add) (rI0 fun i j => .int (i + j)) := opI0 fun _ _ _ _ _ _ _ q => iadd_int q
theorem iop_sub : OpR X (inplaceOp .Sub) (rI0 fun i j => .int (i - j)) := opI0 fun _ _ _ _ _ _ _ q => isub_int q
theorem iop_mul : OpR X (inplaceOp .Mult) (rI CMul fun i j => .int (i * j)) := opI fun _ _ _ _ _ _ _ hc q => imul_int q hc.ok
theorem iop_fdiv : OpR X (inplaceOp .FloorDiv) (rI CDiv fun i j => .int (i / j)) := opI fun i j _ _ _ _ _ hc q => by
  have h1 : (0 : Int) < j := hc.1
  have h2 : j < 1073741824 := hc.2
  exact ifloordiv_int (by omega) (by rw [Int.fdiv_eq_ediv_of_nonneg i (by omega)]; exact q) (.inl (PyProof.noPylong_small (by omega)))
theorem iop_mod : OpR X (inplaceOp .Mod) (rI (fun _ j => 0 < j) fun i j => .int (i % j)) := opI fun i j _ _ _ _ _ hc q => by
  have h1 : (0 : Int) < j := hc
  exact imod_int (by omega) (by rw [Int.fmod_eq_emod_of_nonneg i (by omega)]; exact q)
theorem iop_shl : OpR X (inplaceOp .LShift) (rI CPow fun i j => .int (i * 2 ^ j.toNat)) := opI fun _ _ _ _ _ _ _ hc q => ilshift_int_small hc.1 hc.2.1 hc.2.2 q
theorem iop_shr : OpR X (inplaceOp .RShift) (rI (fun _ j => 0 ≤ j) fun i j => .int (i / 2 ^ j.toNat)) := opI fun i j _ _ _ _ _ hc q =>
  irshift_int hc (by rw [Int.fdiv_eq_ediv_of_nonneg i (two_pow_nn _)]; exact q)
theorem iop_and : OpR X (inplaceOp .BitAnd) (rI0 fun i j => .int (Builtin.bitAnd i j)) := opI0 fun _ _ _ _ _ _ _ q => iand_int q
theorem iop_or : OpR X (inplaceOp .BitOr) (rI0 fun i j => .int (Builtin.bitOr i j)) := opI0 fun _ _ _ _ _ _ _ q => ior_int q
theorem iop_xor : OpR X (inplaceOp .BitXor) (rI0 fun i j => .int (Builtin.bitXor i j)) := opI0 fun _ _ _ _ _ _ _ q => ixor_int q

theorem unI {f : Value → Sem Value} {g : Int → Int}
    (rule : ∀ (i : Int) (t : Tok) (s : Shared) (Q : Value → Shared → Prop) (E : Value → Shared → Prop), Q (.int (g i) s.toks) { s with toks := s.toks + 1 } → wpAny (model X.prog X.w) X.A (f (.int i t)) Q E s) :
    UnR X f (rU fun i => .int (g i)) := by
  intro pins s σ H x v Q I rx h
  obtain ⟨i, rfl, q⟩ := h
  obtain ⟨t, rfl⟩ := rx
  exact rule i t s _ _ ⟨.int (g i), H, I.tok _, ⟨_, rfl⟩, q⟩
theorem un_neg : UnR X (unaryOp .USub) (rU fun i => .int (-i)) := unI fun _ _ _ _ _ q => neg_int q
theorem un_inv : UnR X (unaryOp .Invert) (rU fun i => .int (Builtin.bitNot i)) := unI fun _ _ _ _ _ q => invert_int q

/-! ### bools among ints: n += (a < b) -/
theorem op_add_ib : OpR X (binaryOp .Add) (fun x y H Q => ∃ i k, x = .int i ∧ y = .bl k ∧ Q (.int (i + b2i k)) H) := by
  intro pins s σ H x y v u Q I rx ry h
  obtain ⟨i, k, rfl, rfl, q⟩ := h
  obtain ⟨t, rfl⟩ := rx
  cases ry
  exact add_int_bool ⟨.int (i + b2i k), H, I.tok _, ⟨_, rfl⟩, q⟩
end

/-! ### comparisons -/
/-- the scalars that == tells apart as data does -/
def scal : V → V → Bool
  | .non, .non => true | .non, .int _ => true | .int _, .non => true | .non, .bl _ => true | .bl _, .non => true | .non, .str _ => true | .str _, .non => true
  | .int _, .int _ => true | .bl _, .bl _ => true | .str _, .str _ => true | .byt _, .byt _ => true
  | .int _, .str _ => true | .str _, .int _ => true | .bl _, .str _ => true | .str _, .bl _ => true
  | _, _ => false
def rEq : R2 := fun x y H Q => scal x y = true ∧ Q (.bl (decide (x = y))) H
def rNe : R2 := fun x y H Q => scal x y = true ∧ Q (.bl (!decide (x = y))) H

theorem dec_int {i j : Int} : decide (V.int i = V.int j) = (i == j) := by
  rw [Bool.eq_iff_iff]
  simp
theorem dec_bl {i j : Bool} : decide (V.bl i = V.bl j) = (i == j) := by
  rw [Bool.eq_iff_iff]
  simp
theorem dec_str {i j : Str} : decide (V.str i = V.str j) = (i == j) := by
  rw [Bool.eq_iff_iff]
  simp
theorem dec_byt {i j : Array UInt8} : decide (V.byt i = V.byt j) = (i.toList == j.toList) := by
  rw [Bool.eq_iff_iff]
  cases i
  cases j
  simp

section
variable {X : Cx} {a b c : Expr} {ta tb tc : TE} {pos : Pos}
theorem fin_bl {pins : List (Addr × Obj)} {σ : St} {H : Hp} {s : Shared} {Q : VK} {k k' : Bool} (I : Inv X pins σ H s) (q : Q (.bl k) H) (e : k = k') : EP X pins σ Q (.bool k') s := by
  subst e
  exact ⟨.bl k, H, I, rfl, q⟩
theorem op_eq : OpR X (compareOp .Eq) rEq := by
  intro pins s σ H x y v u Q I rx ry h
  obtain ⟨hs, q⟩ := h
  cases x with
  | non =>
    cases rx
    cases y with
    | non => cases ry; exact PySem.EqNone.eq_none_none (fin_bl I q (by simp))
    | bl j => cases ry; exact PySem.EqNone.eq_none_bool (fin_bl I q (by simp))
    | int j => obtain ⟨t', rfl⟩ := ry; exact PySem.EqNone.eq_none_int (fin_bl I q (by simp))
    | str j => obtain ⟨t', rfl⟩ := ry; exact PySem.EqNone.eq_none_str (fin_bl I q (by simp))
    | _ => exact absurd (show false = true from hs) Bool.false_ne_true
  | bl i =>
    cases rx
    cases y with
    | non => cases ry; exact PySem.EqNone.eq_bool_none (fin_bl I q (by simp))
    | bl j => cases ry; exact eq_bool (fin_bl I q dec_bl)
    | str j => obtain ⟨t', rfl⟩ := ry; exact PySem.EqMixed.eq_bool_str (fin_bl I q (by simp))
    | _ => exact absurd (show false = true from hs) Bool.false_ne_true
  | int i =>
    obtain ⟨t, rfl⟩ := rx
    cases y with
    | non => cases ry; exact PySem.EqNone.eq_int_none (fin_bl I q (by simp))
    | int j => obtain ⟨t', rfl⟩ := ry; exact eq_int (fin_bl I q dec_int)
    | str j => obtain ⟨t', rfl⟩ := ry; exact PySem.EqMixed.eq_int_str (fin_bl I q (by simp))
    | _ => exact absurd (show false = true from hs) Bool.false_ne_true
  | str i =>
    obtain ⟨t, rfl⟩ := rx
    cases y with
    | non => cases ry; exact PySem.EqNone.eq_str_none (fin_bl I q (by simp))
    | bl j => cases ry; exact PySem.EqMixed.eq_str_bool (fin_bl I q (by simp))
    | int j => obtain ⟨t', rfl⟩ := ry; exact PySem.EqMixed.eq_str_int (fin_bl I q (by simp))
    | str j => obtain ⟨t', rfl⟩ := ry; exact eq_str (fin_bl I q dec_str)
    | _ => exact absurd (show false = true from hs) Bool.false_ne_true
  | byt i =>
    obtain ⟨t, rfl⟩ := rx
    cases y with
    | byt j => obtain ⟨t', rfl⟩ := ry; exact PySem.W.eq_bytes (fin_bl I q dec_byt)
    | _ => exact absurd (show false = true from hs) Bool.false_ne_true
  | _ => cases y <;> exact absurd (show false = true from hs) Bool.false_ne_true
theorem op_ne : OpR X (compareOp .NotEq) rNe := by
  intro pins s σ H x y v u Q I rx ry h
  obtain ⟨hs, q⟩ := h
  cases x with
  | non =>
    cases rx
    cases y with
    | non => cases ry; exact PySem.EqNone.ne_none_none (fin_bl I q (by simp))
    | bl j => cases ry; exact PySem.EqNone.ne_none_bool (fin_bl I q (by simp))
    | int j => obtain ⟨t', rfl⟩ := ry; exact PySem.EqNone.ne_none_int (fin_bl I q (by simp))
    | str j => obtain ⟨t', rfl⟩ := ry; exact PySem.EqNone.ne_none_str (fin_bl I q (by simp))
    | _ => exact absurd (show false = true from hs) Bool.false_ne_true
  | bl i =>
    cases rx
    cases y with
    | non => cases ry; exact PySem.EqNone.ne_bool_none (fin_bl I q (by simp))
    | bl j => cases ry; exact ne_bool (fin_bl I q (congrArg not dec_bl))
    | str j => obtain ⟨t', rfl⟩ := ry; exact PySem.EqMixed.ne_bool_str (fin_bl I q (by simp))
    | _ => exact absurd (show false = true from hs) Bool.false_ne_true
  | int i =>
    obtain ⟨t, rfl⟩ := rx
    cases y with
    | non => cases ry; exact PySem.EqNone.ne_int_none (fin_bl I q (by simp))
    | int j => obtain ⟨t', rfl⟩ := ry; exact ne_int (fin_bl I q (congrArg not dec_int))
    | str j => obtain ⟨t', rfl⟩ := ry; exact PySem.EqMixed.ne_int_str (fin_bl I q (by simp))
    | _ => exact absurd (show false = true from hs) Bool.false_ne_true
  | str i =>
    obtain ⟨t, rfl⟩ := rx
    cases y with
    | non => cases ry; exact PySem.EqNone.ne_str_none (fin_bl I q (by simp))
    | bl j => cases ry; exact PySem.EqMixed.ne_str_bool (fin_bl I q (by simp))
    | int j => obtain ⟨t', rfl⟩ := ry; exact PySem.EqMixed.ne_str_int (fin_bl I q (by simp))
    | str j => obtain ⟨t', rfl⟩ := ry; exact ne_str (fin_bl I q (congrArg not dec_str))
    | _ => exact absurd (show false = true from hs) Bool.false_ne_true
  | byt i =>
    obtain ⟨t, rfl⟩ := rx
    cases y with
    | byt j => obtain ⟨t', rfl⟩ := ry; exact PySem.W.ne_bytes (fin_bl I q (congrArg not dec_byt))
    | _ => exact absurd (show false = true from hs) Bool.false_ne_true
  | _ => cases y <;> exact absurd (show false = true from hs) Bool.false_ne_true

theorem op_lt : OpR X (compareOp .Lt) (rI0 fun i j => .bl (decide (i < j))) := opB0 fun _ _ _ _ _ _ _ q => lt_int q
theorem op_le : OpR X (compareOp .LtE) (rI0 fun i j => .bl (decide (i ≤ j))) := opB0 fun _ _ _ _ _ _ _ q => le_int q
theorem op_gt : OpR X (compareOp .Gt) (rI0 fun i j => .bl (decide (j < i))) := opB0 fun _ _ _ _ _ _ _ q => gt_int q
theorem op_ge : OpR X (compareOp .GtE) (rI0 fun i j => .bl (decide (j ≤ i))) := opB0 fun _ _ _ _ _ _ _ q => ge_int q
theorem op_lt_str : OpR X (compareOp .Lt) (fun x y H Q => ∃ i j, x = .str i ∧ y = .str j ∧ Q (.bl (decide (i.cps.toList < j.cps.toList))) H) := by
  intro pins s σ H x y v u Q I rx ry h
  obtain ⟨i, j, rfl, rfl, q⟩ := h
  obtain ⟨t, rfl⟩ := rx
  obtain ⟨t', rfl⟩ := ry
  exact lt_str (fin_bl I q rfl)
/-- the one string within the other -/
theorem op_in_str : OpR X (compareOp .In) (fun x y H Q => ∃ i j, x = .str i ∧ y = .str j ∧ Q (.bl (!(Builtin.Str.occurrences j i 0 j.length 1).isEmpty)) H) := by
  intro pins s σ H x y v u Q I rx ry h
  obtain ⟨i, j, rfl, rfl, q⟩ := h
  obtain ⟨t, rfl⟩ := rx
  obtain ⟨t', rfl⟩ := ry
  exact in_str (fin_bl I q rfl)

/-- is None, is not None: the right side a value none -/
theorem op_isN : OpR X (compareOp .Is) (fun x y H Q => y = .non ∧ Q (.bl (decide (x = .non))) H) := by
  intro pins s σ H x y v u Q I rx ry h
  obtain ⟨rfl, q⟩ := h
  cases ry
  refine is_none_gen (fin_bl I q ?_)
  cases x <;> first
    | (cases rx; rfl)
    | (obtain ⟨t, rfl⟩ := rx; rfl)
theorem op_notN : OpR X (compareOp .IsNot) (fun x y H Q => y = .non ∧ Q (.bl (!decide (x = .non))) H) := by
  intro pins s σ H x y v u Q I rx ry h
  obtain ⟨rfl, q⟩ := h
  cases ry
  refine isnot_none_gen (fin_bl I q ?_)
  cases x <;> first
    | (cases rx; rfl)
    | (obtain ⟨t, rfl⟩ := rx; rfl)

theorem op_notin_str : OpR X (compareOp .NotIn) (fun x y H Q => ∃ i j, x = .str i ∧ y = .str j ∧ Q (.bl (!(!(Builtin.Str.occurrences j i 0 j.length 1).isEmpty))) H) := by
  intro pins s σ H x y v u Q I rx ry h
  obtain ⟨i, j, rfl, rfl, q⟩ := h
  obtain ⟨t, rfl⟩ := rx
  obtain ⟨t', rfl⟩ := ry
  exact notIn_str (fin_bl I q rfl)
/-- is, is not of two objects that are tracked lists or instances -/
def isObj : HO → Bool
  | .lst _ => true
  | .ins _ _ _ => true
  | _ => false
theorem obj_there {pins : List (Addr × Obj)} {s : Shared} {σ : St} {H : Hp} {a : Addr} {o : HO} (I : Inv X pins σ H s) (h : H a = some o) (p : isObj o = true) : ∃ ob, s.heap.get? a = some ob ∧ ob.cls ≠ .type "tuple" := by
  cases o with
  | lst xs =>
    obtain ⟨_, its, n, _, e⟩ : xs.length ≤ sizeLine ∧ ∃ (its : List Value) (n : Nat), Vals xs its ∧ s.heap.get? a = some { cls := .type "list", data := .seq its.toArray n } := I.hok a _ h
    exact ⟨_, e, (by show Value.type "list" ≠ .type "tuple"; decide +kernel)⟩
  | ins C dx fs =>
    have x := I.hok a _ h
    obtain ⟨_, _, _, e, _⟩ := x
    exact ⟨_, e, (by show Value.ref C ≠ .type "tuple"; exact fun z => by cases z)⟩
  | _ => exact absurd (show false = true from p) Bool.false_ne_true
theorem op_is_ref : OpR X (compareOp .Is) (fun x y H Q => ∃ a b oa ob, x = .ref a ∧ y = .ref b ∧ H a = some oa ∧ isObj oa = true ∧ H b = some ob ∧ isObj ob = true ∧ Q (.bl (decide (a = b))) H) := by
  intro pins s σ H x y v u Q I rx ry h
  obtain ⟨a, b, oa, ob, rfl, rfl, ha, pa, hb, pb, q⟩ := h
  cases rx
  cases ry
  obtain ⟨o1, e1, n1⟩ := obj_there I ha pa
  obtain ⟨o2, e2, _⟩ := obj_there I hb pb
  by_cases z : a = b
  · subst z
    exact wpAny_is_ref_self (fin_bl I q (by simp))
  · exact wpAny_is_ref_other z e1 e2 n1 (fin_bl I q (by simp [z]))
theorem op_isnot_ref : OpR X (compareOp .IsNot) (fun x y H Q => ∃ a b oa ob, x = .ref a ∧ y = .ref b ∧ H a = some oa ∧ isObj oa = true ∧ H b = some ob ∧ isObj ob = true ∧ Q (.bl (!decide (a = b))) H) := by
  intro pins s σ H x y v u Q I rx ry h
  obtain ⟨a, b, oa, ob, rfl, rfl, ha, pa, hb, pb, q⟩ := h
  cases rx
  cases ry
  obtain ⟨o1, e1, n1⟩ := obj_there I ha pa
  obtain ⟨o2, e2, _⟩ := obj_there I hb pb
  by_cases z : a = b
  · subst z
    exact wpAny_isNot_ref_self (fin_bl I q (by simp))
  · exact wpAny_isNot_ref_other z e1 e2 n1 (fin_bl I q (by simp [z]))

/-- two rules for one operation: by cases -/
theorem OpR.or {f : Value → Value → Sem Value} {r r' : R2} (h : OpR X f r) (h' : OpR X f r') : OpR X f (fun x y H Q => r x y H Q ∨ r' x y H Q) := by
  intro pins s σ H x y v u Q I rx ry q
  rcases q with q | q
  · exact h pins s σ H x y v u Q I rx ry q
  · exact h' pins s σ H x y v u Q I rx ry q

theorem nomark (b : Expr) {op : CmpOp} (h : op ≠ .In := by decide) (h2 : op ≠ .NotIn := by decide) : behindInMarks op b = false := by
  have e1 : (op == CmpOp.In) = false := by cases op <;> first | rfl | exact absurd rfl h
  have e2 : (op == CmpOp.NotIn) = false := by cases op <;> first | rfl | exact absurd rfl h2
  cases b <;> simp [behindInMarks, e1, e2]
/-- a comparison as a value; hm: nomark b, or (for in, not in) by with_unfolding_all rfl -/
theorem pe_cmpR {op : CmpOp} {r : R2} (ho : OpR X (compareOp op) r) (ha : PE X a ta) (hb : PE X b tb) (hm : behindInMarks op b = false) : PE X (.Compare a [op] [b] pos) (tOp r ta tb) := by
  intro pins s σ H Q I h
  exact wpAny_Compare1 (binT ha hb I h fun v u s2 x y H2 I2 rx ry q => ho pins s2 σ H2 x y v u Q I2 rx ry q) hm
/-- a reading of a value as a test -/
def tTest (t : TE) : TT := fun σ H Q => t σ H fun x H' => ∃ k, x = .bl k ∧ Q k H'
theorem pt_cmpR {op : CmpOp} {r : R2} (ho : OpR X (compareOp op) r) (ha : PE X a ta) (hb : PE X b tb) (hm : behindInMarks op b = false) : PT X (.Compare a [op] [b] pos) (tTest (tOp r ta tb)) := by
  intro pins s σ H Q I h
  refine wpAny_isTrue_Compare1 (thn (ha pins s σ H _ I h) fun v s1 ⟨x, H1, I1, r1, q1⟩ => thn (hb pins s1 σ H1 _ I1 q1) fun u s2 ⟨y, H2, I2, r2, q2⟩ =>
    thn (ho pins s2 σ H2 x y v u _ I2 r1 r2 q2) fun c s3 ⟨z, H3, I3, r3, k, e, q3⟩ => ?_) hm
  subst e
  cases r3
  exact wpAny_truthy_bool ⟨H3, I3, q3⟩
/-- a op1 b op2 c -/
def tChain (r r' : R2) (ta tb tc : TE) : TE := fun σ H Q => ta σ H fun x H1 => tb σ H1 fun y H2 => r x y H2 fun z H3 => ∃ k, z = .bl k ∧
  (if k = true then tc σ H3 fun w' H4 => r' y w' H4 Q else Q (.bl false) H3)
theorem pe_chain {op op' : CmpOp} {r r' : R2} (ho : OpR X (compareOp op) r) (ho' : OpR X (compareOp op') r') (ha : PE X a ta) (hb : PE X b tb) (hc : PE X c tc)
    (hm : lastMarks [op, op'] [b, c] = false := by with_unfolding_all rfl) : PE X (.Compare a [op, op'] [b, c] pos) (tChain r r' ta tb tc) := by
  intro pins s σ H Q I h
  refine Compare_chain (thn (ha pins s σ H _ I h) fun v s1 ⟨x, H1, I1, r1, q1⟩ => chain_link (thn (hb pins s1 σ H1 _ I1 q1) fun u s2 ⟨y, H2, I2, r2, q2⟩ =>
    thn (ho pins s2 σ H2 x y v u _ I2 r1 r2 q2) fun d s3 ⟨z, H3, I3, r3, k, e, q3⟩ => ?_)) hm
  subst e
  cases r3
  refine wpAny_truthy_bool ?_
  cases k with
  | false => exact ite_ff ⟨.bl false, H3, I3, rfl, q3⟩
  | true => exact ite_tt (chain_last (thn (hc pins s3 σ H3 _ I3 q3) fun w' s4 ⟨z', H4, I4, r4, q4⟩ => ho' pins s4 σ H4 y z' u w' Q I4 r2 r4 q4))
theorem pt_chain {op op' : CmpOp} {r r' : R2} (ho : OpR X (compareOp op) r) (ho' : OpR X (compareOp op') r') (ha : PE X a ta) (hb : PE X b tb) (hc : PE X c tc)
    (hm : lastMarks [op, op'] [b, c] = false := by with_unfolding_all rfl) : PT X (.Compare a [op, op'] [b, c] pos) (tTest (tChain r r' ta tb tc)) := by
  intro pins s σ H Q I h
  refine isTrue_chain (thn (ha pins s σ H _ I h) fun v s1 ⟨x, H1, I1, r1, q1⟩ => test_link (thn (hb pins s1 σ H1 _ I1 q1) fun u s2 ⟨y, H2, I2, r2, q2⟩ =>
    thn (ho pins s2 σ H2 x y v u _ I2 r1 r2 q2) fun d s3 ⟨z, H3, I3, r3, k, e, q3⟩ => ?_)) hm
  subst e
  cases r3
  refine wpAny_truthy_bool ?_
  cases k with
  | false =>
    obtain ⟨k', e', q'⟩ := q3
    cases e'
    exact ite_ff ⟨H3, I3, q'⟩
  | true =>
    refine ite_tt (test_last (thn (hc pins s3 σ H3 _ I3 q3) fun w' s4 ⟨z', H4, I4, r4, q4⟩ => thn (ho' pins s4 σ H4 y z' u w' _ I4 r2 r4 q4) fun d' s5 ⟨z2, H5, I5, r5, k2, e2, q5⟩ => ?_))
    subst e2
    cases r5
    exact wpAny_truthy_bool ⟨H5, I5, q5⟩

/-! ### truth -/
/-- a value's truth by the abstract heap -/
def TruV (K : PySem.W.Frag) (x : V) (H : Hp) (k : Bool) : Prop :=
  match x with
  | .non => k = false
  | .bl b => k = b
  | .int i => k = (i != 0)
  | .str y => y.length ≤ sizeLine ∧ k = ((y.length : Int) != 0)
  | .byt y => y.size ≤ sizeLine ∧ k = ((y.size : Int) != 0)
  | .ref p => (∃ xs, SqL K H p xs ∧ k = !xs.isEmpty) ∨ (∃ xs, SqT K H p xs ∧ k = !xs.isEmpty) ∨ ∃ kvs, H p = some (.dK kvs) ∧ k = !kvs.isEmpty
  | _ => False
theorem isEmpty_kv {κ : Type} {kvs : List (κ × V)} {vs : List (κ × Value)} (r : KV kvs vs) : (!vs.isEmpty) = !kvs.isEmpty := by
  cases r <;> rfl
theorem isEmpty_of {xs : List V} {its : List Value} (r : Vals xs its) : (!its.toArray.isEmpty) = !xs.isEmpty := by
  cases r <;> simp
theorem line63 : (sizeLine : Nat) < 2 ^ 63 := by rw [sizeLine_eq]; decide
theorem tru_ok : TruR X (fun x H Q => ∃ k, TruV X.K x H k ∧ Q k H) := by
  intro pins s σ H x v Q I rx h
  obtain ⟨k, e, q⟩ := h
  have hl := line63
  have hs : sizeLine = 16777216 := sizeLine_eq
  cases x with
  | non =>
    cases rx
    have e' : k = false := e
    subst e'
    exact truthy_none ⟨H, I, q⟩
  | bl b =>
    cases rx
    have e' : k = b := e
    subst e'
    exact wpAny_truthy_bool ⟨H, I, q⟩
  | int i =>
    obtain ⟨t, rfl⟩ := rx
    have e' : k = (i != 0) := e
    subst e'
    exact PySem.P.truthy_int ⟨H, I, q⟩
  | str y =>
    obtain ⟨t, rfl⟩ := rx
    obtain ⟨hy, e'⟩ : y.length ≤ sizeLine ∧ k = ((y.length : Int) != 0) := e
    subst e'
    exact PySem.P.truthy_str (by omega) ⟨H, I.tok _, q⟩
  | byt y =>
    obtain ⟨t, rfl⟩ := rx
    obtain ⟨hy, e'⟩ : y.size ≤ sizeLine ∧ k = ((y.size : Int) != 0) := e
    subst e'
    exact PySem.W.truthy_bytes (by omega) ⟨H, I.tok _, q⟩
  | ref p =>
    cases rx
    have e' : (∃ xs, SqL X.K H p xs ∧ k = !xs.isEmpty) ∨ (∃ xs, SqT X.K H p xs ∧ k = !xs.isEmpty) ∨ ∃ kvs, H p = some (.dK kvs) ∧ k = !kvs.isEmpty := e
    rcases e' with ⟨xs, hx, e'⟩ | ⟨xs, hx, e'⟩ | ⟨kvs, hx, e'⟩
    · subst e'
      obtain ⟨its, r, pl, hz⟩ := I.list hx
      have hlen := r.length
      exact wpAny_truthy_list pl.isList (by simp only [List.size_toArray]; omega) ⟨H, I.tok _, by rw [isEmpty_of r]; exact q⟩
    · subst e'
      obtain ⟨its, r, pl, hz⟩ := I.tuple hx
      have hlen := r.length
      exact truthy_tuple pl (by simp only [List.size_toArray]; omega) ⟨H, I.tok _, by rw [isEmpty_of r]; exact q⟩
    · subst e'
      obtain ⟨hz, hS, vs, r, m⟩ : kvs.length ≤ sizeLine ∧ (p == sysModules) = false ∧ ∃ vs, KV kvs vs ∧ s.heap.DictOf (mixKind X.prog X.w) p vs := I.hok p _ hx
      have hlen : kvs.length = vs.length := Paired.length r
      exact wpAny_truthy_dict hS m (by omega) ⟨H, I.tok _, by rw [isEmpty_kv r]; exact q⟩
  | _ => exact (show False from e).elim
/-- any expression whose test is its value's truth (a name, a call, a subscript, a field ..: he by fun _ => rfl) -/
theorem pt_truth (ha : PE X a ta) (he : ∀ whole, isTrue a X.env whole = (do let v ← whole; standAt a.pos; holding [v] (truthy v))) :
    PT X a (fun σ H Q => ta σ H fun x H' => ∃ k, TruV X.K x H' k ∧ Q k H') := by
  intro pins s σ H Q I h
  exact isTrue_plain (thn (ha pins s σ H _ I h) fun v s1 ⟨x, H1, I1, r1, q1⟩ => tru_ok pins s1 σ H1 x v Q I1 r1 q1) (he _)

/-! ### strs and bytes -/
theorem pe_byt {x : List UInt8} {k : Nat} : PE X (.Constant (.bytes x) k pos) (fun _ H Q => Q (.byt x.toArray) H) := fun _ _ _ H _ I h => PySem.W.Constant_bytes ⟨.byt x.toArray, H, I.tok _, ⟨_, rfl⟩, h⟩
theorem op_add_str : OpR X (binaryOp .Add) (fun x y H Q => ∃ i j, x = .str i ∧ y = .str j ∧ i.length + j.length ≤ sizeLine ∧ Q (.str (i ++ j)) H) := by
  intro pins s σ H x y v u Q I rx ry h
  obtain ⟨i, j, rfl, rfl, hz, q⟩ := h
  obtain ⟨t, rfl⟩ := rx
  obtain ⟨t', rfl⟩ := ry
  exact add_str (fun t' tk => ⟨.str (i ++ j), H, I.tok _, ⟨_, rfl⟩, q⟩) hz
theorem iop_add_str : OpR X (inplaceOp .Add) (fun x y H Q => ∃ i j, x = .str i ∧ y = .str j ∧ i.length + j.length ≤ sizeLine ∧ Q (.str (i ++ j)) H) := by
  intro pins s σ H x y v u Q I rx ry h
  obtain ⟨i, j, rfl, rfl, hz, q⟩ := h
  obtain ⟨t, rfl⟩ := rx
  obtain ⟨t', rfl⟩ := ry
  exact iadd_str (fun t' tk => ⟨.str (i ++ j), H, I.tok _, ⟨_, rfl⟩, q⟩) hz
theorem op_add_byt : OpR X (binaryOp .Add) (fun x y H Q => ∃ i j, x = .byt i ∧ y = .byt j ∧ i.size + j.size ≤ 16777216 ∧ Q (.byt (i ++ j)) H) := by
  intro pins s σ H x y v u Q I rx ry h
  obtain ⟨i, j, rfl, rfl, hz, q⟩ := h
  obtain ⟨t, rfl⟩ := rx
  obtain ⟨t', rfl⟩ := ry
  exact PySem.W.KBy.add_bytes hz (fun t' tk => ⟨.byt (i ++ j), H, I.tok _, ⟨_, rfl⟩, q⟩)

def PlainIxT (b : Expr) : Prop := ∀ o i, subscripted b false o i = operate [o, i] (getItem o i)
/-- s[i], 0 ≤ i < len -/
theorem pe_item_str (ha : PE X a ta) (hb : PE X b tb) (hs : PlainIxT b) :
    PE X (.Subscript a b pos) (tOp (fun x y H Q => ∃ z i c, x = .str z ∧ y = .int i ∧ 0 ≤ i ∧ i < 2 ^ 63 ∧ i < z.length ∧ z.cps[i.toNat]? = some c ∧ Q (.str ⟨#[c]⟩) H) ta tb) := by
  intro pins s σ H Q I h
  refine Subscript_ (binT ha hb I h fun v u s2 x y H2 I2 rx ry q => ?_)
  obtain ⟨z, i, c, rfl, rfl, h0, h63, h1, hc, q⟩ := q
  obtain ⟨t, rfl⟩ := rx
  obtain ⟨t', rfl⟩ := ry
  have e : seqIndex? i z.length = some i.toNat := PySem.StrLaws.seqIndex_nonneg h0 h1
  exact tail_any (typeIs_str s2 z t) slot_str_getitem.lookup (getItem_str (c := c) (by
    have e1 : decide (i < -(2 ^ 63 : Int)) = false := decide_eq_false (by omega)
    have e2 : decide (i ≥ 2 ^ 63) = false := decide_eq_false (by omega)
    rw [e1, e2] <;> rfl) (by rw [e]; exact hc) ⟨.str ⟨#[c]⟩, H2, I2.tok _, ⟨_, rfl⟩, q⟩) (hs _ _)
/-- b[i], 0 ≤ i < len -/
theorem pe_item_byt (ha : PE X a ta) (hb : PE X b tb) (hs : PlainIxT b) :
    PE X (.Subscript a b pos) (tOp (fun x y H Q => ∃ (z : List UInt8) (i : Int), x = .byt z.toArray ∧ y = .int i ∧ z.length ≤ sizeLine ∧ 0 ≤ i ∧ i < z.length ∧ Q (.int ((z.getD i.toNat 0).toNat : Nat)) H) ta tb) := by
  intro pins s σ H Q I h
  refine Subscript_ (binT ha hb I h fun v u s2 x y H2 I2 rx ry q => ?_)
  obtain ⟨z, i, rfl, rfl, hz, h0, h1, q⟩ := q
  obtain ⟨t, rfl⟩ := rx
  obtain ⟨t', rfl⟩ := ry
  have hl : sizeLine = 16777216 := sizeLine_eq
  exact tail_any (PySem.W.typeIs_bytes s2 z.toArray t) PySem.W.FB.slot_bytes_getitem.lookup (PySem.W.getItem_bytes (by omega) h0 h1 ⟨.int ((z.getD i.toNat 0).toNat : Nat), H2, I2.tok _, ⟨_, rfl⟩, q⟩) (hs _ _)

/-! ### scalar builtins, by CallR -/
theorem vals1 {x : V} {us : List Value} (r : Vals [x] us) : ∃ u, us = [u] ∧ RelV x u := by
  cases r with
  | cons r1 r2 => cases r2; exact ⟨_, rfl, r1⟩
theorem vals2 {x y : V} {us : List Value} (r : Vals [x, y] us) : ∃ u w', us = [u, w'] ∧ RelV x u ∧ RelV y w' := by
  cases r with
  | cons r1 r2 =>
    cases r2 with
    | cons r3 r4 => cases r4; exact ⟨_, _, rfl, r1, r3⟩
theorem call_abs : CallR X (.builtin "abs") (fun xs H Q => ∃ i, xs = [.int i] ∧ Q (.int (if i < 0 then -i else i)) H) := by
  intro pins s σ H xs us Q I r h
  obtain ⟨i, rfl, q⟩ := h
  obtain ⟨u, rfl, t, rfl⟩ := vals1 r
  exact call_abs_int fun u tk => ⟨.int (if i < 0 then -i else i), H, I.tok _, ⟨_, rfl⟩, q⟩
theorem call_max2 (hc : X.calm = true) : CallR X (.builtin "max") (fun xs H Q => ∃ i j, xs = [.int i, .int j] ∧ Q (.int (if j > i then j else i)) H) := by
  intro pins s σ H xs us Q I r h
  obtain ⟨i, j, rfl, q⟩ := h
  obtain ⟨u, w', rfl, ⟨t, rfl⟩, ⟨t', rfl⟩⟩ := vals2 r
  refine max_two_ints (I.ok.hd hc) fun h' tk k => ⟨_, H, I.kept k, ?_, q⟩
  by_cases hj : j > i
  · rw [if_pos hj, if_pos hj]; exact ⟨_, rfl⟩
  · rw [if_neg hj, if_neg hj]; exact ⟨_, rfl⟩
theorem call_min2 (hc : X.calm = true) : CallR X (.builtin "min") (fun xs H Q => ∃ i j, xs = [.int i, .int j] ∧ Q (.int (if j < i then j else i)) H) := by
  intro pins s σ H xs us Q I r h
  obtain ⟨i, j, rfl, q⟩ := h
  obtain ⟨u, w', rfl, ⟨t, rfl⟩, ⟨t', rfl⟩⟩ := vals2 r
  refine min_two_ints (I.ok.hd hc) fun h' tk k => ⟨_, H, I.kept k, ?_, q⟩
  by_cases hj : j < i
  · rw [if_pos hj, if_pos hj]; exact ⟨_, rfl⟩
  · rw [if_neg hj, if_neg hj]; exact ⟨_, rfl⟩
theorem call_int1 : CallR X (.type "int") (fun xs H Q => (∃ i, xs = [.int i] ∧ Q (.int i) H) ∨ ∃ k, xs = [.bl k] ∧ Q (.int (if k then 1 else 0)) H) := by
  intro pins s σ H xs us Q I r h
  rcases h with ⟨i, rfl, q⟩ | ⟨k, rfl, q⟩
  · obtain ⟨u, rfl, t, rfl⟩ := vals1 r
    exact call_int_int ⟨.int i, H, I, ⟨_, rfl⟩, q⟩
  · obtain ⟨u, rfl, r1⟩ := vals1 r
    cases r1
    exact call_int_bool ⟨.int (if k then 1 else 0), H, I.tok _, ⟨_, rfl⟩, q⟩
theorem call_bool1 : CallR X (.type "bool") (fun xs H Q => (∃ i, xs = [.int i] ∧ Q (.bl (i != 0)) H) ∨ ∃ k, xs = [.bl k] ∧ Q (.bl k) H) := by
  intro pins s σ H xs us Q I r h
  rcases h with ⟨i, rfl, q⟩ | ⟨k, rfl, q⟩
  · obtain ⟨u, rfl, t, rfl⟩ := vals1 r
    exact call_bool_int ⟨.bl (i != 0), H, I, rfl, q⟩
  · obtain ⟨u, rfl, r1⟩ := vals1 r
    cases r1
    exact call_bool_bool ⟨.bl k, H, I, rfl, q⟩
theorem call_str_int : CallR X (.type "str") (fun xs H Q => ∃ i, xs = [.int i] ∧ i.natAbs.log2 < 1920 ∧ Q (.str (toString i)) H) := by
  intro pins s σ H xs us Q I r h
  obtain ⟨i, rfl, hz, q⟩ := h
  obtain ⟨u, rfl, t, rfl⟩ := vals1 r
  exact PySem.P.str_of_int hz ⟨.str _, H, I.tok _, ⟨_, rfl⟩, q⟩
theorem call_ord : CallR X (.builtin "ord") (fun xs H Q => ∃ x, xs = [.str x] ∧ x.length = 1 ∧ Q (.int (x.cps.getD 0 0 : Nat)) H) := by
  intro pins s σ H xs us Q I r h
  obtain ⟨x, rfl, hz, q⟩ := h
  obtain ⟨u, rfl, t, rfl⟩ := vals1 r
  exact ord_of_one hz ⟨.int _, H, I.tok _, ⟨_, rfl⟩, q⟩
theorem call_chr : CallR X (.builtin "chr") (fun xs H Q => ∃ i, xs = [.int i] ∧ 0 ≤ i ∧ i ≤ 1114111 ∧ Q (.str ⟨#[i.toNat]⟩) H) := by
  intro pins s σ H xs us Q I r h
  obtain ⟨i, rfl, h0, h1, q⟩ := h
  obtain ⟨u, rfl, t, rfl⟩ := vals1 r
  exact chr_of_range h0 h1 ⟨.str _, H, I.tok _, ⟨_, rfl⟩, q⟩
/-- len of a str, a bytes, a list, a tuple -/
def LenV (K : PySem.W.Frag) (x : V) (H : Hp) (n : Nat) : Prop :=
  match x with
  | .str y => y.length ≤ sizeLine ∧ n = y.length
  | .byt y => y.size ≤ sizeLine ∧ n = y.size
  | .ref p => (∃ xs, SqL K H p xs ∧ n = xs.length) ∨ ∃ xs, SqT K H p xs ∧ n = xs.length
  | _ => False
theorem call_len : CallR X (.builtin "len") (fun xs H Q => ∃ x n, xs = [x] ∧ LenV X.K x H n ∧ Q (.int n) H) := by
  intro pins s σ H xs us Q I r h
  obtain ⟨x, n, rfl, e, q⟩ := h
  obtain ⟨u, rfl, rx⟩ := vals1 r
  have hl := line63
  have hs : sizeLine = 16777216 := sizeLine_eq
  cases x with
  | str y =>
    obtain ⟨t, rfl⟩ := rx
    obtain ⟨hy, e'⟩ : y.length ≤ sizeLine ∧ n = y.length := e
    subst e'
    exact len_str (by omega) ⟨.int _, H, I.tok _, ⟨_, rfl⟩, q⟩
  | byt y =>
    obtain ⟨t, rfl⟩ := rx
    obtain ⟨hy, e'⟩ : y.size ≤ sizeLine ∧ n = y.size := e
    subst e'
    exact PySem.W.len_bytes (by omega) ⟨.int _, H, I.tok _, ⟨_, rfl⟩, q⟩
  | ref p =>
    cases rx
    have e' : (∃ xs, SqL X.K H p xs ∧ n = xs.length) ∨ ∃ xs, SqT X.K H p xs ∧ n = xs.length := e
    rcases e' with ⟨xs, hx, e'⟩ | ⟨xs, hx, e'⟩
    · subst e'
      obtain ⟨its, r', pl, hz⟩ := I.list hx
      have hlen := r'.length
      exact Calls.call_len_list pl.isList (by simp only [List.size_toArray]; omega) ⟨.int xs.length, H, I.tok _, ⟨_, by simp only [List.size_toArray]; rw [hlen]⟩, q⟩
    · subst e'
      obtain ⟨its, r', pl, hz⟩ := I.tuple hx
      have hlen := r'.length
      exact len_tuple pl (by simp only [List.size_toArray]; omega) ⟨.int xs.length, H, I.tok _, ⟨_, by simp only [List.size_toArray]; rw [hlen]⟩, q⟩
  | _ => exact (show False from e).elim
/-- divmod: a new tuple -/
theorem call_divmod : CallR X (.builtin "divmod") (fun xs H Q => ∃ i j, xs = [.int i, .int j] ∧ CDiv i j ∧ ∀ p, H p = none → Q (.ref p) (upd H p (.tup [.int (i / j), .int (i % j)]))) := by
  intro pins s σ H xs us Q I r h
  obtain ⟨i, j, rfl, ⟨h1, h2⟩, q⟩ := h
  obtain ⟨u, w', rfl, ⟨t, rfl⟩, ⟨t', rfl⟩⟩ := vals2 r
  refine divmod_int (by omega) ?_ (.inl (PyProof.noPylong_small (by omega)))
  rw [Int.fdiv_eq_ediv_of_nonneg i (by omega), Int.fmod_eq_emod_of_nonneg i (by omega)]
  have hn : H s.heap.objs.size = none := I.hok.fresh (Nat.le_refl _)
  refine ⟨.ref s.heap.objs.size, _, ?_, rfl, q _ hn⟩
  refine I.laid (fun b o e => Heap.get?_push_of_some _ e) (Nat.le_refl _) ⟨by simp only [List.length_cons, List.length_nil]; rw [sizeLine_eq]; decide, [.int (i / j) s.toks, .int (i % j) (s.toks + 1)], .cons ⟨_, rfl⟩ (.cons ⟨_, rfl⟩ .nil), ?_⟩
  exact ⟨_, Heap.get?_push_size s.heap rfl, rfl, 0, rfl⟩
end
end L2

namespace L2
open PySem PySem.Spec PyProof.Rows

/-! ### an instance, its attributes a map -/
structure ObjM (h : Heap) (x dx C : Addr) (mA : Str → Option Value) : Prop where
  obj : h.get? x = some (PySem.W.instObj C dx)
  ns : h.Ns1 dx mA
  ne : dx ≠ x

theorem lookIn_ns {h : Heap} {dx : Addr} {mA : Str → Option Value} (n : h.Ns1 dx mA) : ∃ od, h.get? dx = some od ∧ ∀ name, PySem.W.lookIn name od = some (mA name) := by
  obtain ⟨o, es, ep, ho, hd, hk, _, hm⟩ := n
  refine ⟨o, ho, fun name => ?_⟩
  have e := hm name
  unfold nsFind findBy at e
  rw [← Array.find?_toList] at e
  unfold PySem.W.lookIn
  rw [hd]
  dsimp only
  split
  · rename_i y q
    rw [q] at e
    exact congrArg some e
  · rename_i q
    rw [q] at e
    have a : es.toList.any (·.refKey) = false := by
      rw [List.any_eq_false]
      intro y hy
      obtain ⟨z, t, hkey⟩ := hk y (Array.mem_toList_iff.mp hy)
      simp [DictEntry.refKey, hkey]
    have a' : ¬ es.toList.any (·.refKey) = true := by rw [a]; exact Bool.false_ne_true
    rw [if_neg a']
    exact congrArg some e

theorem ObjM.look {h : Heap} {x dx C : Addr} {mA : Str → Option Value} (I : ObjM h x dx C mA) : ∃ od, PySem.W.InstAt h x (PySem.W.instObj C dx) C (some od) ∧ ∀ name, PySem.W.lookIn name od = some (mA name) :=
  let ⟨od, ho, hl⟩ := lookIn_ns I.ns
  ⟨od, ⟨I.obj, rfl, rfl, ho⟩, hl⟩

section
variable {prog : Program} {w : World} {A : Around} {E : Value → Shared → Prop} {s : Shared} {K : PySem.W.Frag} {x dx C f : Addr} {mA : Str → Option Value} {name : Str} {v : Value}

theorem get_map {expr : Bool} {Q : Value → Shared → Prop} (X : K.In s.heap) (I : ObjM s.heap x dx C mA) (hg : PySem.W.plainGet K C name = true) (hh : PySem.W.hasDictIn K C = true)
    (ha : PySem.W.findIn K (.ref C) name = some none) (hv : mA name = some v) (hv' : PySem.W.handedIn v = true) (h : Q v { s with toks := s.toks + 1 }) :
    wpAny (model prog w) A (getAttr (.ref x) name expr) Q E s := by
  obtain ⟨od, J, hl⟩ := I.look
  exact PySem.W.get_value X J (PySem.W.plainGet_of hg).1 (PySem.W.findObj_own hh ha rfl (by rw [hl, hv])) hv' h

theorem get_const {expr : Bool} {a : Value} {Q : Value → Shared → Prop} (X : K.In s.heap) (I : ObjM s.heap x dx C mA) (hg : PySem.W.plainGet K C name = true) (hh : PySem.W.hasDictIn K C = true)
    (ha : PySem.W.findIn K (.ref C) name = some (some a)) (hn : PySem.W.specialIn K a "__get__" = some none) (hc : PySem.W.copiedNames.contains name = false) (hv : mA name = none) (hv' : PySem.W.handedIn a = true)
    (h : Q a { s with toks := s.toks + 1 }) : wpAny (model prog w) A (getAttr (.ref x) name expr) Q E s := by
  obtain ⟨od, J, hl⟩ := I.look
  exact PySem.W.get_value X J (PySem.W.plainGet_of hg).1 (PySem.W.findObj_cls hh ha hn hv' hc (by rw [hl, hv])) hv' h

theorem get_meth {pl : Sem Bool} {Q : Value × List Value → Shared → Prop} (X : K.In s.heap) (I : ObjM s.heap x dx C mA) (hg : PySem.W.plainGet K C name = true)
    (hf : PySem.W.findIn K (.ref C) name = some (some (.ref f))) (ht : PySem.W.isFn K (.ref f) = true) (hv : mA name = none) (h : Q (.ref f, [.ref x]) s) :
    wpAny (model prog w) A (getMethod (.ref x) name pl) Q E s := by
  obtain ⟨od, J, hl⟩ := I.look
  exact PySem.W.method_fn X J (PySem.W.plainGet_of hg).1 (PySem.W.plainGet_of hg).2 hf (beq_iff_eq.mp ht) (by show (PySem.W.lookIn name od).map (·.isSome) = some false; rw [hl, hv]; rfl) h

theorem set_map {ns : List Str} {Q : Unit → Shared → Prop} (X : K.In s.heap) (I : ObjM s.heap x dx C mA)
    (hs : PySem.W.findIn K (.ref C) "__setattr__" = some (some (.builtin "object.__setattr__"))) (hp : PySem.W.plainOver K C = true) (ht : PySem.W.takerIn K C name = some none) (hh : PySem.W.hasDictIn K C = true)
    (hw : PySem.Within mA ns) (hsz : ns.length ≤ sizeLine)
    (h : ∀ h', ObjM h' x dx C (fun y => if y = name then some v else mA y) → Heap.SameBut dx s.heap h' → Q () { s with heap := h', toks := s.toks + 2 }) :
    wpAny (model prog w) A (setAttr (.ref x) name v) Q E s := by
  obtain ⟨od, J, hl⟩ := I.look
  refine PySem.W.set_plain X J hs (PySem.W.osa_open (s := { s with toks := s.toks + 1 }) (r := none) X J hp ht fun b => ?_)
  obtain ⟨cd, hc, hd'⟩ := PySem.W.any_some hh
  have hx : s.heap.get? x = some ⟨.ref C, some dx, .plain, #[]⟩ := I.obj
  refine wpAny_bind (wpAny_pure (wpAny_bind (wpAny_bind (wpAny_loadPart hx (wpAny_bind (PySem.W.Looks.here (s := { s with toks := s.toks + 1 }) (PySem.W.looks_clsIn X hc) ?_))))))
  rw [hd']
  refine wpAny_pure (a := some dx) (wpAny_bind (wpAny_pure (wpAny_bind ?_)))
  refine wpAny_nsSet1 (s := { s with toks := s.toks + 1 }) I.ns fun h' hn2 hs2 => ?_
  obtain ⟨oD, esD, epD, hoD, hdD, hcD⟩ := hn2.count (PySem.Within.cons name v hw)
  refine wpAny_bind (wpAny_lookBehind hoD (by rw [hdD]; exact pastItsLine_dict (Nat.le_trans hcD (by rw [List.length_cons]; omega))) ?_)
  exact wpAny_pure (h _ ⟨(hs2.2 _ (Ne.symm I.ne)).trans I.obj, hn2, I.ne⟩ hs2)

/-- C(..): the dict at the heap's end, the instance behind it; then its __init__ -/
theorem make_map {R : Result → Shared → Prop} {vs : List Value} {kw : List (Str × Value)} (X : K.In s.heap) (hm : PySem.W.makesIn K C = true)
    (hi : PySem.W.findIn K (.ref C) "__init__" = some (some (.ref f))) (hf : PySem.W.typeIn K (.ref f) = some (.type "function"))
    (h : codeAny (model prog w) (A.under (.builtin "type.__call__" ⟨.ref C :: vs, kw⟩)) (.call (.ref f) ⟨.ref (s.heap.objs.size + 1) :: vs, kw⟩) (PySem.W.InitBack (s.heap.objs.size + 1) R)
      { s with heap := (s.heap.push PySem.W.emptyDict).push (PySem.W.instObj C s.heap.objs.size) }) :
    codeAny (model prog w) A (.call (.ref C) ⟨vs, kw⟩) R s := by
  obtain ⟨hh, g, d, t, os⟩ := s
  exact PySem.W.make_core (PySem.W.makes_of X hm) (PySem.W.looks_findIn X hi) (fun self => PySem.W.bind_fn X self hf) (.inl rfl) h
/-- C() where there is no __init__ but object's -/
theorem make_map0 {R : Result → Shared → Prop} (X : K.In s.heap) (hm : PySem.W.makesIn K C = true)
    (hi : PySem.W.findIn K (.ref C) "__init__" = some (some (.builtin "object.__init__")))
    (hb : ∀ self, PySem.W.Looks (model prog w) s.heap (bindSpecial (.builtin "object.__init__") self) (.builtin "object.__init__", [self]))
    (h : codeAny (model prog w) (A.under (.builtin "type.__call__" ⟨[.ref C], []⟩)) (.call (.builtin "object.__init__") ⟨[.ref (s.heap.objs.size + 1)], []⟩) (PySem.W.InitBack (s.heap.objs.size + 1) R)
      { s with heap := (s.heap.push PySem.W.emptyDict).push (PySem.W.instObj C s.heap.objs.size) }) :
    codeAny (model prog w) A (.call (.ref C) ⟨[], []⟩) R s := by
  obtain ⟨hh, g, d, t, os⟩ := s
  exact PySem.W.make_core (PySem.W.makes_of X hm) (PySem.W.looks_findIn X hi) hb (.inr ⟨rfl, rfl⟩) h
end

/-! ### the attributes as a list of pairs -/
def putF (f : Str) (v : V) : List (Str × V) → List (Str × V)
  | [] => [(f, v)]
  | (g, x) :: r => if g = f then (g, v) :: r else (g, x) :: putF f v r
theorem lookup_putF (f g : Str) (v : V) : ∀ fs : List (Str × V), (putF f v fs).lookup g = if g = f then some v else fs.lookup g
  | [] => by
    show List.lookup g [(f, v)] = _
    by_cases h : g = f
    · have hb : (g == f) = true := beq_iff_eq.mpr h
      simp only [List.lookup, hb, if_pos h]
    · have hb : (g == f) = false := beq_eq_false_iff_ne.mpr h
      simp only [List.lookup, hb, if_neg h]
  | (k, x) :: r => by
    have ih := lookup_putF f g v r
    rw [show putF f v ((k, x) :: r) = (if k = f then (k, v) :: r else (k, x) :: putF f v r) from rfl]
    by_cases hk : k = f
    · rw [if_pos hk]
      by_cases h : g = k
      · have hb : (g == k) = true := beq_iff_eq.mpr h
        simp only [List.lookup, hb, if_pos (h.trans hk)]
      · have hb : (g == k) = false := beq_eq_false_iff_ne.mpr h
        simp only [List.lookup, hb, if_neg (fun e : g = f => h (e.trans hk.symm))]
    · rw [if_neg hk]
      by_cases h : g = k
      · have hb : (g == k) = true := beq_iff_eq.mpr h
        simp only [List.lookup, hb, if_neg (fun e : g = f => hk (h.symm.trans e))]
      · have hb : (g == k) = false := beq_eq_false_iff_ne.mpr h
        simp only [List.lookup, hb]
        exact ih
theorem keys_putF (f : Str) (v : V) : ∀ fs : List (Str × V), f ∈ (putF f v fs).map (·.1) ∧ ∀ g, g ∈ fs.map (·.1) → g ∈ (putF f v fs).map (·.1)
  | [] => ⟨by simp [putF], fun g h => by simp at h⟩
  | (k, x) :: r => by
    obtain ⟨i1, i2⟩ := keys_putF f v r
    rw [show putF f v ((k, x) :: r) = (if k = f then (k, v) :: r else (k, x) :: putF f v r) from rfl]
    by_cases hk : k = f
    · rw [if_pos hk]
      subst hk
      exact ⟨by simp, fun g h => by simpa using h⟩
    · rw [if_neg hk]
      refine ⟨?_, fun g h => ?_⟩
      · rw [List.map_cons]
        exact List.mem_cons_of_mem _ i1
      · rw [List.map_cons] at h ⊢
        rcases List.mem_cons.mp h with e | e
        · exact List.mem_cons.mpr (.inl e)
        · exact List.mem_cons_of_mem _ (i2 g e)
theorem length_putF (f : Str) (v : V) : ∀ fs : List (Str × V), (putF f v fs).length ≤ fs.length + 1
  | [] => by simp [putF]
  | (k, x) :: r => by
    have ih := length_putF f v r
    rw [show putF f v ((k, x) :: r) = (if k = f then (k, v) :: r else (k, x) :: putF f v r) from rfl]
    by_cases hk : k = f
    · rw [if_pos hk, List.length_cons, List.length_cons]; omega
    · rw [if_neg hk, List.length_cons, List.length_cons]; omega

theorem RelO.some_of {v : V} {o : Option Value} (r : RelO (some v) o) : ∃ u, o = some u ∧ RelV v u := by
  cases o with
  | none => exact (show False from r).elim
  | some u => exact ⟨u, rfl, r⟩
theorem RelO.none_of {o : Option Value} (r : RelO none o) : o = none := by
  cases o with
  | none => rfl
  | some u => exact (show False from r).elim
theorem handed_of {v : V} {u : Value} (r : RelV v u) : PySem.W.handedIn u = true := by
  cases v with
  | non => cases (show u = Value.none from r); rfl
  | bl b => cases (show u = Value.bool b from r); rfl
  | int i => obtain ⟨t, e⟩ := (show ∃ t, u = Value.int i t from r); cases e; rfl
  | str x => obtain ⟨t, e⟩ := (show ∃ t, u = Value.str x t from r); cases e; rfl
  | byt b => obtain ⟨t, e⟩ := (show ∃ t, u = Value.bytes b t from r); cases e; rfl
  | flt b => obtain ⟨t, e⟩ := (show ∃ t, u = Value.float b t from r); cases e; rfl
  | ref a => cases (show u = Value.ref a from r); rfl
  | ty n => cases (show u = Value.type n from r); rfl

section
variable {P : Program} {w : World} {H H' : Hp} {h h' : Heap} {a C dx : Addr} {fs fs' : List (Str × V)}
theorem ins_get (hok : HOk P w H h) (e : H a = some (.ins C dx fs)) : ∃ mA, ObjM h a dx C mA ∧ (∀ f, RelO (fs.lookup f) (mA f)) ∧ PySem.Within mA (fs.map (·.1)) ∧ fs.length ≤ 1000 ∧ H dx = some (.own a) := by
  obtain ⟨d, z, ne, ob, mA, n, r, q⟩ := (show ObjOk P w H h a (.ins C dx fs) from hok a _ e)
  exact ⟨mA, ⟨ob, n, ne⟩, r, q, z, d⟩
end

/-! ### what of the text a class must have -/
structure Cls (K : PySem.W.Frag) (C : Addr) : Prop where
  pg : PySem.W.plainGet K C Str.empty = true
  hd : PySem.W.hasDictIn K C = true
  po : PySem.W.plainOver K C = true
  sa : PySem.W.findIn K (.ref C) "__setattr__" = some (some (.builtin "object.__setattr__"))
theorem Cls.get {K : PySem.W.Frag} {C : Addr} (c : Cls K C) (f : Str) : PySem.W.plainGet K C f = true := c.pg
/-- no class of it has the name -/
def NoAttr (K : PySem.W.Frag) (C : Addr) (f : Str) : Prop := PySem.W.findIn K (.ref C) f = some none
theorem NoAttr.taker {K : PySem.W.Frag} {C : Addr} {f : Str} (n : NoAttr K C f) : PySem.W.takerIn K C f = some none := by
  unfold PySem.W.takerIn
  rw [show PySem.W.findIn K (.ref C) f = some none from n]
  rfl
/-- a constant of the class -/
structure Con (K : PySem.W.Frag) (C : Addr) (f : Str) (v : V) (u : Value) : Prop where
  at_ : PySem.W.findIn K (.ref C) f = some (some u)
  rel : RelV v u
  get : PySem.W.specialIn K u "__get__" = some none
  cp : PySem.W.copiedNames.contains f = false
/-- a method: a plain def of the class or of one above it -/
structure Meth (K : PySem.W.Frag) (C : Addr) (m : Str) (f : Addr) : Prop where
  at_ : PySem.W.findIn K (.ref C) m = some (some (.ref f))
  fn : PySem.W.isFn K (.ref f) = true
  kp : PySem.W.keepIn K (.ref f) = true

section
variable {X : Cx} {pins : List (Addr × Obj)} {σ : St} {H : Hp} {s : Shared} {a C dx : Addr} {fs : List (Str × V)} {f : Str} {v : V} {A : Around} {E : Value → Shared → Prop}

theorem getattr_ok {b : Bool} {Q : Value → Shared → Prop} (I : Inv X pins σ H s) (e : H a = some (.ins C dx fs)) (c : Cls X.K C) (n : NoAttr X.K C f) (l : fs.lookup f = some v)
    (h : ∀ u s', Inv X pins σ H s' → RelV v u → Q u s') : wpAny (model X.prog X.w) A (getAttr (.ref a) f b) Q E s := by
  obtain ⟨mA, O, r, _, _, _⟩ := ins_get I.hok e
  obtain ⟨u, hu, ru⟩ := RelO.some_of (v := v) (o := mA f) (by rw [← l]; exact r f)
  exact get_map I.kIn O (c.get f) c.hd n hu (handed_of ru) (h u _ (I.tok _) ru)

theorem getcon_ok {b : Bool} {u : Value} {Q : Value → Shared → Prop} (I : Inv X pins σ H s) (e : H a = some (.ins C dx fs)) (c : Cls X.K C) (k : Con X.K C f v u) (l : fs.lookup f = none)
    (h : ∀ s', Inv X pins σ H s' → Q u s') : wpAny (model X.prog X.w) A (getAttr (.ref a) f b) Q E s := by
  obtain ⟨mA, O, r, _, _, _⟩ := ins_get I.hok e
  have hn : mA f = none := RelO.none_of (by rw [← l]; exact r f)
  exact get_const I.kIn O (c.get f) c.hd k.at_ k.get k.cp hn (handed_of k.rel) (h _ (I.tok _))

theorem getmeth_ok {m : Str} {g : Addr} {pl : Sem Bool} {Q : Value × List Value → Shared → Prop} (I : Inv X pins σ H s) (e : H a = some (.ins C dx fs)) (c : Cls X.K C) (k : Meth X.K C m g) (l : fs.lookup m = none)
    (h : Q (.ref g, [.ref a]) s) : wpAny (model X.prog X.w) A (getMethod (.ref a) m pl) Q E s := by
  obtain ⟨mA, O, r, _, _, _⟩ := ins_get I.hok e
  have hn : mA m = none := RelO.none_of (by rw [← l]; exact r m)
  exact get_meth I.kIn O (c.get m) k.at_ k.fn hn h

theorem setattr_ok {y : V} {u : Value} {Q : Unit → Shared → Prop} (I : Inv X pins σ H s) (e : H a = some (.ins C dx fs)) (c : Cls X.K C) (n : NoAttr X.K C f) (hl : fs.length < 1000) (ry : RelV y u)
    (h : ∀ s', Inv X pins σ (upd H a (.ins C dx (putF f y fs))) s' → Q () s') : wpAny (model X.prog X.w) A (setAttr (.ref a) f u) Q E s := by
  obtain ⟨mA, O, r, wi, _, ho⟩ := ins_get I.hok e
  have hz : (fs.map (·.1)).length ≤ sizeLine := by rw [List.length_map, sizeLine_eq]; omega
  refine set_map I.kIn O c.sa c.po n.taker c.hd wi hz fun h' O' sb => h _ ?_
  have hd : ∃ o, h'.get? dx = some o := let ⟨o, _, _, e', _⟩ := O'.ns; ⟨o, e'⟩
  refine I.write (x := a) (e := dx) (by rw [e]; exact True.intro) (.inr ho) (fun b q hb z => (sb.2 b hb).trans z) hd ?_
  refine ⟨by rw [upd_ne O.ne]; exact ho, ?_, O.ne, O'.obj, _, O'.ns, fun g => ?_, fun g hg => ?_⟩
  · have := length_putF f y fs; omega
  · show RelO ((putF f y fs).lookup g) (if g = f then some u else mA g)
    rw [lookup_putF]
    by_cases q : g = f
    · rw [if_pos q, if_pos q]; exact ry
    · rw [if_neg q, if_neg q]; exact r g
  · by_cases q : g = f
    · rw [q]; exact (keys_putF f y fs).1
    · refine (keys_putF f y fs).2 g (wi g fun z => hg ?_)
      show (if g = f then some u else mA g) = none
      rw [if_neg q]; exact z

/-- a new instance, tracked, without attributes -/
theorem Inv.made (I : Inv X pins σ H s) : Inv X pins σ (upd (upd H s.heap.objs.size (.own (s.heap.objs.size + 1))) (s.heap.objs.size + 1) (.ins C s.heap.objs.size []))
    { s with heap := (s.heap.push PySem.W.emptyDict).push (PySem.W.instObj C s.heap.objs.size) } := by
  have e1 : (s.heap.push PySem.W.emptyDict).get? s.heap.objs.size = some PySem.W.emptyDict := Heap.get?_push_size s.heap rfl
  have e2 : ((s.heap.push PySem.W.emptyDict).push (PySem.W.instObj C s.heap.objs.size)).get? (s.heap.objs.size + 1) = some (PySem.W.instObj C s.heap.objs.size) := by
    have := Heap.get?_push_size (s.heap.push PySem.W.emptyDict) (o := PySem.W.instObj C s.heap.objs.size) rfl
    rwa [Heap.size_push] at this
  have e3 : (s.heap.push PySem.W.emptyDict).Ns s.heap.objs.size (fun _ => none) := ⟨PySem.W.emptyDict, #[], _, e1, rfl, (fun e he => absurd he (by simp)), fun _ => rfl⟩
  have I1 := I.laid (a := s.heap.objs.size) (o := .own (s.heap.objs.size + 1)) (h' := s.heap.push PySem.W.emptyDict) (t' := s.toks) (fun b u q => Heap.get?_push_of_some _ q) (Nat.le_refl _) ⟨_, e1⟩
  refine I1.laid (a := s.heap.objs.size + 1) (o := .ins C s.heap.objs.size []) (t' := s.toks) (fun b u q => Heap.get?_push_of_some _ q) (Nat.le_of_eq (Heap.size_push _ _)) ?_
  have ne : s.heap.objs.size ≠ s.heap.objs.size + 1 := Nat.ne_of_lt (Nat.lt_succ_self _)
  refine ⟨by rw [upd_ne ne, upd_same], Nat.zero_le _, ne, e2, fun _ => none, (Heap.Ns1.of_empty e3).at fun o q => Heap.get?_push_of_some _ q, fun _ => True.intro, fun y hy => absurd rfl hy⟩

/-- e.f where nothing but the object is asked: through attributeBase (super) and the last hold -/
theorem attr_of {prog : Program} {w : World} {env : Env} {e : Expr} {f : Str} {pos : Pos} {s : Shared} {Q : Value → Shared → Prop} (hb : attributeBase e f env (eval e env) = eval e env)
    (h : wpAny (model prog w) A (eval e env) (fun o s₁ => wpAny (model prog w) A (getAttr o f true) Q E s₁) E s) : wpAny (model prog w) A (eval (.Attribute e f pos) env) Q E s :=
  Attribute_any_ h (by rw [arm_eval_Attribute, hb])
end

/-! ### readings and rules -/
/-- e.f, an attribute of the instance -/
def tFld (K : PySem.W.Frag) (ta : TE) (f : Str) : TE := fun σ H Q => ta σ H fun x H1 => ∃ a C dx fs v, x = .ref a ∧ H1 a = some (.ins C dx fs) ∧ Cls K C ∧ NoAttr K C f ∧ fs.lookup f = some v ∧ Q v H1
/-- e.f, a constant of the class -/
def tCon (K : PySem.W.Frag) (ta : TE) (f : Str) : TE := fun σ H Q => ta σ H fun x H1 => ∃ a C dx fs v u, x = .ref a ∧ H1 a = some (.ins C dx fs) ∧ Cls K C ∧ Con K C f v u ∧ fs.lookup f = none ∧ Q v H1
/-- e.f = value -/
def sFld (K : PySem.W.Frag) (ta tv : TE) (f : Str) : TS := fun D σ H => tv σ H fun y H1 => ta σ H1 fun x H2 => ∃ a C dx fs, x = .ref a ∧ H2 a = some (.ins C dx fs) ∧ Cls K C ∧ NoAttr K C f ∧ fs.length < 1000 ∧
  D.nx σ (upd H2 a (.ins C dx (putF f y fs)))
/-- an augmented operator on two values -/
def InOp (X : Cx) (op : Operator) (rd : V → V → Hp → VK → Prop) : Prop :=
  ∀ (pins : List (Addr × Obj)) (s : Shared) (σ : St) (H : Hp) (x y : V) (u v : Value) (Q : VK), Inv X pins σ H s → RelV x u → RelV y v → rd x y H Q → wpAny (model X.prog X.w) X.A (inplaceOp op u v) (EP X pins σ Q) X.xe s
/-- e.f op= value -/
def sFldAug (K : PySem.W.Frag) (ta tv : TE) (rd : V → V → Hp → VK → Prop) (f : Str) : TS := fun D σ H => ta σ H fun x H1 => ∃ a C dx fs v, x = .ref a ∧ H1 a = some (.ins C dx fs) ∧ Cls K C ∧ NoAttr K C f ∧ fs.lookup f = some v ∧
  tv σ H1 fun y H2 => rd v y H2 fun z H3 => ∃ dx' fs', H3 a = some (.ins C dx' fs') ∧ fs'.length < 1000 ∧ D.nx σ (upd H3 a (.ins C dx' (putF f z fs')))

section
variable {X : Cx} {o e value : Expr} {f : Str} {pos pos' tpos : Pos} {ta tv : TE}
theorem pe_fld (he : PE X e ta) (hb : attributeBase e f X.env (eval e X.env) = eval e X.env) : PE X (.Attribute e f pos) (tFld X.K ta f) := by
  intro pins s σ H Q I h
  refine attr_of hb (thn (he pins s σ H _ I h) fun u s1 ⟨x, H1, I1, rx, a, C, dx, fs, v, ex, ea, c, n, l, q⟩ => ?_)
  subst ex
  obtain rfl : u = Value.ref a := rx
  exact getattr_ok I1 ea c n l fun u' s2 I2 ru => ⟨v, H1, I2, ru, q⟩
theorem pe_con (he : PE X e ta) (hb : attributeBase e f X.env (eval e X.env) = eval e X.env) : PE X (.Attribute e f pos) (tCon X.K ta f) := by
  intro pins s σ H Q I h
  refine attr_of hb (thn (he pins s σ H _ I h) fun u s1 ⟨x, H1, I1, rx, a, C, dx, fs, v, u0, ex, ea, c, k, l, q⟩ => ?_)
  subst ex
  obtain rfl : u = Value.ref a := rx
  exact getcon_ok I1 ea c k l fun s2 I2 => ⟨v, H1, I2, k.rel, q⟩
theorem ps_fld (ha : PE X o ta) (hv : PE X value tv) (hs : swapsWith value (some (.Attribute o f pos')) pos.line X.env = pure false) : PS X (.Assign [.Attribute o f pos'] value pos) (sFld X.K ta tv f) := by
  intro pins s σ H D I h
  refine plainObj_wpAny_Assign_Attribute (thn (hv pins s σ H _ I h) fun u s1 ⟨y, H1, I1, ry, q⟩ => thn (ha pins s1 σ H1 _ I1 q) fun ov s2 ⟨x, H2, I2, rx, a, C, dx, fs, ex, ea, c, n, l, q2⟩ => ?_) hs
  subst ex
  obtain rfl : ov = Value.ref a := rx
  exact setattr_ok I2 ea c n l ry fun s3 I3 => ⟨σ, _, I3, q2⟩
theorem ps_fldaug {op : Operator} {rd : V → V → Hp → VK → Prop} (ha : PE X o ta) (hv : PE X value tv) (hop : InOp X op rd) : PS X (.AugAssign (.Attribute o f tpos) op value pos) (sFldAug X.K ta tv rd f) := by
  intro pins s σ H D I h
  refine wpAny_AugAssign_AttributeAny (thn (ha pins s σ H _ I h) fun ov s1 ⟨x, H1, I1, rx, a, C, dx, fs, v, ex, ea, c, n, l, q⟩ => ?_)
  subst ex
  obtain rfl : ov = Value.ref a := rx
  refine getattr_ok I1 ea c n l fun u s2 I2 ru => thn (hv pins s2 σ H1 _ I2 q) fun w3 s3 ⟨y, H2, I3, ry, q3⟩ => thn (hop pins s3 σ H2 v y u w3 _ I3 ru ry q3) fun w4 s4 ⟨z, H3, I4, rz, dx', fs', ea', l', q4⟩ => ?_
  exact setattr_ok I4 ea' c n l' rz fun s5 I5 => ⟨σ, _, I5, q4⟩
def rAdd : V → V → Hp → VK → Prop := fun x y H Q => ∃ i j, x = .int i ∧ y = .int j ∧ Q (.int (i + j)) H
def rSub : V → V → Hp → VK → Prop := fun x y H Q => ∃ i j, x = .int i ∧ y = .int j ∧ Q (.int (i - j)) H
theorem in_add : InOp X .Add rAdd := by
  rintro pins s σ H x y u v Q I rx ry ⟨i, j, rfl, rfl, q⟩
  obtain ⟨t, rfl⟩ := (show ∃ t, u = Value.int i t from rx)
  obtain ⟨t', rfl⟩ := (show ∃ t', v = Value.int j t' from ry)
  exact PyProof.Rows.iadd_int ⟨.int (i + j), H, I.tok _, ⟨_, rfl⟩, q⟩
theorem in_sub : InOp X .Sub rSub := by
  rintro pins s σ H x y u v Q I rx ry ⟨i, j, rfl, rfl, q⟩
  obtain ⟨t, rfl⟩ := (show ∃ t, u = Value.int i t from rx)
  obtain ⟨t', rfl⟩ := (show ∃ t', v = Value.int j t' from ry)
  exact PyProof.Rows.isub_int ⟨.int (i - j), H, I.tok _, ⟨_, rfl⟩, q⟩

/-- what is between an instance and its method: the tree of a method call -/
theorem methcall_of {pl : Sem Bool} {m : Str} {apos : Pos} {args : List Expr} {pins : List (Addr × Obj)} {s : Shared} {σ : St} {H : Hp} {Q : Value → Shared → Prop} {te : TE} (he : PE X e te) (I : Inv X pins σ H s)
    (h : te σ H fun x H1 => ∃ a C dx fs g, x = .ref a ∧ H1 a = some (.ins C dx fs) ∧ Cls X.K C ∧ Meth X.K C m g ∧ fs.lookup m = none ∧
      ∀ s1, Inv X pins σ H1 s1 → wpAny (model X.prog X.w) X.A (callWith pos (.ref g) [.ref a] (backTo pos (starEach args X.env)) (backToKw pos (keywordEach [] X.env))) Q X.xe s1)
    (ht : eval (.Call (.Attribute e m apos) args [] pos) X.env = (do
      let ov ← eval e X.env
      standAt apos.atName
      let (f, first) ← holding [ov] (getMethod ov m pl)
      callWith pos f first (backTo pos (starEach args X.env)) (backToKw pos (keywordEach [] X.env)))) :
    wpAny (model X.prog X.w) X.A (eval (.Call (.Attribute e m apos) args [] pos) X.env) Q X.xe s := by
  refine PySem.W.methodCall_KW (pl := pl) (thn (he pins s σ H _ I h) fun u s1 ⟨x, H1, I1, rx, a, C, dx, fs, g, ex, ea, c, k, l, q⟩ => ?_) ht
  subst ex
  obtain rfl : u = Value.ref a := rx
  exact getmeth_ok I1 ea c k l (q s1 I1)
end

/-! ### isinstance -/
section
variable {X : Cx} {pins : List (Addr × Obj)} {σ : St} {H : Hp} {s : Shared} {A : Around} {E : Value → Shared → Prop} {Q : Value → Shared → Prop} {c : Value} {b : Bool}
/-- the type of a value, as the fragment's deciders take it; for an instance its class -/
inductive TyOf (K : PySem.W.Frag) (H : Hp) : V → Value → Prop where
  | non : TyOf K H .non (.type "NoneType")
  | bl (x : Bool) : TyOf K H (.bl x) (.type "bool")
  | int (i : Int) : TyOf K H (.int i) (.type "int")
  | str (x : Str) : TyOf K H (.str x) (.type "str")
  | flt (x : UInt64) : TyOf K H (.flt x) (.type "float")
  | lst {a : Addr} {xs : List V} (e : H a = some (.lst xs)) : TyOf K H (.ref a) (.type "list")
  | frz {a : Addr} {o : Obj} {xs : List V} (e : H a = some (.frz o (.lst xs))) : TyOf K H (.ref a) (.type "list")
  | tup {a : Addr} {xs : List V} (e : H a = some (.tup xs)) : TyOf K H (.ref a) (.type "tuple")
  | dK {a : Addr} {kvs : List (Key × V)} (e : H a = some (.dK kvs)) : TyOf K H (.ref a) (.type "dict")
  | dT {a : Addr} {kvs : List (List Key × V)} (e : H a = some (.dT kvs)) : TyOf K H (.ref a) (.type "dict")
  | ins {a C dx : Addr} {fs : List (Str × V)} (e : H a = some (.ins C dx fs)) (cl : Cls K C) (ha : PySem.W.findIn K (.ref C) "__class__" = some (some (.builtin "object.__class__")))
      (hn : PySem.W.specialIn K (.builtin "object.__class__") "__get__" = some (some (.builtin "getset_descriptor.__get__"))) (htk : PySem.W.takesIn K (.builtin "object.__class__") = some true)
      (hm : PySem.W.mroIn K C (.type "object") = some true) : TyOf K H (.ref a) (.ref C)
/-- isinstance(x, c) for one class c, a built-in or an own one: kitOne's answer -/
theorem isinst_ok {x : V} {u t : Value} (I : Inv X pins σ H s) (rx : RelV x u) (ty : TyOf X.K H x t) (e : PySem.W.kitOne X.K t c = some b) (h : ∀ tk, Q (.bool b) { s with toks := tk }) :
    wpAny (model X.prog X.w) A (call (.builtin "isinstance") [u, c]) Q E s := by
  cases ty with
  | non => cases (show u = Value.none from rx); exact PySem.W.kia_one PySem.W.kitx_none I.kIn True.intro e (fun z => nomatch z) h
  | bl y => cases (show u = Value.bool y from rx); exact PySem.W.kia_one PySem.W.kitx_bool I.kIn True.intro e (fun z => nomatch z) h
  | int i => obtain ⟨t, q⟩ := (show ∃ t, u = Value.int i t from rx); cases q; exact PySem.W.kia_one PySem.W.kitx_int I.kIn True.intro e (fun z => nomatch z) h
  | str y => obtain ⟨t, q⟩ := (show ∃ t, u = Value.str y t from rx); cases q; exact PySem.W.kia_one PySem.W.kitx_str I.kIn True.intro e (fun z => nomatch z) h
  | flt y => obtain ⟨t, q⟩ := (show ∃ t, u = Value.float y t from rx); cases q; exact PySem.W.kia_one PySem.W.kitx_float I.kIn True.intro e (fun z => nomatch z) h
  | @lst a xs ea =>
    cases (show u = Value.ref a from rx)
    obtain ⟨_, _, n, _, h1⟩ := (show ObjOk X.prog X.w H s.heap a (.lst xs) from I.hok a _ ea)
    exact PySem.W.kia_one PySem.W.kitx_list I.kIn ⟨_, h1, rfl⟩ e (fun z => nomatch z) h
  | @frz a ob xs ea =>
    cases (show u = Value.ref a from rx)
    obtain ⟨_, _, _, n, _, h1⟩ := (show ObjOk X.prog X.w H s.heap a (.frz ob (.lst xs)) from I.hok a _ ea)
    exact PySem.W.kia_one PySem.W.kitx_list I.kIn ⟨_, h1, rfl⟩ e (fun z => nomatch z) h
  | @tup a xs ea =>
    cases (show u = Value.ref a from rx)
    obtain ⟨_, _, _, p⟩ := (show ObjOk X.prog X.w H s.heap a (.tup xs) from I.hok a _ ea)
    obtain ⟨o, h1, h2, _⟩ := p
    exact PySem.W.kia_one PySem.W.kitx_tuple I.kIn ⟨o, h1, h2⟩ e (fun z => nomatch z) h
  | @dK a kvs ea =>
    cases (show u = Value.ref a from rx)
    obtain ⟨_, _, vs, _, p⟩ := (show ObjOk X.prog X.w H s.heap a (.dK kvs) from I.hok a _ ea)
    obtain ⟨o, es, ep, h1, h2, _⟩ := p
    exact PySem.W.kia_one PySem.W.kitx_dict I.kIn ⟨o, h1, h2.1⟩ e (fun z => nomatch z) h
  | @dT a kvs ea =>
    cases (show u = Value.ref a from rx)
    obtain ⟨_, _, xs, _, o, es, ep, h1, h2, _⟩ := (show ObjOk X.prog X.w H s.heap a (.dT kvs) from I.hok a _ ea)
    exact PySem.W.kia_one PySem.W.kitx_dict I.kIn ⟨o, h1, h2.1⟩ e (fun z => nomatch z) h
  | @ins a C dx fs ea cl ha hn htk hm =>
    cases (show u = Value.ref a from rx)
    obtain ⟨mA, O, _⟩ := ins_get I.hok ea
    obtain ⟨od, J, _⟩ := O.look
    exact PySem.W.kia_one (PySem.W.kitx_own (cl.get _) cl.hd ha hn htk hm) I.kIn J e (fun z => nomatch z) h
end
end L2

namespace L2
open PySem PySem.Spec PyProof.Rows

/-! ### room -/
structure Room (k : Nat) (A : Around) : Prop where
  hd : A.handled = none
  dp : A.depth + 3 * k + 5 < recursionLimit
  un : A.units + 16 * k + 200 < cLine
theorem Room.mono {j k : Nat} {A : Around} (r : Room k A) (h : j ≤ k) : Room j A := ⟨r.hd, by have := r.dp; omega, by have := r.un; omega⟩
theorem Room.deeper {k : Nat} {A : Around} (r : Room (k + 1) A) (env : Env) : Room k (A.deeper env) :=
  ⟨r.hd, by have := r.dp; show A.depth + 1 + 3 * k + 5 < _; omega, by have := r.un; show A.units + 3 + 16 * k + 200 < _; omega⟩
theorem Room.in1 {k : Nat} {A : Around} (r : Room (k + 1) A) : Room k A.in1 :=
  ⟨r.hd, by have := r.dp; show A.depth + 3 * k + 5 < _; omega, by have := r.un; show A.units + 1 + 16 * k + 200 < _; omega⟩
theorem make_depth {A : Around} {C : Addr} {us : List Value} {kw : List (Str × Value)} : (A.under (.builtin "type.__call__" ⟨.ref C :: us, kw⟩)).depth = A.depth + 1 := by
  first | rfl | simp [Around.under, Code.weight, Code.isCreation, Code.isGuard, Code.isCaller, Code.frames, Code.isFrame, guardIds]
theorem make_units {A : Around} {C : Addr} {us : List Value} {kw : List (Str × Value)} : (A.under (.builtin "type.__call__" ⟨.ref C :: us, kw⟩)).units = A.units + 1 := by
  first | rfl | simp [Around.under, Code.cUnits, Code.frames, Code.isFrame]
theorem Room.make {k : Nat} {A : Around} (r : Room (k + 1) A) (C : Addr) (us : List Value) (kw : List (Str × Value)) : Room k (A.under (.builtin "type.__call__" ⟨.ref C :: us, kw⟩)) :=
  ⟨r.hd, by have := r.dp; rw [make_depth]; omega, by have := r.un; rw [make_units]; omega⟩
theorem Room.depth {k : Nat} {A : Around} (r : Room k A) : A.depth < recursionLimit := by have := r.dp; omega
theorem Room.units {k : Nat} {A : Around} (r : Room k A) : A.units + 64 < cLine := by have := r.un; omega
theorem Room.units0 {k : Nat} {A : Around} (r : Room k A) : A.units < cLine := by have := r.un; omega

/-! ### argument lists and displays -/
def tNil : TA := fun _ H Q => Q [] H
def tCons (ta : TE) (tr : TA) : TA := fun σ H Q => ta σ H fun x H1 => tr σ H1 fun xs H2 => Q (x :: xs) H2
section
variable {X : Cx} {e : Expr} {es : List Expr} {te : TE} {t : TA} {pos : Pos}
theorem pa_nil : PA X [] tNil := fun _ _ _ _ H Q I h => Calls.spliced_nil ⟨[], H, I, .nil, h⟩
theorem pa_cons (ha : PE X e te) (hr : PA X es t) (hs : starEach (e :: es) X.env = (false, eval e X.env) :: starEach es X.env := by rfl) : PA X (e :: es) (tCons te t) := by
  intro pos pins s σ H Q I h
  rw [hs]
  show wpAny _ _ (spliced ((false, eval e X.env) :: backTo pos (starEach es X.env))) _ _ s
  refine Calls.spliced_cons (thn (ha pins s σ H _ I h) fun u s1 ⟨x, H1, I1, r1, q1⟩ => ?_)
  exact thn (hr pos pins s1 σ H1 _ I1 q1) fun us s2 ⟨xs, H2, I2, r2, q2⟩ => ⟨x :: xs, H2, I2, .cons r1 r2, q2⟩

/-- a tuple, a list of written items -/
def tTup (t : TA) : TE := fun σ H Q => t σ H fun xs H1 => xs.length ≤ sizeLine ∧ ∀ p, H1 p = none → Q (.ref p) (upd H1 p (.tup xs))
def tLst (t : TA) : TE := fun σ H Q => t σ H fun xs H1 => xs.length ≤ sizeLine ∧ ∀ p, H1 p = none → Q (.ref p) (upd H1 p (.lst xs))
theorem pe_tup {x1} (h : PA X es t) : PE X (.Tuple es x1 pos) (tTup t) := by
  intro pins s σ H Q I hq
  refine wpAny_Tuple_spliced (thn (h pos pins s σ H _ I hq) fun us s1 ⟨xs, H1, I1, r, z, q⟩ => ⟨by rw [← r.length]; exact z, ?_⟩)
  have hf : H1 s1.heap.objs.size = none := I1.hok.fresh (Nat.le_refl _)
  refine ⟨.ref s1.heap.objs.size, upd H1 s1.heap.objs.size (.tup xs), I1.laid (t' := s1.toks) (fun b u e => Heap.get?_push_of_some _ e) (Nat.le_refl _) ?_, rfl, q _ hf⟩
  exact ⟨z, us, r, ⟨_, Heap.get?_push_size _ rfl, rfl, _, rfl⟩⟩
theorem pe_lst (h : PA X es t) : PE X (.List es pos) (tLst t) := by
  intro pins s σ H Q I hq
  refine wpAny_List_spliced (thn (h pos pins s σ H _ I hq) fun us s1 ⟨xs, H1, I1, r, z, q⟩ => ⟨by rw [← r.length]; exact z, ?_⟩)
  have hf : H1 s1.heap.objs.size = none := I1.hok.fresh (Nat.le_refl _)
  refine ⟨.ref s1.heap.objs.size, upd H1 s1.heap.objs.size (.lst xs), I1.laid (t' := s1.toks) (fun b u e => Heap.get?_push_of_some _ e) (Nat.le_refl _) ?_, rfl, q _ hf⟩
  exact ⟨z, us, 0, r, Heap.get?_push_size _ rfl⟩
end

/-! ### what a def promises -/
/-- a def's promise: the bound arguments in the parameters' order, the heap, the wanted end, the wanted exception -/
abbrev Sp := List V → Hp → VK → XK → Prop
/-- how an exception lies behind a call (file 08 gives it): the callers' frames, abstract heap and state ahead of the call, the wish, the exception, the state -/
abbrev CXT := List Env → Hp → Shared → XK → Value → Shared → Prop

/-- the state at a call -/
structure Env0 (P : Program) (w : World) (K : PySem.W.Frag) (mg : Str → Option Value) (base : Heap) (A : Around) (outer : List Env) (s : Shared) (H : Hp) : Prop where
  frames : A.frames = some outer
  mod : Mod K mg base
  bs : ∀ b o, base.get? b = some o → s.heap.get? b = some o ∧ H b = none
  bsz : base.objs.size ≤ s.heap.objs.size
  funs : s.heap.FunFrames base outer
  frf : ∀ b ∈ frs outer, H b = none
  hok : HOk P w H s.heap
  bare : AllBare s.gens
/-- a call's end -/
def CE (outer : List Env) (P : Program) (w : World) (H : Hp) (s : Shared) (Q : VK) (u : Value) (s' : Shared) : Prop :=
  ∃ v H', s'.os = s.os ∧ AllBare s'.gens ∧ Un (frs outer) [] H H' s.heap s'.heap ∧ HOk P w H' s'.heap ∧ RelV v u ∧ Q v H'
def CR (CX : CXT) (outer : List Env) (P : Program) (w : World) (H : Hp) (s : Shared) (Q : VK) (E : XK) (r : Result) (s' : Shared) : Prop :=
  match r with
  | .ok (.ret u) => CE outer P w H s Q u s'
  | .ok _ => False
  | .error e => CX outer H s E e s'
structure FnOk (P : Program) (w : World) (K : PySem.W.Frag) (mg : Str → Option Value) (base : Heap) (CX : CXT) (k : Nat) (f : Addr) (fd : FuncData) (ps : List Str) (sp : Sp) : Prop where
  len : ∀ vs H Q E, sp vs H Q E → vs.length = ps.length
  run : ∀ (A : Around) (outer : List Env) (s : Shared) (H : Hp) (args : Args) (us : List Value) (vs : List V) (Q : VK) (E : XK), Room k A → Env0 P w K mg base A outer s H → BindsTo s fd args (ps.zip us) → Vals vs us → sp vs H Q E →
    codeAny (model P w) A (.call (.ref f) args) (CR CX outer P w H s Q E) s
theorem FnOk.mono {P : Program} {w : World} {K : PySem.W.Frag} {mg : Str → Option Value} {base : Heap} {CX : CXT} {j k : Nat} {f : Addr} {fd : FuncData} {ps : List Str} {sp : Sp} (F : FnOk P w K mg base CX j f fd ps sp) (h : j ≤ k) :
    FnOk P w K mg base CX k f fd ps sp := ⟨F.len, fun A outer s H args us vs Q E hr => F.run A outer s H args us vs Q E (hr.mono h)⟩
/-- a weaker promise -/
theorem FnOk.imp {P : Program} {w : World} {K : PySem.W.Frag} {mg : Str → Option Value} {base : Heap} {CX : CXT} {k : Nat} {f : Addr} {fd : FuncData} {ps : List Str} {sp sp' : Sp} (F : FnOk P w K mg base CX k f fd ps sp)
    (h : ∀ vs H Q E, sp' vs H Q E → sp vs H Q E) : FnOk P w K mg base CX k f fd ps sp' :=
  ⟨fun vs H Q E q => F.len vs H Q E (h _ _ _ _ q), fun A outer s H args us vs Q E hr he hb hv hs => F.run A outer s H args us vs Q E hr he hb hv (h _ _ _ _ hs)⟩

theorem Env0.make {P : Program} {w : World} {K : PySem.W.Frag} {mg : Str → Option Value} {base : Heap} {A : Around} {outer : List Env} {s : Shared} {H : Hp} (e : Env0 P w K mg base A outer s H) (C : Addr) (us : List Value) (kw : List (Str × Value)) :
    Env0 P w K mg base (A.under (.builtin "type.__call__" ⟨.ref C :: us, kw⟩)) outer s H := ⟨by first | exact e.frames | (simpa [Around.under, Code.envs, Code.isFrame, pushEnvs] using e.frames), e.mod, e.bs, e.bsz, e.funs, e.frf, e.hok, e.bare⟩
theorem Env0.in1 {P : Program} {w : World} {K : PySem.W.Frag} {mg : Str → Option Value} {base : Heap} {A : Around} {outer : List Env} {s : Shared} {H : Hp} (e : Env0 P w K mg base A outer s H) :
    Env0 P w K mg base A.in1 outer s H := ⟨e.frames, e.mod, e.bs, e.bsz, e.funs, e.frf, e.hok, e.bare⟩

section
variable {X : Cx} {pins : List (Addr × Obj)} {σ : St} {H : Hp} {s s' : Shared}
/-- from a body: what a callee wants -/
theorem Inv.env0 (I : Inv X pins σ H s) : Env0 X.prog X.w X.K X.mg X.base X.A X.stack s H :=
  ⟨I.ok.frames, I.ok.mod, I.bs, Nat.le_trans I.ok.bsz I.sz, I.stack, I.stkFree, I.hok, I.bare⟩
/-- behind a call -/
theorem Inv.after {Q : VK} {u : Value} (I : Inv X pins σ H s) (h : CE X.stack X.prog X.w H s Q u s') : EP X pins σ Q u s' := by
  obtain ⟨v, H', os, bare, un, hok, r, q⟩ := h
  obtain ⟨hh, g, d, t, os'⟩ := s'
  obtain rfl : os' = s.os := os
  exact ⟨v, H', I.call (h' := hh) (g' := g) (d' := d) (t' := t) (ch := []) un hok bare (fun b z => absurd z (by simp)), r, q⟩
end

/-! ### calls -/
/-- f(..): the written arguments, then the defaults dvs; E: what is wanted of an exception -/
def tCall (sp : Sp) (dvs : List V) (E : XK) (t : TA) : TE := fun σ H Q => t σ H fun vs H1 => sp (vs ++ dvs) H1 Q E
/-- o.m(..) of an instance of the class at C -/
def tMeth (C : Addr) (m : Str) (sp : Sp) (dvs : List V) (E : XK) (ta : TE) (t : TA) : TE := fun σ H Q => ta σ H fun x H1 => ∃ a dx fs, x = .ref a ∧ H1 a = some (.ins C dx fs) ∧ fs.lookup m = none ∧
  t σ H1 fun vs H2 => sp (x :: (vs ++ dvs)) H2 Q E
/-- C(..): a new instance and its dict, then __init__ -/
def tMake (C : Addr) (sp : Sp) (dvs : List V) (E : XK) (t : TA) : TE := fun σ H Q => t σ H fun vs H1 => ∀ x dx, H1 x = none → H1 dx = none → dx ≠ x →
  sp (.ref x :: (vs ++ dvs)) (upd (upd H1 dx (.own x)) x (.ins C dx [])) (fun v H2 => v = .non ∧ Q (.ref x) H2) E

/-- how the parameters are bound: us the positional arguments, kw the keywords' values by name, ds the defaults that fill up -/
def Binds (K : PySem.W.Frag) (fd : FuncData) (ps : List Str) (ds : List Value) : Prop :=
  ∀ (s : Shared) (us : List Value), K.In s.heap → (us ++ ds).length = ps.length → BindsTo s fd ⟨us, []⟩ (ps.zip (us ++ ds))
/-- every parameter is given -/
theorem Binds.all {K : PySem.W.Frag} {fd : FuncData} {ps : List Str} (h : ∀ us : List Value, us.length = ps.length → bindArgs fd ⟨us, []⟩ = pure (ps.zip us)) : Binds K fd ps [] := fun s us _ hl => by
  rw [List.append_nil] at hl ⊢
  exact .of_eq (h us hl)

/-- an exception of a callee reaches what this body wants of exceptions -/
def Passes (CX : CXT) (X : Cx) (E : XK) : Prop := ∀ (pins : List (Addr × Obj)) (σ : St) (H : Hp) (s : Shared) (e : Value) (s' : Shared), Inv X pins σ H s → CX X.stack H s E e s' → X.xe e s'

section
variable {X : Cx} {CX : CXT} {k : Nat} {f C : Addr} {fd : FuncData} {ps : List Str} {sp : Sp} {dvs : List V} {ds : List Value} {E : XK} {x m : Str} {p pos apos : Pos} {e o : Expr} {es : List Expr} {ta : TE} {t : TA}

/-- the callee runs -/
theorem run_fn {pins : List (Addr × Obj)} {σ : St} {H : Hp} {s : Shared} {Q : VK} {us : List Value} {vs : List V} (F : FnOk X.prog X.w X.K X.mg X.base CX k f fd ps sp) (hr : Room k X.A) (hb : Binds X.K fd ps ds) (hd : Vals dvs ds) (hx : Passes CX X E)
    (I : Inv X pins σ H s) (r : Vals vs us) (h : sp (vs ++ dvs) H Q E) : wpAny (model X.prog X.w) X.A (call (.ref f) us) (EP X pins σ Q) X.xe s := by
  have r2 : Vals (vs ++ dvs) (us ++ ds) := r.append hd
  have hl : (us ++ ds).length = ps.length := by rw [← r2.length]; exact F.len _ _ _ _ h
  refine wpAny_call (codeAny_mono (F.run X.A X.stack s H ⟨us, []⟩ (us ++ ds) (vs ++ dvs) Q E hr I.env0 (hb s us I.kIn hl) r2 h) fun r s' hq => ?_)
  cases r with
  | error e => exact hx pins σ H s e s' I hq
  | ok fl =>
    cases fl with
    | ret u => exact I.after hq
    | next => exact False.elim hq
    | brk => exact False.elim hq
    | cont => exact False.elim hq

theorem pe_call (F : FnOk X.prog X.w X.K X.mg X.base CX k f fd ps sp) (hr : Room k X.A) (hg : Gl X x) (hm : X.mg x = some (.ref f)) (hk : PySem.W.keepIn X.K (.ref f) = true) (hb : Binds X.K fd ps ds) (hd : Vals dvs ds) (hx : Passes CX X E)
    (ha : PA X (e :: es) t) (hdb : (x == ("__debug__" : Str)) = false := by decide) (he : starEach (e :: es) X.env = (false, eval e X.env) :: starEach es X.env := by rfl) (hpl : (backTo pos (starEach es X.env)).any (·.1) = false := by rfl) :
    PE X (.Call (.Name x p) (e :: es) [] pos) (tCall sp dvs E t) := by
  intro pins s σ H Q I h
  refine wpAny_Call_Name_kw (ld_glob I hg hm ?_ hdb)
  refine PySem.W.callWith_K (h₀ := X.base) I.ok.mod.kin hk (thn (ha pos pins s σ H _ I h) fun us s1 ⟨vs, H1, I1, r, q⟩ => ⟨I1.kIn, ?_⟩) he hpl
  exact run_fn F hr hb hd hx I1 r q
theorem pe_call0 (F : FnOk X.prog X.w X.K X.mg X.base CX k f fd ps sp) (hr : Room k X.A) (hg : Gl X x) (hm : X.mg x = some (.ref f)) (hk : PySem.W.keepIn X.K (.ref f) = true) (hb : Binds X.K fd ps ds) (hd : Vals dvs ds) (hx : Passes CX X E)
    (hdb : (x == ("__debug__" : Str)) = false := by decide) : PE X (.Call (.Name x p) [] [] pos) (tCall sp dvs E tNil) := by
  intro pins s σ H Q I h
  refine wpAny_Call_Name_kw (ld_glob I hg hm ?_ hdb)
  exact PySem.W.callWith_K0 I.kIn hk (run_fn (us := []) F hr hb hd hx I .nil h)

/-- o.m(e, ..) -/
theorem pe_meth {pl : Sem Bool} (he : PE X o ta) (c : Cls X.K C) (hm : Meth X.K C m f) (F : FnOk X.prog X.w X.K X.mg X.base CX k f fd ps sp) (hr : Room k X.A) (hb : Binds X.K fd ps ds) (hd : Vals dvs ds) (hx : Passes CX X E) (ha : PA X (e :: es) t)
    (hst : starEach (e :: es) X.env = (false, eval e X.env) :: starEach es X.env := by rfl) (hpl : (backTo pos (starEach es X.env)).any (·.1) = false := by rfl)
    (ht : eval (.Call (.Attribute o m apos) (e :: es) [] pos) X.env = (do
      let ov ← eval o X.env
      standAt apos.atName
      let (f, first) ← holding [ov] (getMethod ov m pl)
      callWith pos f first (backTo pos (starEach (e :: es) X.env)) (backToKw pos (keywordEach [] X.env))) := by rfl) :
    PE X (.Call (.Attribute o m apos) (e :: es) [] pos) (tMeth C m sp dvs E ta t) := by
  intro pins s σ H Q I h
  refine PySem.W.methodCall_KW (pl := pl) (thn (he pins s σ H _ I h) fun u s1 ⟨x, H1, I1, rx, a, dx, fs, ex, ea, l, q⟩ => ?_) ht
  subst ex
  obtain rfl : u = Value.ref a := rx
  refine getmeth_ok I1 ea c hm l ?_
  refine PySem.W.callWith_K (first := [.ref a]) (h₀ := X.base) I.ok.mod.kin hm.kp (thn (ha pos pins s1 σ H1 _ I1 q) fun us s2 ⟨vs, H2, I2, r, q2⟩ => ⟨I2.kIn, ?_⟩) hst hpl
  exact run_fn (us := .ref a :: us) (vs := .ref a :: vs) F hr hb hd hx I2 (.cons rfl r) q2
/-- o.m() -/
theorem pe_meth0 {pl : Sem Bool} (he : PE X o ta) (c : Cls X.K C) (hm : Meth X.K C m f) (F : FnOk X.prog X.w X.K X.mg X.base CX k f fd ps sp) (hr : Room k X.A) (hb : Binds X.K fd ps ds) (hd : Vals dvs ds) (hx : Passes CX X E)
    (ht : eval (.Call (.Attribute o m apos) [] [] pos) X.env = (do
      let ov ← eval o X.env
      standAt apos.atName
      let (f, first) ← holding [ov] (getMethod ov m pl)
      callWith pos f first (backTo pos (starEach [] X.env)) (backToKw pos (keywordEach [] X.env))) := by rfl) :
    PE X (.Call (.Attribute o m apos) [] [] pos) (tMeth C m sp dvs E ta tNil) := by
  intro pins s σ H Q I h
  refine PySem.W.methodCall_KW (pl := pl) (thn (he pins s σ H _ I h) fun u s1 ⟨x, H1, I1, rx, a, dx, fs, ex, ea, l, q⟩ => ?_) ht
  subst ex
  obtain rfl : u = Value.ref a := rx
  refine getmeth_ok I1 ea c hm l ?_
  exact PySem.W.callWith_K0 (first := [.ref a]) I1.kIn hm.kp (run_fn (us := [.ref a]) (vs := [.ref a]) F hr hb hd hx I1 (.cons rfl .nil) q)

/-- what a class must have to be made -/
structure Mk (K : PySem.W.Frag) (C f : Addr) : Prop where
  makes : PySem.W.makesIn K C = true
  init : PySem.W.findIn K (.ref C) "__init__" = some (some (.ref f))
  fn : PySem.W.isFn K (.ref f) = true
  kp : PySem.W.keepIn K (.ref C) = true

theorem run_make {pins : List (Addr × Obj)} {σ : St} {H : Hp} {s : Shared} {Q : VK} {us : List Value} {vs : List V} (M : Mk X.K C f) (F : FnOk X.prog X.w X.K X.mg X.base CX k f fd ps sp) (hr : Room (k + 1) X.A) (hb : Binds X.K fd ps ds) (hd : Vals dvs ds)
    (hx : Passes CX X E) (I : Inv X pins σ H s) (r : Vals vs us)
    (h : ∀ x dx, H x = none → H dx = none → dx ≠ x → sp (.ref x :: (vs ++ dvs)) (upd (upd H dx (.own x)) x (.ins C dx [])) (fun v H2 => v = .non ∧ Q (.ref x) H2) E) :
    wpAny (model X.prog X.w) X.A (call (.ref C) us) (EP X pins σ Q) X.xe s := by
  have hq := h (s.heap.objs.size + 1) s.heap.objs.size (I.hok.fresh (Nat.le_succ _)) (I.hok.fresh (Nat.le_refl _)) (Nat.ne_of_lt (Nat.lt_succ_self _))
  have I2 := Inv.made (C := C) I
  have r2 : Vals (V.ref (s.heap.objs.size + 1) :: (vs ++ dvs)) (Value.ref (s.heap.objs.size + 1) :: (us ++ ds)) := .cons rfl (r.append hd)
  have hl : (Value.ref (s.heap.objs.size + 1) :: us ++ ds).length = ps.length := by
    have e := r2.length
    rw [F.len _ _ _ _ hq] at e
    exact e.symm
  refine wpAny_call (make_map (f := f) I.kIn M.makes M.init (beq_iff_eq.mp M.fn) (codeAny_mono (F.run _ X.stack _ _ ⟨Value.ref (s.heap.objs.size + 1) :: us, []⟩ (Value.ref (s.heap.objs.size + 1) :: (us ++ ds)) _ _ E (hr.make C us [])
    (I2.env0.make C us []) (hb _ (Value.ref (s.heap.objs.size + 1) :: us) I2.kIn hl) r2 hq) fun r s' hq' => ?_))
  cases r with
  | error e => exact hx pins σ _ _ e s' I2 hq'
  | ok fl =>
    cases fl with
    | ret u =>
      obtain ⟨v, H', I3, rv, ev, q3⟩ := I2.after hq'
      subst ev
      exact ⟨rv, ⟨V.ref (s.heap.objs.size + 1), H', I3, rfl, q3⟩⟩
    | next => exact False.elim hq'
    | brk => exact False.elim hq'
    | cont => exact False.elim hq'
theorem pe_make (M : Mk X.K C f) (F : FnOk X.prog X.w X.K X.mg X.base CX k f fd ps sp) (hr : Room (k + 1) X.A) (hg : Gl X x) (hm : X.mg x = some (.ref C)) (hb : Binds X.K fd ps ds) (hd : Vals dvs ds) (hx : Passes CX X E)
    (ha : PA X (e :: es) t) (hdb : (x == ("__debug__" : Str)) = false := by decide) (he : starEach (e :: es) X.env = (false, eval e X.env) :: starEach es X.env := by rfl) (hpl : (backTo pos (starEach es X.env)).any (·.1) = false := by rfl) :
    PE X (.Call (.Name x p) (e :: es) [] pos) (tMake C sp dvs E t) := by
  intro pins s σ H Q I h
  refine wpAny_Call_Name_kw (ld_glob I hg hm ?_ hdb)
  refine PySem.W.callWith_K (h₀ := X.base) I.ok.mod.kin M.kp (thn (ha pos pins s σ H _ I h) fun us s1 ⟨vs, H1, I1, r, q⟩ => ⟨I1.kIn, ?_⟩) he hpl
  exact run_make M F hr hb hd hx I1 r q
theorem pe_make0 (M : Mk X.K C f) (F : FnOk X.prog X.w X.K X.mg X.base CX k f fd ps sp) (hr : Room (k + 1) X.A) (hg : Gl X x) (hm : X.mg x = some (.ref C)) (hb : Binds X.K fd ps ds) (hd : Vals dvs ds) (hx : Passes CX X E)
    (hdb : (x == ("__debug__" : Str)) = false := by decide) : PE X (.Call (.Name x p) [] [] pos) (tMake C sp dvs E tNil) := by
  intro pins s σ H Q I h
  refine wpAny_Call_Name_kw (ld_glob I hg hm ?_ hdb)
  exact PySem.W.callWith_K0 I.kIn M.kp (run_make (us := []) M F hr hb hd hx I .nil h)
end

/-! ### keywords -/
/-- the values of the keywords, from the left -/
def PK (X : Cx) (kws : List Keyword) (t : TA) : Prop :=
  ∀ (pos : Pos) (pins : List (Addr × Obj)) (s : Shared) (σ : St) (H : Hp) (Q : List V → Hp → Prop), Inv X pins σ H s → t σ H Q → wpAny (model X.prog X.w) X.A (evalAll ((backToKw pos (keywordEach kws X.env)).map (·.2))) (AP X pins σ Q) X.xe s
section
variable {X : Cx} {CX : CXT} {k : Nat} {f C : Addr} {fd : FuncData} {ps ks : List Str} {sp : Sp} {E : XK} {x m : Str} {p pos apos kpos : Pos} {e o : Expr} {es : List Expr} {kws : List Keyword} {te ta : TE} {t tk : TA} {nm : Option Str}
theorem pk_nil : PK X [] tNil := fun _ _ _ _ H Q I h => wpAny_evalAll_nil ⟨[], H, I, .nil, h⟩
theorem pk_cons (ha : PE X e te) (hr : PK X kws t) : PK X (⟨nm, e, kpos⟩ :: kws) (tCons te t) := by
  intro pos pins s σ H Q I h
  show wpAny _ _ (evalAll ((do let v ← eval e X.env; standAt pos; pure v) :: (backToKw pos (keywordEach kws X.env)).map (·.2))) _ _ s
  refine wpAny_evalAll_cons (wpAny_bind (thn (ha pins s σ H _ I h) fun u s1 ⟨x, H1, I1, r1, q1⟩ => wpAny_bind (wpAny_standAt (wpAny_pure ?_))))
  exact thn (hr pos pins s1 σ H1 _ I1 q1) fun us s2 ⟨xs, H2, I2, r2, q2⟩ => ⟨x :: xs, H2, I2, .cons r1 r2, q2⟩

/-- how a call with keywords binds: g puts the positional values us and the keywords' values ws (names ks) in the parameters' order, defaults among them -/
structure KBinds (K : PySem.W.Frag) (fd : FuncData) (ps ks : List Str) (g : List Value → List Value → List Value) (gV : List V → List V → List V) : Prop where
  to : ∀ (s : Shared) (us ws : List Value), K.In s.heap → (g us ws).length = ps.length → BindsTo s fd ⟨us, ks.zip ws⟩ (ps.zip (g us ws))
  rel : ∀ {vs : List V} {us : List Value} {zs : List V} {ws : List Value}, Vals vs us → Vals zs ws → Vals (gV vs zs) (g us ws)
def tCallK (sp : Sp) (gV : List V → List V → List V) (E : XK) (t tk : TA) : TE := fun σ H Q => t σ H fun vs H1 => tk σ H1 fun zs H2 => sp (gV vs zs) H2 Q E
variable {g : List Value → List Value → List Value} {gV : List V → List V → List V}
theorem run_fnk {pins : List (Addr × Obj)} {σ : St} {H : Hp} {s : Shared} {Q : VK} {us ws : List Value} {vs zs : List V} (F : FnOk X.prog X.w X.K X.mg X.base CX k f fd ps sp) (hr : Room k X.A) (hb : KBinds X.K fd ps ks g gV) (hx : Passes CX X E)
    (I : Inv X pins σ H s) (r : Vals vs us) (rz : Vals zs ws) (h : sp (gV vs zs) H Q E) : wpAny (model X.prog X.w) X.A (call (.ref f) us (ks.zip ws)) (EP X pins σ Q) X.xe s := by
  have r2 := hb.rel r rz
  have hl : (g us ws).length = ps.length := by rw [← r2.length]; exact F.len _ _ _ _ h
  refine wpAny_call (codeAny_mono (F.run X.A X.stack s H ⟨us, ks.zip ws⟩ (g us ws) (gV vs zs) Q E hr I.env0 (hb.to s us ws I.kIn hl) r2 h) fun r s' hq => ?_)
  cases r with
  | error e => exact hx pins σ H s e s' I hq
  | ok fl =>
    cases fl with
    | ret u => exact I.after hq
    | next => exact False.elim hq
    | brk => exact False.elim hq
    | cont => exact False.elim hq
/-- f(e, .., k = v, ..) -/
theorem pe_callK (F : FnOk X.prog X.w X.K X.mg X.base CX k f fd ps sp) (hr : Room k X.A) (hg : Gl X x) (hm : X.mg x = some (.ref f)) (hk : PySem.W.keepIn X.K (.ref f) = true) (hb : KBinds X.K fd ps ks g gV) (hx : Passes CX X E)
    (ha : PA X (e :: es) t) (hkw : PK X kws tk) (hall : (backToKw pos (keywordEach kws X.env)).all (·.1.isSome) = true := by rfl) (hks : (backToKw pos (keywordEach kws X.env)).filterMap (·.1) = ks := by rfl)
    (hdb : (x == ("__debug__" : Str)) = false := by decide) (he : starEach (e :: es) X.env = (false, eval e X.env) :: starEach es X.env := by rfl)
    (hpl : ((backTo pos (starEach (e :: es) X.env)).any (·.1) || (backToKw pos (keywordEach kws X.env)).any (·.1.isNone)) = false := by rfl) :
    PE X (.Call (.Name x p) (e :: es) kws pos) (tCallK sp gV E t tk) := by
  intro pins s σ H Q I h
  refine wpAny_Call_Name_kw (ld_glob I hg hm ?_ hdb)
  refine PySem.W.callWith_KW (h₀ := X.base) I.ok.mod.kin hk hall (thn (ha pos pins s σ H _ I h) fun us s1 ⟨vs, H1, I1, r, q⟩ => ?_) hpl he
  refine thn (hkw pos pins s1 σ H1 _ I1 q) fun ws s2 ⟨zs, H2, I2, rz, q2⟩ => ⟨I2.kIn, ?_⟩
  rw [hks]
  exact run_fnk F hr hb hx I2 r rz q2
end

/-! ### a def's body keeps its promise -/
/-- names: the parameters first -/
structure FnScope (N P : List Str) (sc : Scope) : Prop where
  kind : sc.kind = .function
  co : sc.isCoroutine = false
  gen : sc.isGenerator = false
  nd : N.Nodup
  pre : N.take P.length = P
  par : ∀ x ∈ P, sc.names.lookup x = some .local ∨ sc.names.lookup x = some .cell
  nofree : ∀ y ∈ sc.names, y.2 ≠ .free

theorem bindL_out {kindOf : Str → Option NameKind} {x : Str} : ∀ {binds : List (Str × Value)} {m : Str → Option Value}, (∀ v, (x, v) ∉ binds) → bindL kindOf binds m x = m x
  | [], _, _ => rfl
  | (n, v) :: r, m, h => by
    unfold bindL
    rw [bindL_out fun w hw => h w (List.mem_cons_of_mem _ hw)]
    split
    · have : x ≠ n := by rintro rfl; exact h v List.mem_cons_self
      simp [this]
    · rfl
theorem bindC_out {kindOf : Str → Option NameKind} {x : Str} : ∀ {binds : List (Str × Value)} {m : Str → Option Value}, (∀ v, (x, v) ∉ binds) → bindC kindOf binds m x = m x
  | [], _, _ => rfl
  | (n, v) :: r, m, h => by
    unfold bindC
    rw [bindC_out fun w hw => h w (List.mem_cons_of_mem _ hw)]
    split
    · rfl
    · have : x ≠ n := by rintro rfl; exact h v List.mem_cons_self
      simp [this]
theorem bindL_get {kindOf : Str → Option NameKind} {x : Str} {v : Value} : ∀ {P : List Str} {vs : List Value} {i : Nat} {m : Str → Option Value}, P.Nodup → P[i]? = some x → vs[i]? = some v → kindOf x = some .local →
    bindL kindOf (P.zip vs) m x = some v
  | [], _, _, _, _, h, _, _ => by simp at h
  | _ :: _, [], _, _, _, _, h, _ => by simp at h
  | p :: P, w :: vs, 0, m, nd, h1, h2, hk => by
    simp at h1 h2; subst h1; subst h2
    show bindL kindOf ((p, w) :: P.zip vs) m p = _
    unfold bindL
    rw [bindL_out fun v hv => (List.nodup_cons.mp nd).1 (List.of_mem_zip hv).1, if_pos hk]
    simp
  | p :: P, w :: vs, i + 1, m, nd, h1, h2, hk => by
    show bindL kindOf ((p, w) :: P.zip vs) m x = _
    unfold bindL
    exact bindL_get (i := i) (List.nodup_cons.mp nd).2 (by simpa using h1) (by simpa using h2) hk
theorem bindC_get {kindOf : Str → Option NameKind} {x : Str} {v : Value} : ∀ {P : List Str} {vs : List Value} {i : Nat} {m : Str → Option Value}, P.Nodup → P[i]? = some x → vs[i]? = some v → kindOf x ≠ some .local →
    bindC kindOf (P.zip vs) m x = some v
  | [], _, _, _, _, h, _, _ => by simp at h
  | _ :: _, [], _, _, _, _, h, _ => by simp at h
  | p :: P, w :: vs, 0, m, nd, h1, h2, hk => by
    simp at h1 h2; subst h1; subst h2
    show bindC kindOf ((p, w) :: P.zip vs) m p = _
    unfold bindC
    rw [bindC_out fun v hv => (List.nodup_cons.mp nd).1 (List.of_mem_zip hv).1, if_neg hk]
    simp
  | p :: P, w :: vs, i + 1, m, nd, h1, h2, hk => by
    show bindC kindOf ((p, w) :: P.zip vs) m x = _
    unfold bindC
    exact bindC_get (i := i) (List.nodup_cons.mp nd).2 (by simpa using h1) (by simpa using h2) hk

/-- the names' values at the entry -/
def start (N : List Str) (vs : List V) : St := vs.map some ++ List.replicate (N.length - vs.length) none

/-- the context of a def's body, at its entry; an exception leaves the frame, then lies as CX says -/
def cxOf (CX : CXT) (P : Program) (w : World) (K : PySem.W.Frag) (mg : Str → Option Value) (base : Heap) (N : List Str) (qual : Str) (scope : Scope) (f : Addr) (cd : Value) (A : Around) (outer : List Env) (s : Shared) (H : Hp) (E : XK) : Cx where
  prog := P
  w := w
  K := K
  mg := mg
  base := base
  A := A.deeper (envOfC qual scope s.heap.objs.size f cd)
  N := N
  s₀ := s
  H₀ := H
  env := envOfC qual scope s.heap.objs.size f cd
  outer := outer
  stack := envOfC qual scope s.heap.objs.size f cd :: outer
  ex := []
  calm := true
  fn := fun _ => true
  pn := []
  xe := fun e s' => wpAny (model P w) (A.deeper (envOfC qual scope s.heap.objs.size f cd)) (leaving (envOfC qual scope s.heap.objs.size f cd) e) (fun _ s'' => CX outer H s E e s'') (fun e' s'' => CX outer H s E e' s'') s'

theorem cell_has {sc : Scope} {n : Nat} {x : Str} (h : sc.names.lookup x = some .cell) : ∃ c, (cellsFrom n sc.names []).lookup x = some c := by
  have q := PySem.W.cellsFrom_some sc.names n [] (.inl h)
  exact Option.isSome_iff_exists.mp q

theorem inv_start {CX : CXT} {P : Program} {w : World} {K : PySem.W.Frag} {mg : Str → Option Value} {base : Heap} {N ps : List Str} {qual : Str} {scope : Scope} {f : Addr} {cd : Value} {A : Around} {outer : List Env} {s s1 : Shared} {H : Hp} {E : XK} {us : List Value} {vs : List V}
    (S : FnScope N ps scope) (hd : A.handled = none) (e0 : Env0 P w K mg base A outer s H) (hl : vs.length = ps.length) (r : Vals vs us)
    (x : InCallC s s.heap.objs.size (bindL (envOfC qual scope s.heap.objs.size f cd).kindOf (ps.zip us) fun _ => none) (cellsFrom (s.heap.objs.size + 1) scope.names []) (bindC (envOfC qual scope s.heap.objs.size f cd).kindOf (ps.zip us) fun _ => none) s1) :
    Inv (cxOf CX P w K mg base N qual scope f cd A outer s H E) [] (start N vs) H s1 := by
  have hpl : ps.length ≤ N.length := by have := congrArg List.length S.pre; rw [List.length_take] at this; omega
  obtain ⟨h1, tk, rfl, hk⟩ := x.done
  have noA : ∀ b : Addr, b ∉ (cxOf CX P w K mg base N qual scope f cd A outer s H E).ex := fun b z => absurd (show b ∈ ([] : List Addr) from z) (by simp)
  refine ⟨⟨e0.mod, S.kind, rfl, rfl, Nat.le_refl _, fun y z c h1 h2 => ?_, fun y hy => ?_, fun y c _ h => ?_, fun _ => hd, Around.frames_deeper e0.frames, .inr ⟨rfl, rfl⟩, fun b z => absurd z (noA b), e0.bs, e0.bsz, fun b _ _ => noA b, fun b z => absurd z (noA b), e0.funs, e0.frf⟩,
    rfl, e0.bare, Un.kept hk, ⟨_, x.toInCall.ns, fun i y v h1 h2 h3 => ?_⟩, fun y c h => ⟨_, x.cell y c h⟩, e0.hok.fresh (Nat.le_refl _), fun y c h => ?_, fun p hp => absurd (show p ∈ ([] : List (Addr × Obj)) from hp) (by simp), e0.hok.kept hk, ?_⟩
  · exact name_of_addr x.apart (PySem.mem_of_lookup h1) (PySem.mem_of_lookup h2)
  · have hy : scope.names.lookup y = some .cell ∨ scope.names.lookup y = some .free := hy
    rcases hy with hy | hy
    · exact cell_has hy
    · exact absurd rfl (S.nofree _ (PySem.mem_of_lookup hy))
  · exact Nat.le_of_lt (x.above y c (PySem.mem_of_lookup h))
  · have hi : i < vs.length := by
      unfold start at h2
      by_cases hi : i < vs.length
      · exact hi
      · rw [List.getElem?_append_right (by simpa using hi)] at h2
        rw [List.getElem?_replicate] at h2
        split at h2 <;> cases h2
    have ha : vs[i]? = some v := by
      unfold start at h2
      rw [List.getElem?_append_left (by simpa using hi), List.getElem?_map] at h2
      cases e : vs[i]? with
      | none => rw [e] at h2; cases h2
      | some a => rw [e] at h2; cases h2; rfl
    obtain ⟨u, hu, rv⟩ := r.get ha
    have hp : ps[i]? = some y := by
      rw [← S.pre, List.getElem?_take_of_lt (by omega)]; exact h1
    have ndP : ps.Nodup := by rw [← S.pre]; exact S.nd.sublist (List.take_sublist _ _)
    refine ⟨u, rv, ?_⟩
    rcases S.par y (List.mem_of_getElem? hp) with k | k
    · exact .inl ⟨k, bindL_get ndP hp hu k⟩
    · obtain ⟨c, e⟩ := cell_has (n := s.heap.objs.size + 1) k
      refine .inr ⟨.inl k, c, e, ?_⟩
      have q := x.cell y c e
      rw [bindC_get ndP hp hu (by show scope.names.lookup y ≠ _; rw [k]; decide)] at q
      exact q
  · exact e0.hok.fresh (Nat.le_of_lt (x.above y c (PySem.mem_of_lookup h)))
  · unfold start
    show _ = N.length
    rw [List.length_append, List.length_map, List.length_replicate]
    omega

/-- THE RULE: a def (or a method) of the text, by its body. The body's reading t is chosen for each entry; it is run at the parameters' values -/
theorem fn_of {CX : CXT} {P : Program} {w : World} {K : PySem.W.Frag} {mg : Str → Option Value} {base : Heap} {k : Nat} {f : Addr} {name qual : Str} {params : Arguments} {body : List Stmt} {scope : Scope} {dV kV doc pm cdv ct oc : Value} {an od : Option Addr}
    {osl : Array (Option Value)} {N ps : List Str} {sp : Sp} (lk : K.lookup f = some ⟨oc, od, .func (PySem.W.fnOf name qual params body scope dV kV doc pm an cdv ct), osl⟩) (hcd : PySem.W.codeIn K cdv qual = true) (S : FnScope N ps scope)
    (len : ∀ vs H Q E, sp vs H Q E → vs.length = ps.length)
    (hbody : ∀ (A : Around) (outer : List Env) (s : Shared) (H : Hp) (vs : List V) (Q : VK) (E : XK), Room k (A.deeper (envOfC qual scope s.heap.objs.size f cdv)) → sp vs H Q E →
      ∃ t, PSs (cxOf CX P w K mg base N qual scope f cdv A outer s H E) body t ∧ t { nx := fun _ H' => Q .non H', rt := Q } (start N vs) H) :
    FnOk P w K mg base CX (k + 1) f (PySem.W.fnOf name qual params body scope dV kV doc pm an cdv ct) ps sp := by
  refine ⟨len, fun A outer s H args us vs Q E hr e0 hb r hsp => ?_⟩
  have hl := len _ _ _ _ hsp
  have KX : K.In s.heap := e0.mod.kin.keeps fun b o e => (e0.bs b o e).1
  have lim : s.heap.NoLimit := e0.mod.nolimit.keeps fun b o e => (e0.bs b o e).1
  have hkind : ∀ y ∈ ps.zip us, scope.names.lookup y.1 = some .local ∨ (scope.names.lookup y.1 = some .cell ∧ ((cellsFrom (s.heap.objs.size + 1) scope.names []).lookup y.1).isSome = true) := fun ⟨n, v⟩ hy => by
    rcases S.par n (List.of_mem_zip hy).1 with q | q
    · exact .inl q
    · exact .inr ⟨q, PySem.W.cellsFrom_some _ _ _ (.inl q)⟩
  refine codeAny_call_function hr.depth (KX _ _ lk) rfl S.co S.gen rfl (PySem.W.codeRec_of KX hcd) (hb _ _ _ _ ?_)
  refine wpAny_newFunctionEnv_cells S.kind hkind fun env he s1 x => ?_
  subst he
  refine ⟨lim.keeps x.toInCall.keep, codeAny_func ?_⟩
  obtain ⟨t, ht, hq⟩ := hbody A outer s H vs Q E (hr.deeper _) hsp
  have I : Inv (cxOf CX P w K mg base N qual scope f cdv A outer s H E) [] (start N vs) H s1 := inv_start S hr.hd e0 hl r x
  refine wpAny_mono (ht [] s1 (start N vs) H _ I hq) (fun fl s' hs => ?_) fun e s' hs => hs
  have fin : ∀ {σ' : St} {H' : Hp} {v : V} {u : Value}, Inv (cxOf CX P w K mg base N qual scope f cdv A outer s H E) [] σ' H' s' → RelV v u → Q v H' → CE outer P w H s Q u s' :=
    fun {σ' H' v u} J rv q => ⟨v, H', J.os, J.bare, J.base, J.hok, rv, q⟩
  cases fl with
  | ret u =>
    obtain ⟨v, σ', H', J, rv, q⟩ := hs
    exact fin J rv q
  | next =>
    obtain ⟨σ', H', J, q⟩ := hs
    exact fin (v := V.non) (u := Value.none) J rfl q
  | brk =>
    obtain ⟨_, _, _, q⟩ := hs
    exact False.elim q
  | cont =>
    obtain ⟨_, _, _, q⟩ := hs
    exact False.elim q
end L2

namespace L2
open PySem PySem.Spec PyProof.Rows
section
variable {X : Cx} {x : Str} {p pos : Pos} {e : Expr} {es : List Expr} {t : TA} {id T : String} {r : List V → Hp → VK → Prop}

def tCB (r : List V → Hp → VK → Prop) (t : TA) : TE := fun σ H Q => t σ H fun vs H1 => r vs H1 Q
/-- f(e, ..), f a built-in function -/
theorem pe_callB (hc : CallR X (.builtin id) r) (hg : Gl X x) (hm : X.mg x = none) (hv : bootBuiltins x = some (.builtin id)) (ha : PA X (e :: es) t) (hn : x ≠ "__name__" := by decide) (hdb : (x == ("__debug__" : Str)) = false := by decide)
    (he : starEach (e :: es) X.env = (false, eval e X.env) :: starEach es X.env := by rfl) (hpl : (backTo pos (starEach es X.env)).any (·.1) = false := by rfl) : PE X (.Call (.Name x p) (e :: es) [] pos) (tCB r t) := by
  intro pins s σ H Q I h
  refine wpAny_Call_Name_kw (ld_blt I hg hm hv ?_ hn hdb)
  exact PyProof.Rows.callWith_builtin1 (thn (ha pos pins s σ H _ I h) fun us s1 ⟨vs, H1, I1, r1, q1⟩ => hc pins s1 σ H1 vs us Q I1 r1 q1) he hpl
/-- T(e, ..), T a built-in type -/
theorem pe_callTy (hc : CallR X (.type T) r) (hg : Gl X x) (hm : X.mg x = none) (hv : bootBuiltins x = some (.type T)) (ha : PA X (e :: es) t) (hn : x ≠ "__name__" := by decide) (hdb : (x == ("__debug__" : Str)) = false := by decide)
    (he : starEach (e :: es) X.env = (false, eval e X.env) :: starEach es X.env := by rfl) (hpl : (backTo pos (starEach es X.env)).any (·.1) = false := by rfl) : PE X (.Call (.Name x p) (e :: es) [] pos) (tCB r t) := by
  intro pins s σ H Q I h
  refine wpAny_Call_Name_kw (ld_blt I hg hm hv ?_ hn hdb)
  exact PyProof.Rows.callWith_type1 (thn (ha pos pins s σ H _ I h) fun us s1 ⟨vs, H1, I1, r1, q1⟩ => hc pins s1 σ H1 vs us Q I1 r1 q1) he hpl
/-- T() -/
theorem pe_callTy0 (hc : CallR X (.type T) r) (hg : Gl X x) (hm : X.mg x = none) (hv : bootBuiltins x = some (.type T)) (hn : x ≠ "__name__" := by decide) (hdb : (x == ("__debug__" : Str)) = false := by decide) :
    PE X (.Call (.Name x p) [] [] pos) (tCB r tNil) := by
  intro pins s σ H Q I h
  refine wpAny_Call_Name_kw (ld_blt I hg hm hv ?_ hn hdb)
  exact PyProof.Rows.callWith_type0 (hc pins s σ H [] [] Q I .nil h)
end
end L2

namespace HT
open PySem PyProof.Rows

/-- t < u of tuples of ints -/
def lexLt : List Int → List Int → Bool
  | [], [] => false
  | [], _ :: _ => true
  | _ :: _, [] => false
  | x :: xs, y :: ys => if x = y then lexLt xs ys else decide (x < y)
theorem lexLt_cons (x y : Int) (xs ys : List Int) : lexLt (x :: xs) (y :: ys) = if x = y then lexLt xs ys else decide (x < y) := rfl
theorem lexLt_nil_nil : lexLt [] [] = false := rfl
theorem lexLt_nil_cons (y : Int) (ys : List Int) : lexLt [] (y :: ys) = true := rfl
theorem lexLt_cons_nil (x : Int) (xs : List Int) : lexLt (x :: xs) [] = false := rfl

theorem eqAt_int (A : Around) (s : Shared) (a : Int) (t : Tok) (c : Int) (u : Tok) : ∃ e, SeqAt.EqAt A s (.int a t) (.int c u) e ∧ (e = true ↔ a = c) :=
  ⟨(a == c), SeqAt.EqAt.int_int a t c u, by simp⟩
theorem rcLt_int (A : Around) (s : Shared) (a : Int) (t : Tok) (c : Int) (u : Tok) (prog : Program) (w : World) (E : Value → Shared → Prop) (Q : Value → Shared → Prop) (h : Q (.bool (decide (a < c))) s) :
    wpAny (model prog w) A (richCompare .Lt (.int a t) (.int c u)) Q E s :=
  (PyProof.Rows.lt_int h : wpAny (model prog w) A (compareOp .Lt (.int a t) (.int c u)) Q E s)

section
open PySem.SeqAt
open PySem.AutoSeq1 (wpAny_loadPart')
open PySem.MeetsSeq PySem.MeetsSeq2 PySem.MeetsSeq3

theorem tuple_lt_ints (l b : Addr) (items items2 : Array Value) (n n2 : Nat) (dd dd2 : Option Addr) (sl sl2 : Array (Option Value)) (ns ms : List Int) (hi : IntsAre items.toList ns) (hj : IntsAre items2.toList ms) :
    Meets (Builtin.«tuple.__lt__» ⟨[.ref l, .ref b], []⟩)
      (fun _ R s => s.heap.get? l = some { cls := .type "tuple", dict := dd, data := .seq items n, slots := sl } ∧ s.heap.get? b = some { cls := .type "tuple", dict := dd2, data := .seq items2 n2, slots := sl2 } ∧
        R (.ok (.ret (.bool (lexLt ns ms)))) s) :=
  .of_wp fun prog w A R s h => by
    obtain ⟨hp, g, d, tk, os⟩ := s; obtain ⟨hl, hb, h⟩ := h
    have f2 := AutoSeq1.sub_tuple_tuple
    have z1 : items.size = ns.length := by rw [← hi.length]; simp
    have z2 : items2.size = ms.length := by rw [← hj.length]; simp
    wp_walk using wpAny_loadPart' hl, wpAny_loadPart' hb, wpAny_forIn_list _ (fun rest b s' => b.1 = none ∧ s' = ⟨hp, g, d, tk, os⟩ ∧ ∃ (vs ws : List Value) (ns' ms' : List Int), rest = vs.zip ws ∧
      IntsAre vs ns' ∧ IntsAre ws ms' ∧ ns'.length + items2.size = ms'.length + items.size ∧ R (.ok (.ret (.bool (lexLt ns' ms')))) ⟨hp, g, d, tk, os⟩) _
    case turn =>
      rintro ⟨y, x⟩ rest b s' ⟨hb', rfl, vs, ws, ns', ms', hz, hvi, hwi, hlen, hR⟩
      cases hvi with
      | nil => rw [List.zip_nil_left] at hz; cases hz
      | cons a t hvi' =>
        cases hwi with
        | nil => rw [List.zip_nil_right] at hz; cases hz
        | cons c u hwi' =>
          rw [List.zip_cons_cons] at hz
          injection hz with hyx hrest
          injection hyx with hy hx
          subst hy hx
          rw [lexLt_cons] at hR
          simp only [List.length_cons] at hlen
          obtain ⟨e, he, hiff⟩ := eqAt_int A.in1 ⟨hp, g, d, tk, os⟩ a t c u
          refine wpAny_bind (he prog w _ _ ?_)
          cases e with
          | true =>
            rw [if_pos (hiff.mp rfl)] at hR
            wp_walk
            exact ⟨rfl, rfl, _, _, _, _, hrest, hvi', hwi', by omega, hR⟩
          | false =>
            rw [if_neg (fun q => absurd (hiff.mpr q) Bool.false_ne_true)] at hR
            have hri := rcLt_int A.in1 ⟨hp, g, d, tk, os⟩ a t c u prog w
            wp_walk using hri
            exact ⟨_, rfl, by simpa using hR⟩
    case fin =>
      rintro ⟨b1, b2⟩ s' ⟨hb', rfl, vs, ws, ns', ms', hz, hvi, hwi, hlen, hR⟩
      simp only at hb'
      subst hb'
      have hv : lexLt ns' ms' = decide (items.size < items2.size) := by
        cases hvi with
        | nil =>
          cases hwi with
          | nil =>
            simp only [List.length_nil] at hlen
            rw [lexLt_nil_nil]
            exact (decide_eq_false (by omega)).symm
          | cons c u hw =>
            simp only [List.length_nil, List.length_cons] at hlen
            rw [lexLt_nil_cons]
            exact (decide_eq_true (by omega)).symm
        | cons a t hv =>
          cases hwi with
          | nil =>
            simp only [List.length_nil, List.length_cons] at hlen
            rw [lexLt_cons_nil]
            exact (decide_eq_false (by omega)).symm
          | cons c u hw =>
            rw [List.zip_cons_cons] at hz
            cases hz
      rw [hv] at hR
      wp_walk
      exact ⟨_, rfl, by simpa [Builtin.Tuple.tupleCompareSizes] using hR⟩
    case h =>
      exact ⟨rfl, rfl, items.toList, items2.toList, ns, ms, rfl, hi, hj, by omega, h⟩
end

section
variable {prog : Program} {w : World} {A : Around} {E : Value → Shared → Prop} {s : Shared}

theorem lt_tupInts {l b : Addr} {items items2 : Array Value} {ns ms : List Int} {Q : Value → Shared → Prop} (hl : IsTup s.heap l items) (hb : IsTup s.heap b items2) (hi : IntsAre items.toList ns) (hj : IntsAre items2.toList ms)
    (hu : A.units < cLine) (h : Q (.bool (lexLt ns ms)) s) : wpAny (model prog w) A (compareOp .Lt (.ref l) (.ref b)) Q E s := by
  obtain ⟨⟨cls, dd, data, sl⟩, ho, hc, n, hd⟩ := id hl
  obtain ⟨⟨cls2, dd2, data2, sl2⟩, ho2, hc2, n2, hd2⟩ := id hb
  simp only at hc hd hc2 hd2
  subst hc hd hc2 hd2
  exact richCompare_meets_room (op := .Lt) ⟨_, ho, rfl⟩ ⟨_, ho2, rfl⟩ PySem.F.slot_tuple_lt PySem.F.entry_tuple_lt (PySem.F.args_tuple_lt_2 _ _) (tuple_lt_ints l b items items2 n n2 dd dd2 sl sl2 ns ms hi hj)
    ⟨ho, ho2, show Value.bool (lexLt ns ms) ≠ Value.notImplemented ∧ Q (.bool (lexLt ns ms)) s from ⟨(fun x => nomatch x), h⟩⟩ hu

/-- t + u, t not empty -/
theorem cat_tup {t b : Addr} {vs ws : List Value} {Q : Value → Shared → Prop} (ht : IsTup s.heap t vs.toArray) (hb : IsTup s.heap b ws.toArray) (hv : vs ≠ [])
    (h1 : ws = [] → Q (.ref t) s) (h2 : ws ≠ [] → Q (.ref s.heap.objs.size) { s with heap := s.heap.push { cls := .type "tuple", data := .seq (vs ++ ws).toArray } })
    (hsz : vs.length + ws.length ≤ sizeLine) : wpAny (model prog w) A (binaryOp .Add (.ref t) (.ref b)) Q E s := by
  obtain ⟨⟨cls, dd, data, sl⟩, ho, hc, n, hd⟩ := id ht
  obtain ⟨⟨cls2, dd2, data2, sl2⟩, ho2, hc2, n2, hd2⟩ := id hb
  simp only at hc hd hc2 hd2
  subst hc hd hc2 hd2
  have e : vs.toArray ++ ws.toArray = (vs ++ ws).toArray := by simp
  by_cases hw : ws = []
  · exact concat_meets ⟨_, ho, rfl⟩ ⟨_, ho2, rfl⟩ noFill_tuple_add seq_tuple_add PySem.F.slot_tuple_add PySem.F.entry_tuple_add (PySem.F.args_tuple_add_2 _ _)
      (tuple_addW1 t b vs.toArray ws.toArray n n2 dd dd2 sl sl2 (by simpa using hv) (by simp [hw])) ⟨ho, ho2, h1 hw⟩
  · refine concat_meets ⟨_, ho, rfl⟩ ⟨_, ho2, rfl⟩ noFill_tuple_add seq_tuple_add PySem.F.slot_tuple_add PySem.F.entry_tuple_add (PySem.F.args_tuple_add_2 _ _)
      (tuple_addW2 t b vs.toArray ws.toArray n n2 dd dd2 sl sl2 (by simpa using hv) (by simpa using hw) (by rw [List.size_toArray, List.size_toArray]; exact hsz)) ⟨ho, ho2, ?_⟩
    rw [e]
    exact h2 hw

/-! ### t[a:b], not the whole -/
/-- a slice's bound as a place among n (d where it is left out) -/
def sIx (n d : Nat) : Option Int → Nat
  | none => d
  | some v => if v < 0 then (v + (n : Int)).toNat else min v.toNat n
theorem sIx_none (n d : Nat) : sIx n d none = d := rfl
theorem sIx_nat (n d k : Nat) : sIx n d (some (k : Int)) = min k n := by
  show (if (k : Int) < 0 then ((k : Int) + (n : Int)).toNat else min (k : Int).toNat n) = min k n
  rw [if_neg (by omega), Int.toNat_natCast]
theorem sIx_le (n d : Nat) (hd : d ≤ n) (o : Option Int) : sIx n d o ≤ n := by
  cases o with
  | none => exact hd
  | some v =>
    show (if v < 0 then (v + (n : Int)).toNat else min v.toNat n) ≤ n
    by_cases hv : v < 0
    · rw [if_pos hv]; omega
    · rw [if_neg hv]; exact Nat.min_le_right _ _
theorem clip_eq (v : Int) (n d : Nat) : (if v < 0 then max (v + (n : Int)) 0 else min v (n : Int)) = ((sIx n d (some v) : Nat) : Int) := by
  show (if v < 0 then max (v + (n : Int)) 0 else min v (n : Int)) = (((if v < 0 then (v + (n : Int)).toNat else min v.toNat n) : Nat) : Int)
  by_cases hv : v < 0
  · simp only [if_pos hv]; omega
  · simp only [if_neg hv]; omega
theorem adjust_gen (lo hi : Option Int) (n : Nat) : Builtin.Slice.sliceAdjust lo hi 1 (n : Int) = (((sIx n 0 lo : Nat) : Int), ((sIx n n hi : Nat) : Int)) := by
  have h1 : ¬ ((1 : Int) < 0) := by omega
  unfold Builtin.Slice.sliceAdjust
  simp only [h1, if_false]
  refine Prod.ext ?_ ?_
  · cases lo with
    | none => rfl
    | some v => exact clip_eq v n 0
  · cases hi with
    | none => rfl
    | some v => exact clip_eq v n n
theorem places_gen (i j : Nat) : Builtin.Slice.slicePlaces (i : Int) (j : Int) 1 = j - i := by
  unfold Builtin.Slice.slicePlaces
  have h1 : (1 : Int) > 0 := by omega
  simp only [h1, if_true, Int.ediv_one]
  split <;> omega
theorem slicePart_ {v : Value} {o : Option Int} {Q : Option Int → Shared → Prop} (p : IsPart v o) (h : Q o s) : wpAny (model prog w) A (Builtin.Slice.slicePartIndex v) Q E s := by
  cases p with
  | none => exact slicePart_none h
  | int i t => exact slicePart_int h
theorem sliceApplied_gen {sl : Addr} {vl vu : Value} {lo hi : Option Int} {n : Nat} {Q : Int × Int × Nat → Shared → Prop} (hs : s.heap.IsSliceOf sl vl vu .none) (pl : IsPart vl lo) (pu : IsPart vu hi)
    (h : Q (((sIx n 0 lo : Nat) : Int), 1, sIx n n hi - sIx n 0 lo) s) : wpAny (model prog w) A (Builtin.Slice.sliceApplied (.ref sl) (pure (n : Int))) Q E s := by
  obtain ⟨os, hos, hcs, hds⟩ := id hs
  unfold Builtin.Slice.sliceApplied Builtin.Slice.sliceFields
  refine wpAny_bind (wpAny_bind (wpAny_field hos hds (x := vl) rfl (wpAny_bind (wpAny_field hos hds (x := vu) rfl (wpAny_bind (wpAny_field hos hds (x := .none) rfl (wpAny_pure ?_)))))))
  refine wpAny_bind (slicePart_none ?_)
  show wpAny _ _ (if ((1 : Int) == 0) = true then _ else _) _ _ s
  rw [if_neg (by decide)]
  refine wpAny_bind (slicePart_ pl (wpAny_bind (slicePart_ pu (wpAny_bind (wpAny_pure ?_)))))
  show wpAny _ _ (match Builtin.Slice.sliceAdjust lo hi 1 (n : Int) with | (lo, hi) => pure (lo, (1 : Int), Builtin.Slice.slicePlaces lo hi 1)) _ _ s
  rw [adjust_gen lo hi n]
  show wpAny _ _ (pure (((sIx n 0 lo : Nat) : Int), (1 : Int), Builtin.Slice.slicePlaces ((sIx n 0 lo : Nat) : Int) ((sIx n n hi : Nat) : Int) 1)) _ _ s
  rw [places_gen]
  exact wpAny_pure h
theorem pick_gen (xs : Array Value) (i k : Nat) : ((List.range k).filterMap fun (m : Nat) => xs[((i : Int) + (m : Int) * 1).toNat]?).toArray = ((xs.toList.drop i).take k).toArray := by
  have e : (fun (m : Nat) => xs[((i : Int) + (m : Int) * 1).toNat]?) = fun m => xs[i + m]? := by
    funext m
    have : ((i : Int) + (m : Int) * 1).toNat = i + m := by omega
    rw [this]
  rw [e]
  have := pick_run xs i k
  rw [List.filterMap_map] at this
  have e2 : ((fun x => xs[x]?) ∘ fun x => i + x) = fun m => xs[i + m]? := rfl
  rw [e2] at this
  rw [this]

theorem getItem_tuple_cut {t sl : Addr} {items : Array Value} {vl vu : Value} {lo hi : Option Int} {Q : Value → Shared → Prop} (ht : IsTup s.heap t items) (hs : s.heap.IsSliceOf sl vl vu .none) (pl : IsPart vl lo) (pu : IsPart vu hi)
    (hw : ¬ (sIx items.size 0 lo = 0 ∧ sIx items.size items.size hi = items.size))
    (h : Q (.ref s.heap.objs.size) { s with heap := s.heap.push { cls := .type "tuple", data := .seq ((items.toList.drop (sIx items.size 0 lo)).take (sIx items.size items.size hi - sIx items.size 0 lo)).toArray } })
    (hsz : items.size ≤ sizeLine) : wpAny (model prog w) A (getItem (.ref t) (.ref sl)) Q E s := by
  have htake : sizeOk (.seq ((items.toList.drop (sIx items.size 0 lo)).take (sIx items.size items.size hi - sIx items.size 0 lo)).toArray) := by
    show ((items.toList.drop (sIx items.size 0 lo)).take (sIx items.size items.size hi - sIx items.size 0 lo)).toArray.size ≤ sizeLine
    rw [List.size_toArray, List.length_take, List.length_drop, Array.length_toList]
    omega
  have hj : sIx items.size items.size hi ≤ items.size := sIx_le _ _ (Nat.le_refl _) hi
  obtain ⟨os, hos, hcs, hds⟩ := id hs
  have hTs : s.TypeIs (.ref sl) "slice" := ⟨os, hos, hcs⟩
  unfold getItem
  try with_reducible refine wpAny_holding ?_
  first | refine wpAny_bind (wpAny_pure ?_) | skip
  refine wpAny_bind (wpAny_sequenceKey ht.typeIs (by decide) ?_)
  refine wpAny_bind (wpAny_callSpecial?_slot (name := Str.ofString "__getitem__") ht.typeIs PyProof.Rows.slot_tuple_getitem
    (wpAny_call_entry PyProof.Rows.slot_tuple_getitem ht.typeIs entry_tuple_getitem ?_ (args_tuple_getitem _ _)))
  show wpAny _ _ (Builtin.Tuple.tupleItemsOf (.ref t) >>= _) _ _ s
  refine wpAny_bind (tupleItemsOf_ ht ?_)
  refine wpAny_bind (wpAny_typeOf hTs ?_)
  rw [if_pos (by decide)]
  refine wpAny_bind (sliceApplied_gen hs pl pu ?_)
  have hno : ¬ ((((sIx items.size 0 lo : Nat) : Int) == 0 && (1 : Int) == 1 && (sIx items.size items.size hi - sIx items.size 0 lo) == items.size) = true) := by
    intro q
    rw [Bool.and_eq_true, Bool.and_eq_true] at q
    have q1 : ((sIx items.size 0 lo : Nat) : Int) = 0 := eq_of_beq q.1.1
    have q2 : sIx items.size items.size hi - sIx items.size 0 lo = items.size := eq_of_beq q.2
    exact hw ⟨by omega, by omega⟩
  show wpAny _ _ (if (((sIx items.size 0 lo : Nat) : Int) == 0 && (1 : Int) == 1 && (sIx items.size items.size hi - sIx items.size 0 lo) == items.size) = true then _ else _) _ _ s
  rw [if_neg hno, pick_gen]
  first
    | exact wpAny_bind (m := Builtin.Tuple.tupleExact _) (wpAny_newObj_type (wpAny_pure ⟨_, rfl, wpAny_pure h⟩) htake)
    | exact wpAny_bind (m := Builtin.Tuple.tupleExact _) (wpAny_newObj_type (wpAny_bind (wpAny_pure (wpAny_pure ⟨_, rfl, wpAny_pure h⟩))) htake)
    | exact wpAny_bind (wpAny_bind (m := Builtin.Tuple.tupleExact _) (wpAny_newObj_type (wpAny_pure (wpAny_pure ⟨_, rfl, wpAny_pure h⟩)) htake))
    | exact wpAny_bind (wpAny_bind (m := Builtin.Tuple.tupleExact _) (wpAny_newObj_type (wpAny_pure ⟨_, rfl, wpAny_pure h⟩) htake))
end
end HT

namespace L2
open PySem PySem.Spec PyProof.Rows

/-! ### the parts of a slice -/
abbrev TO := St → Hp → (Option Int → Hp → Prop) → Prop
/-- a slice's part (left out, or an int) -/
def PO (X : Cx) (e : Option Expr) (t : TO) : Prop :=
  ∀ (pins : List (Addr × Obj)) (s : Shared) (σ : St) (H : Hp) (Q : Option Int → Hp → Prop), Inv X pins σ H s → t σ H Q →
    wpAny (model X.prog X.w) X.A (evalPart e X.env) (fun u s' => ∃ o H', Inv X pins σ H' s' ∧ IsPart u o ∧ Q o H') X.xe s
def tNoPart : TO := fun _ H Q => Q none H
def tPart (t : TE) : TO := fun σ H Q => t σ H fun x H1 => ∃ i, x = .int i ∧ Q (some i) H1

theorem intsAre_of {ns : List Int} : ∀ {us : List Value}, Vals (ns.map V.int) us → IntsAre us ns := by
  induction ns with
  | nil => intro us r; rw [List.map_nil] at r; cases r; exact .nil
  | cons n ns ih =>
    intro us r
    rw [List.map_cons] at r
    cases r with
    | cons r1 r2 =>
      obtain ⟨t, e⟩ := r1
      subst e
      exact .cons n t (ih r2)

section
variable {X : Cx} {e : Expr} {te : TE} {lo hi : Option Expr} {tl th : TO} {pos p2 : Pos}

theorem po_none : PO X none tNoPart := by
  intro pins s σ H Q I h
  rw [evalPart_none]
  exact wpAny_pure ⟨none, H, I, .none, h⟩
theorem po_some (h : PE X e te) : PO X (some e) (tPart te) := by
  intro pins s σ H Q I hw
  rw [evalPart_some]
  refine thn (h pins s σ H _ I hw) fun u s1 ⟨x, H1, I1, r1, q1⟩ => ?_
  obtain ⟨i, rfl, q⟩ := q1
  obtain ⟨t, rfl⟩ := r1
  exact ⟨some i, H1, I1, .int i t, q⟩

/-- what a slice of a value is, by values: the slice object stands at sl -/
def SlR (X : Cx) (r : V → Option Int → Option Int → Hp → VK → Prop) : Prop :=
  ∀ (pins : List (Addr × Obj)) (s : Shared) (σ : St) (H : Hp) (x : V) (v vl vu : Value) (lo hi : Option Int) (sl : Addr) (Q : VK), Inv X pins σ H s → RelV x v → s.heap.IsSliceOf sl vl vu .none → IsPart vl lo → IsPart vu hi → r x lo hi H Q →
    ∃ T id, typeLookup (.type T) "__getitem__" = pure (some (.builtin id)) ∧ s.TypeIs v T ∧ wpAny (model X.prog X.w) X.A (getItem v (.ref sl)) (EP X pins σ Q) X.xe s
theorem SlR.or {r r' : V → Option Int → Option Int → Hp → VK → Prop} (h : SlR X r) (h' : SlR X r') : SlR X (fun x lo hi H Q => r x lo hi H Q ∨ r' x lo hi H Q) := by
  intro pins s σ H x v vl vu lo hi sl Q I rx hs pl pu q
  rcases q with q | q
  · exact h pins s σ H x v vl vu lo hi sl Q I rx hs pl pu q
  · exact h' pins s σ H x v vl vu lo hi sl Q I rx hs pl pu q
def tSl (r : V → Option Int → Option Int → Hp → VK → Prop) (te : TE) (tl th : TO) : TE := fun σ H Q => te σ H fun x H1 => tl σ H1 fun l H2 => th σ H2 fun u H3 => r x l u H3 Q
/-- a[lo:hi], any a -/
theorem pe_slice {r : V → Option Int → Option Int → Hp → VK → Prop} (hr : SlR X r) (he : PE X e te) (hl : PO X lo tl) (hu : PO X hi th) : PE X (.Subscript e (.Slice lo hi none p2) pos) (tSl r te tl th) := by
  intro pins s σ H Q I h
  refine Subscript_ (thn (he pins s σ H _ I h) fun v s1 ⟨x, H1, I1, r1, q1⟩ => ?_)
  refine wpAny_Slice (thn (hl pins s1 σ H1 _ I1 q1) fun vl s2 ⟨l, H2, I2, pl, q2⟩ => thn (hu pins s2 σ H2 _ I2 q2) fun vu s3 ⟨u, H3, I3, pu, q3⟩ => ?_)
  rw [evalPart_none]
  refine wpAny_pure ?_
  have I4 : Inv X pins σ H3 { s3 with heap := s3.heap.push { cls := .type "slice", data := .fields #[vl, vu, .none] } } := I3.kept (t' := s3.toks) fun b ob q => Heap.get?_push_of_some _ q
  obtain ⟨T, id, hT, ht, hg⟩ := hr pins { s3 with heap := s3.heap.push { cls := .type "slice", data := .fields #[vl, vu, .none] } } σ H3 x v vl vu l u s3.heap.objs.size Q I4 r1 (Heap.IsSliceOf.new ..) pl pu q3
  show wpAny (model X.prog X.w) X.A (subscriptTail e (.Slice lo hi none p2) v (.ref s3.heap.objs.size)) (EP X pins σ Q) X.xe { s3 with heap := s3.heap.push { cls := .type "slice", data := .fields #[vl, vu, .none] } }
  exact tail_any (ops := [.ref s3.heap.objs.size, v]) ht hT hg (by with_unfolding_all rfl)

/-- the items of xs[lo:hi] -/
def cutV (xs : List V) (lo hi : Option Int) : List V := (xs.drop (HT.sIx xs.length 0 lo)).take (HT.sIx xs.length xs.length hi - HT.sIx xs.length 0 lo)
theorem cutV_length (xs : List V) (lo hi : Option Int) : (cutV xs lo hi).length ≤ xs.length := by
  unfold cutV
  rw [List.length_take, List.length_drop]
  omega
/-- t[lo:hi], not the whole of it (the whole would be t itself) -/
def rSlT (K : PySem.W.Frag) : V → Option Int → Option Int → Hp → VK → Prop := fun x lo hi H Q => ∃ a xs, x = .ref a ∧ SqT K H a xs ∧
  ¬ (HT.sIx xs.length 0 lo = 0 ∧ HT.sIx xs.length xs.length hi = xs.length) ∧ ∀ p, H p = none → Q (.ref p) (upd H p (.tup (cutV xs lo hi)))
theorem sl_tup : SlR X (rSlT X.K) := by
  intro pins s σ H x v vl vu lo hi sl Q I rx hs pl pu h
  obtain ⟨a, xs, rfl, hx, hw, q⟩ := h
  cases rx
  obtain ⟨its, r, ht, hz⟩ := I.tuple hx
  have hlen : its.toArray.size = xs.length := by rw [List.size_toArray]; exact r.length.symm
  refine ⟨"tuple", _, PyProof.Rows.slot_tuple_getitem.lookup, ht.typeIs, ?_⟩
  refine HT.getItem_tuple_cut ht hs pl pu (by rw [hlen]; exact hw) ?_ (by rw [hlen]; exact hz)
  rw [hlen]
  refine ⟨.ref s.heap.objs.size, _, I.laid (t' := s.toks) (o := .tup (cutV xs lo hi)) (fun b ob q => Heap.get?_push_of_some _ q) (Nat.le_refl _) ?_, rfl, q _ (I.hok.fresh (Nat.le_refl _))⟩
  exact ⟨Nat.le_trans (cutV_length xs lo hi) hz, _, (r.drop (HT.sIx xs.length 0 lo)).take (HT.sIx xs.length xs.length hi - HT.sIx xs.length 0 lo), IsTup.new _ _⟩

/-! ### t < u, t + u -/
def rLtT (K : PySem.W.Frag) : R2 := fun x y H Q => ∃ a b ns ms, x = .ref a ∧ y = .ref b ∧ SqT K H a (ns.map V.int) ∧ SqT K H b (ms.map V.int) ∧ Q (.bl (HT.lexLt ns ms)) H
theorem op_ltT (hu : X.A.units < cLine) : OpR X (compareOp .Lt) (rLtT X.K) := by
  intro pins s σ H x y v u Q I rx ry h
  obtain ⟨a, b, ns, ms, rfl, rfl, ha, hb, q⟩ := h
  cases rx
  cases ry
  obtain ⟨its, r1, p1, _⟩ := I.tuple ha
  obtain ⟨its2, r2, p2, _⟩ := I.tuple hb
  have i1 : IntsAre its.toArray.toList ns := intsAre_of r1
  have i2 : IntsAre its2.toArray.toList ms := intsAre_of r2
  exact HT.lt_tupInts p1 p2 i1 i2 hu ⟨.bl (HT.lexLt ns ms), H, I, rfl, q⟩
/-- t + u, t not empty: u empty gives t itself -/
def rCatT (K : PySem.W.Frag) : R2 := fun x y H Q => ∃ a b xs ys, x = .ref a ∧ y = .ref b ∧ SqT K H a xs ∧ SqT K H b ys ∧ xs ≠ [] ∧ xs.length + ys.length ≤ sizeLine ∧
  (ys = [] → Q (.ref a) H) ∧ (ys ≠ [] → ∀ p, H p = none → Q (.ref p) (upd H p (.tup (xs ++ ys))))
theorem Vals.nil_iff {xs : List V} {us : List Value} (r : Vals xs us) : us = [] ↔ xs = [] := by
  cases r with
  | nil => simp
  | cons _ _ => simp
theorem op_catT : OpR X (binaryOp .Add) (rCatT X.K) := by
  intro pins s σ H x y v u Q I rx ry h
  obtain ⟨a, b, xs, ys, rfl, rfl, ha, hb, hx, hz, q1, q2⟩ := h
  cases rx
  cases ry
  obtain ⟨its, r1, p1, _⟩ := I.tuple ha
  obtain ⟨its2, r2, p2, _⟩ := I.tuple hb
  refine HT.cat_tup p1 p2 (fun z => hx (r1.nil_iff.mp z)) (fun z => ⟨.ref a, H, I, rfl, q1 (r2.nil_iff.mp z)⟩) (fun z => ?_) (by rw [← r1.length, ← r2.length]; exact hz)
  refine ⟨.ref s.heap.objs.size, _, I.laid (t' := s.toks) (o := .tup (xs ++ ys)) (fun b ob q => Heap.get?_push_of_some _ q) (Nat.le_refl _) ?_, rfl, q2 (fun w => z (r2.nil_iff.mpr w)) _ (I.hok.fresh (Nat.le_refl _))⟩
  exact ⟨by rw [List.length_append]; exact hz, _, r1.append r2, IsTup.new _ _⟩
/-- tuple(t) -/
theorem call_tupleT : CallR X (.type "tuple") (fun xs H Q => ∃ a ys, xs = [.ref a] ∧ SqT X.K H a ys ∧ Q (.ref a) H) := by
  intro pins s σ H xs us Q I r h
  obtain ⟨a, ys, rfl, ha, q⟩ := h
  obtain ⟨u, rfl, ru⟩ := vals1 r
  cases ru
  obtain ⟨its, _, p1, _⟩ := I.tuple ha
  exact call_tuple_same (items := its.toArray) p1 ⟨.ref a, H, I, rfl, q⟩
end
end L2

namespace L2
open PySem PySem.Spec PyProof.Rows

/-! ### places -/
/-- the place that an index of any sign means -/
def ixN (n : Nat) (i : Int) : Option Nat := if 0 ≤ i then (if i < n then some i.toNat else none) else if -(n : Int) ≤ i then some (i + n).toNat else none
def atI {α : Type} (xs : List α) (i : Int) : Option α := (ixN xs.length i).bind fun j => xs[j]?
theorem ixN_seq {n : Nat} {i : Int} {j : Nat} (h : ixN n i = some j) : seqIndex? i n = some j ∧ j < n ∧ -(n : Int) ≤ i ∧ i < n := by
  unfold ixN at h
  by_cases h0 : 0 ≤ i
  · rw [if_pos h0] at h
    by_cases h1 : i < n
    · rw [if_pos h1] at h
      have e : i.toNat = j := Option.some.inj h
      exact ⟨by rw [seqIndex_of h0 h1, e], by omega, by omega, h1⟩
    · rw [if_neg h1] at h; cases h
  · rw [if_neg h0] at h
    by_cases h1 : -(n : Int) ≤ i
    · rw [if_pos h1] at h
      have e : (i + n).toNat = j := Option.some.inj h
      exact ⟨by rw [seqIndex_neg (by omega) h1, e], by omega, h1, by omega⟩
    · rw [if_neg h1] at h; cases h
theorem atI_get {α : Type} {xs : List α} {i : Int} {v : α} (h : atI xs i = some v) : ∃ j, seqIndex? i xs.length = some j ∧ xs[j]? = some v ∧ j < xs.length ∧ -(xs.length : Int) ≤ i ∧ i < xs.length := by
  unfold atI at h
  cases e : ixN xs.length i with
  | none => rw [e] at h; cases h
  | some j =>
    rw [e] at h
    obtain ⟨h1, h2, h3, h4⟩ := ixN_seq e
    exact ⟨j, h1, h, h2, h3, h4⟩
theorem atI_nat {α : Type} {xs : List α} {j : Nat} {v : α} (h : xs[j]? = some v) : atI xs (j : Int) = some v := by
  have hj : j < xs.length := (List.getElem?_eq_some_iff.mp h).1
  have e : ixN xs.length (j : Int) = some j := by
    unfold ixN
    rw [if_pos (by omega), if_pos (by omega)]; simp
  unfold atI; rw [e]; exact h
theorem atI_last {α : Type} (xs : List α) (v : α) : atI (xs ++ [v]) (-1) = some v := by
  have hl : (xs ++ [v]).length = xs.length + 1 := by simp
  have e : ixN (xs ++ [v]).length (-1) = some xs.length := by
    unfold ixN
    rw [hl, if_neg (by decide), if_pos (by omega)]
    congr 1
    omega
  unfold atI
  rw [e]
  show (xs ++ [v])[xs.length]? = some v
  simp

/-! ### what may be subscripted -/
/-- what stands as an index of a plain subscript -/
def PlainIx (b : Expr) : Prop := ∀ o i, subscripted b false o i = operate [o, i] (getItem o i)
/-- a subscript by values -/
def IxR (X : Cx) (r : R2) : Prop :=
  ∀ (value slice : Expr) (pins : List (Addr × Obj)) (s : Shared) (σ : St) (H : Hp) (x y : V) (v u : Value) (Q : VK), Inv X pins σ H s → RelV x v → RelV y u → r x y H Q →
    subscripted slice false v u = operate [v, u] (getItem v u) → wpAny (model X.prog X.w) X.A (subscriptTail value slice v u) (EP X pins σ Q) X.xe s
/-- a call of a builtin's method by values: the receiver, the arguments -/
def MtR (X : Cx) (id : String) (r : V → List V → Hp → VK → Prop) : Prop :=
  ∀ (pins : List (Addr × Obj)) (s : Shared) (σ : St) (H : Hp) (x : V) (xs : List V) (v : Value) (us : List Value) (Q : VK), Inv X pins σ H s → RelV x v → Vals xs us → r x xs H Q →
    wpAny (model X.prog X.w) X.A (call (.builtin id) (v :: us)) (EP X pins σ Q) X.xe s
section
variable {X : Cx} {a b : Expr} {ta tb : TE} {pos : Pos}
theorem IxR.or {r r' : R2} (h : IxR X r) (h' : IxR X r') : IxR X (fun x y H Q => r x y H Q ∨ r' x y H Q) := by
  intro value slice pins s σ H x y v u Q I rx ry q hs
  rcases q with q | q
  · exact h value slice pins s σ H x y v u Q I rx ry q hs
  · exact h' value slice pins s σ H x y v u Q I rx ry q hs
theorem MtR.or {id : String} {r r' : V → List V → Hp → VK → Prop} (h : MtR X id r) (h' : MtR X id r') : MtR X id (fun x xs H Q => r x xs H Q ∨ r' x xs H Q) := by
  intro pins s σ H x xs v us Q I rx rs q
  rcases q with q | q
  · exact h pins s σ H x xs v us Q I rx rs q
  · exact h' pins s σ H x xs v us Q I rx rs q
/-- a[b] -/
theorem pe_ix {r : R2} (hr : IxR X r) (ha : PE X a ta) (hb : PE X b tb) (hs : PlainIx b) : PE X (.Subscript a b pos) (tOp r ta tb) := by
  intro pins s σ H Q I h
  exact Subscript_ (binT ha hb I h fun v u s2 x y H2 I2 rx ry q => hr a b pins s2 σ H2 x y v u Q I2 rx ry q (hs _ _))

def rIxL (K : PySem.W.Frag) : R2 := fun x y H Q => ∃ p xs i v, x = .ref p ∧ y = .int i ∧ SqL K H p xs ∧ atI xs i = some v ∧ Q v H
def rIxT (K : PySem.W.Frag) : R2 := fun x y H Q => ∃ p xs i v, x = .ref p ∧ y = .int i ∧ SqT K H p xs ∧ atI xs i = some v ∧ Q v H
def rIxS : R2 := fun x y H Q => ∃ z i c, x = .str z ∧ y = .int i ∧ z.length ≤ sizeLine ∧ atI z.cps.toList i = some c ∧ Q (.str ⟨#[c]⟩) H
theorem ix_list : IxR X (rIxL X.K) := by
  intro value slice pins s σ H x y v u Q I rx ry h hs
  obtain ⟨p, xs, i, z, rfl, rfl, hq, he, q⟩ := h
  cases rx
  obtain ⟨t, rfl⟩ := ry
  obtain ⟨its, r, pl, hz⟩ := I.list hq
  obtain ⟨j, h1, h2, h3, h4, h5⟩ := atI_get he
  obtain ⟨w, ew, rw'⟩ := r.get h2
  have hl := r.length
  have hn := line63
  have fin : EP X pins σ Q w s := ⟨z, H, I, rw', q⟩
  by_cases h0 : 0 ≤ i
  · have hj : i.toNat = j := by
      rw [seqIndex_of h0 h5] at h1
      exact Option.some.inj h1
    exact item_listR pl.isList h0 (by omega) (by rw [hj]; simpa using ew) fin hs
  · have hj : (i + (its.toArray.size : Int)).toNat = j := by
      rw [seqIndex_neg (by omega) h4] at h1
      rw [List.size_toArray, ← hl]
      exact Option.some.inj h1
    exact subscriptTail_builtinR (x := w) pl.isList.typeIs slot_list_getitem.lookup
      (wpAny_getItem_list_neg (Q := fun r s' => r = w ∧ EP X pins σ Q r s') pl.isList (by omega) (by rw [List.size_toArray] <;> omega) (by omega) (by rw [hj]; simpa using ew) ⟨rfl, fin⟩) hs
theorem ix_tup : IxR X (rIxT X.K) := by
  intro value slice pins s σ H x y v u Q I rx ry h hs
  obtain ⟨p, xs, i, z, rfl, rfl, hq, he, q⟩ := h
  cases rx
  obtain ⟨t, rfl⟩ := ry
  obtain ⟨its, r, pl, hz⟩ := I.tuple hq
  obtain ⟨j, h1, h2, h3, h4, h5⟩ := atI_get he
  obtain ⟨w, ew, rw'⟩ := r.get h2
  have hl := r.length
  have hn := line63
  have fin : EP X pins σ Q w s := ⟨z, H, I, rw', q⟩
  exact subscriptTail_builtinR (x := w) pl.typeIs slot_tuple_getitem.lookup
    (getItem_tuple (j := j) (Q := fun r s' => r = w ∧ EP X pins σ Q r s') pl (by omega) (by omega) (by rw [List.size_toArray, ← hl]; exact h1) (by simpa using ew) ⟨rfl, fin⟩) hs
theorem ix_str : IxR X rIxS := by
  intro value slice pins s σ H x y v u Q I rx ry h hs
  obtain ⟨z, i, c, rfl, rfl, hz, he, q⟩ := h
  obtain ⟨t, rfl⟩ := rx
  obtain ⟨t', rfl⟩ := ry
  obtain ⟨j, h1, h2, h3, h4, h5⟩ := atI_get he
  have hl : z.cps.toList.length = z.length := by simp [Str.length]
  rw [hl] at h1 h4 h5
  have hn := line63
  exact tail_any (typeIs_str s z t) slot_str_getitem.lookup (getItem_str (c := c) (by
    have e1 : decide (i < -(2 ^ 63 : Int)) = false := decide_eq_false (by omega)
    have e2 : decide (i ≥ 2 ^ 63) = false := decide_eq_false (by omega)
    rw [e1, e2, Bool.or_false]) (by rw [h1]; simpa using h2) ⟨.str ⟨#[c]⟩, H, I.tok _, ⟨_, rfl⟩, q⟩) hs
/-- list, tuple or str -/
def rIx (K : PySem.W.Frag) : R2 := fun x y H Q => rIxL K x y H Q ∨ rIxT K x y H Q ∨ rIxS x y H Q
theorem ix_seq : IxR X (rIx X.K) := ix_list.or (ix_tup.or ix_str)

/-! ### xs[i] = v, any sign -/
/-- the list's object behind a store -/
theorem mapSeq_set (its : List Value) (n j : Nat) (u : Value) : Obj.mapSeq (·.setIfInBounds j u) { cls := .type "list", data := .seq its.toArray n } = { cls := .type "list", data := .seq (its.set j u).toArray n } := by
  simp [Obj.mapSeq]
theorem Inv.lst {pins : List (Addr × Obj)} {σ : St} {H : Hp} {s : Shared} {p : Addr} {xs : List V} (I : Inv X pins σ H s) (h : H p = some (.lst xs)) :
    ∃ (its : List Value) (n : Nat), Vals xs its ∧ s.heap.get? p = some { cls := .type "list", data := .seq its.toArray n } ∧ xs.length ≤ sizeLine := by
  obtain ⟨z, its, n, r, e⟩ := I.hok p _ h
  exact ⟨its, n, r, e, z⟩
/-- the list at p is written by an update of its object -/
theorem Inv.lstUpd {pins : List (Addr × Obj)} {σ : St} {H : Hp} {s : Shared} {p : Addr} {xs ys : List V} {its its' : List Value} {n n' : Nat} {f : Obj → Obj} (I : Inv X pins σ H s) (h : H p = some (.lst xs))
    (ho : s.heap.get? p = some { cls := .type "list", data := .seq its.toArray n }) (hf : f { cls := .type "list", data := .seq its.toArray n } = { cls := .type "list", data := .seq its'.toArray n' }) (r : Vals ys its') (hz : ys.length ≤ sizeLine) (t : Nat) :
    Inv X pins σ (upd H p (.lst ys)) { s with heap := s.heap.update p f, toks := t } := by
  have e : (s.heap.update p f).get? p = some { cls := .type "list", data := .seq its'.toArray n' } := by
    rw [Heap.get?_update_self f ho (by rw [hf] <;> rfl), hf]
  refine I.write (x := p) (e := p) (by rw [h]; trivial) (.inl rfl) (fun b u hb q => (Heap.get?_update_other _ _ (Ne.symm hb)).trans q) ⟨_, e⟩ ?_
  exact ⟨hz, its', n', r, e⟩
def rSetL : V → V → V → Hp → (Hp → Prop) → Prop := fun o i v H Q => ∃ p xs k j, o = .ref p ∧ i = .int k ∧ H p = some (.lst xs) ∧ ixN xs.length k = some j ∧ Q (upd H p (.lst (xs.set j v)))
theorem set_list : PSet X rSetL := by
  intro pins s σ H o i v ov iv u Q I ro ri rv h
  obtain ⟨p, xs, k, j, rfl, rfl, hp, hj, q⟩ := h
  cases ro
  obtain ⟨t, rfl⟩ := ri
  obtain ⟨its, n, r, ho, hz⟩ := I.lst hp
  obtain ⟨h1, h2, h3, h4⟩ := ixN_seq hj
  have hl := r.length
  have hn := line63
  have I' : Inv X pins σ (upd H p (.lst (xs.set j v))) { s with heap := s.heap.update p (Obj.mapSeq (·.setIfInBounds j u)) } :=
    I.lstUpd hp ho (mapSeq_set its n j u) (r.set rv j) (by rw [List.length_set]; exact hz) s.toks
  by_cases h0 : 0 ≤ k
  · have hk : k.toNat = j := by
      rw [seqIndex_of h0 h4] at h1
      exact Option.some.inj h1
    exact PySem.W.ki_setAt ho h0 (by omega) (by rw [List.size_toArray, ← hl]; exact h4) (by rw [hk]; exact ⟨_, I', q⟩)
  · have hk : (k + (its.toArray.size : Int)).toNat = j := by
      rw [seqIndex_neg (by omega) h3] at h1
      rw [List.size_toArray, ← hl]
      exact Option.some.inj h1
    exact PySem.W.ki_setBack ho (by omega) (by rw [List.size_toArray, ← hl]; exact h3) (by omega) (by rw [hk]; exact ⟨_, I', q⟩)

/-! ### slices -/
theorem slice_bounds (lo hi : Option Int) (n : Nat) : (sliceBounds lo hi none n).1 = ((HT.sIx n 0 lo : Nat) : Int) ∧ (sliceBounds lo hi none n).2.1 = ((HT.sIx n n hi : Nat) : Int) ∧ (sliceBounds lo hi none n).2.2 = 1 := by
  refine ⟨?_, ?_, rfl⟩
  · cases lo with
    | none => simp [sliceBounds, HT.sIx]
    | some i =>
      simp only [sliceBounds, HT.sIx, Option.getD_none, show (1 : Int) > 0 by decide, if_true]
      by_cases h : i < 0
      · simp only [h, if_true] <;> omega
      · simp only [h, if_false] <;> omega
  · cases hi with
    | none => simp [sliceBounds, HT.sIx]
    | some i =>
      simp only [sliceBounds, HT.sIx, Option.getD_none, show (1 : Int) > 0 by decide, if_true]
      by_cases h : i < 0
      · simp only [h, if_true] <;> omega
      · simp only [h, if_false] <;> omega
theorem slicePick_cut (its : List Value) (lo hi : Option Int) : slicePick its.toArray lo hi none = ((its.drop (HT.sIx its.length 0 lo)).take (HT.sIx its.length its.length hi - HT.sIx its.length 0 lo)).toArray := by
  obtain ⟨h1, h2, h3⟩ := slice_bounds lo hi its.toArray.size
  unfold slicePick
  rw [h1, h2, h3]
  simp only [sliceRange_one, pick_run, List.size_toArray] <;> rfl
/-- xs[lo:hi] of a list: a new list -/
def rSlL (K : PySem.W.Frag) : V → Option Int → Option Int → Hp → VK → Prop := fun x lo hi H Q => ∃ a xs, x = .ref a ∧ SqL K H a xs ∧ ∀ p, H p = none → Q (.ref p) (upd H p (.lst (cutV xs lo hi)))
theorem sl_list : SlR X (rSlL X.K) := by
  intro pins s σ H x v vl vu lo hi sl Q I rx hs pl pu h
  obtain ⟨a, xs, rfl, hx, q⟩ := h
  cases rx
  obtain ⟨its, r, ht, hz⟩ := I.list hx
  have hlen := r.length
  refine ⟨"list", _, slot_list_getitem.lookup, ht.isList.typeIs, ?_⟩
  refine wpAny_getItem_list_slice ht.isList hs pl pu .none (by simp) ?_ (by rw [List.size_toArray] <;> omega)
  rw [slicePick_cut, ← hlen]
  refine ⟨.ref s.heap.objs.size, _, I.laid (t' := s.toks) (o := .lst (cutV xs lo hi)) (fun b ob q => Heap.get?_push_of_some _ q) (Nat.le_refl _) ?_, rfl, q _ (I.hok.fresh (Nat.le_refl _))⟩
  exact ⟨Nat.le_trans (cutV_length xs lo hi) hz, _, 0, (r.drop (HT.sIx xs.length 0 lo)).take (HT.sIx xs.length xs.length hi - HT.sIx xs.length 0 lo), Heap.get?_push_size _ rfl⟩

/-! ### in, not in: flat items -/
def flatV : V → Bool
  | .non => true
  | .bl _ => true
  | .int _ => true
  | .str _ => true
  | _ => false
/-- == of flat values -/
def eqV : V → V → Bool
  | .non, .non => true
  | .bl a, .bl b => a == b
  | .bl a, .int b => (if a then 1 else 0) == b
  | .int a, .bl b => a == (if b then 1 else 0)
  | .int a, .int b => a == b
  | .str a, .str b => a == b
  | _, _ => false
theorem eqAt_V {A : Around} {s : Shared} {y x : V} {u v : Value} (ry : RelV y u) (rx : RelV x v) (fy : flatV y = true) (fx : flatV x = true) : SeqAt.EqAt A s u v (eqV y x) := by
  cases y with
  | non =>
    cases ry
    cases x with
    | non => cases rx; exact SeqAt.EqAt.same _
    | bl b => cases rx; exact SeqAt.EqAt.none_bool b
    | int b => obtain ⟨t, rfl⟩ := rx; exact SeqAt.EqAt.none_int b t
    | str b => obtain ⟨t, rfl⟩ := rx; exact SeqAt.EqAt.none_str b t
    | _ => exact absurd (show false = true from fx) Bool.false_ne_true
  | bl a =>
    cases ry
    cases x with
    | non => cases rx; exact SeqAt.EqAt.bool_none a
    | bl b => cases rx; exact SeqAt.EqAt.bool_bool a b
    | int b => obtain ⟨t, rfl⟩ := rx; exact SeqAt.EqAt.bool_int a b t
    | str b => obtain ⟨t, rfl⟩ := rx; exact SeqAt.EqAt.bool_str a b t
    | _ => exact absurd (show false = true from fx) Bool.false_ne_true
  | int a =>
    obtain ⟨t', rfl⟩ := ry
    cases x with
    | non => cases rx; exact SeqAt.EqAt.int_none a t'
    | bl b => cases rx; exact SeqAt.EqAt.int_bool a t' b
    | int b => obtain ⟨t, rfl⟩ := rx; exact SeqAt.EqAt.int_int a t' b t
    | str b => obtain ⟨t, rfl⟩ := rx; exact SeqAt.EqAt.int_str a t' b t
    | _ => exact absurd (show false = true from fx) Bool.false_ne_true
  | str a =>
    obtain ⟨t', rfl⟩ := ry
    cases x with
    | non => cases rx; exact SeqAt.EqAt.str_none a t'
    | bl b => cases rx; exact SeqAt.EqAt.str_bool a t' b
    | int b => obtain ⟨t, rfl⟩ := rx; exact SeqAt.EqAt.str_int a t' b t
    | str b => obtain ⟨t, rfl⟩ := rx; exact SeqAt.EqAt.str_str a t' b t
    | _ => exact absurd (show false = true from fx) Bool.false_ne_true
  | _ => exact absurd (show false = true from fy) Bool.false_ne_true
/-- the items' answers, read off the values (a value's own answer does not lean on its token) -/
def eqU (x : V) (u : Value) : Bool := match u with
  | .none => eqV .non x
  | .bool b => eqV (.bl b) x
  | .int i _ => eqV (.int i) x
  | .str z _ => eqV (.str z) x
  | _ => false
theorem eqU_of {x y : V} {u : Value} (r : RelV y u) (f : flatV y = true) : eqU x u = eqV y x := by
  cases y with
  | non => cases r; rfl
  | bl b => cases r; rfl
  | int i => obtain ⟨t, rfl⟩ := r; rfl
  | str z => obtain ⟨t, rfl⟩ := r; rfl
  | _ => exact absurd (show false = true from f) Bool.false_ne_true
theorem any_eqU {x : V} : ∀ {xs : List V} {us : List Value}, Vals xs us → xs.all flatV = true → us.any (eqU x) = xs.any fun y => eqV y x
  | _, _, .nil, _ => rfl
  | y :: xs, u :: us, .cons r t, f => by
    rw [List.all_cons, Bool.and_eq_true] at f
    rw [List.any_cons, List.any_cons, eqU_of r f.1, any_eqU t f.2]
theorem mem_eqAt {A : Around} {s : Shared} {x : V} {v : Value} (rx : RelV x v) (fx : flatV x = true) : ∀ {xs : List V} {us : List Value}, Vals xs us → xs.all flatV = true → ∀ u ∈ us, SeqAt.EqAt A s u v (eqU x u)
  | _, _, .nil, _ => fun u hu => by cases hu
  | y :: xs, u :: us, .cons r t, f => fun u' hu => by
    rw [List.all_cons, Bool.and_eq_true] at f
    rcases List.mem_cons.mp hu with rfl | hu
    · rw [eqU_of r f.1]; exact eqAt_V r rx f.1 fx
    · exact mem_eqAt rx fx t f.2 u' hu
def inV (x : V) (xs : List V) : Bool := xs.any fun y => eqV y x
/-- x in a list or tuple of flat items -/
def rIn (K : PySem.W.Frag) (neg : Bool) : R2 := fun x y H Q => ∃ p xs, y = .ref p ∧ (SqL K H p xs ∨ SqT K H p xs) ∧ flatV x = true ∧ xs.all flatV = true ∧ Q (.bl (if neg then !inV x xs else inV x xs)) H
theorem op_in_seq : OpR X (compareOp .In) (rIn X.K false) := by
  intro pins s σ H x y v u Q I rx ry h
  obtain ⟨p, xs, rfl, hq, fx, fs, q⟩ := h
  cases ry
  rcases hq with hq | hq
  · obtain ⟨its, r, pl, hz⟩ := I.list hq
    refine SeqAt.in_listAt (eqU x) pl.isList (fun w hw => mem_eqAt rx fx r fs w (by simpa using hw)) ⟨.bl _, H, I, rfl, ?_⟩
    rw [show its.toArray.any (eqU x) = its.any (eqU x) by simp, any_eqU r fs]
    exact q
  · obtain ⟨its, r, pl, hz⟩ := I.tuple hq
    refine SeqAt.in_tupleAt (eqU x) pl (fun w hw => mem_eqAt rx fx r fs w (by simpa using hw)) ⟨.bl _, H, I, rfl, ?_⟩
    rw [show its.toArray.any (eqU x) = its.any (eqU x) by simp, any_eqU r fs]
    exact q
theorem op_notIn_seq : OpR X (compareOp .NotIn) (rIn X.K true) := by
  intro pins s σ H x y v u Q I rx ry h
  obtain ⟨p, xs, rfl, hq, fx, fs, q⟩ := h
  cases ry
  rcases hq with hq | hq
  · obtain ⟨its, r, pl, hz⟩ := I.list hq
    refine SeqAt.notIn_listAt (eqU x) pl.isList (fun w hw => mem_eqAt rx fx r fs w (by simpa using hw)) ⟨.bl _, H, I, rfl, ?_⟩
    rw [show its.toArray.any (eqU x) = its.any (eqU x) by simp, any_eqU r fs]
    exact q
  · obtain ⟨its, r, pl, hz⟩ := I.tuple hq
    refine SeqAt.notIn_tupleAt (eqU x) pl (fun w hw => mem_eqAt rx fx r fs w (by simpa using hw)) ⟨.bl _, H, I, rfl, ?_⟩
    rw [show its.toArray.any (eqU x) = its.any (eqU x) by simp, any_eqU r fs]
    exact q
theorem op_notIn_str : OpR X (compareOp .NotIn) (fun x y H Q => ∃ i j, x = .str i ∧ y = .str j ∧ Q (.bl (!(!(Builtin.Str.occurrences j i 0 j.length 1).isEmpty))) H) := by
  intro pins s σ H x y v u Q I rx ry h
  obtain ⟨i, j, rfl, rfl, q⟩ := h
  obtain ⟨t, rfl⟩ := rx
  obtain ⟨t', rfl⟩ := ry
  exact notIn_str ⟨.bl _, H, I, rfl, q⟩

/-! ### len, list(x), tuple(x) of any list or tuple that is read -/
theorem call_len_seq : CallR X (.builtin "len") (fun xs H Q => ∃ p ys, xs = [.ref p] ∧ (SqL X.K H p ys ∨ SqT X.K H p ys) ∧ Q (.int ys.length) H) := by
  intro pins s σ H xs us Q I r h
  obtain ⟨p, ys, rfl, hq, q⟩ := h
  obtain ⟨u, rfl, rx⟩ := vals1 r
  cases rx
  have hn := line63
  rcases hq with hq | hq
  · obtain ⟨its, r', pl, hz⟩ := I.list hq
    have hlen := r'.length
    exact Calls.call_len_list pl.isList (by simp only [List.size_toArray] <;> omega) ⟨.int ys.length, H, I.tok _, ⟨s.toks + 1, by rw [List.size_toArray, hlen]⟩, q⟩
  · obtain ⟨its, r', pl, hz⟩ := I.tuple hq
    have hlen := r'.length
    exact len_tuple pl (by simp only [List.size_toArray] <;> omega) ⟨.int ys.length, H, I.tok _, ⟨s.toks + 1, by rw [List.size_toArray, hlen]⟩, q⟩
theorem call_len_str : CallR X (.builtin "len") (fun xs H Q => ∃ z, xs = [.str z] ∧ z.length ≤ sizeLine ∧ Q (.int z.length) H) := by
  intro pins s σ H xs us Q I r h
  obtain ⟨z, rfl, hz, q⟩ := h
  obtain ⟨u, rfl, t, rfl⟩ := vals1 r
  have hn := line63
  exact len_str (by omega) ⟨.int z.length, H, I.tok _, ⟨_, rfl⟩, q⟩
theorem CallR.or {f : Value} {r r' : List V → Hp → VK → Prop} (h : CallR X f r) (h' : CallR X f r') : CallR X f (fun xs H Q => r xs H Q ∨ r' xs H Q) := by
  intro pins s σ H xs us Q I rs q
  rcases q with q | q
  · exact h pins s σ H xs us Q I rs q
  · exact h' pins s σ H xs us Q I rs q
theorem call_list_of : CallR X (.type "list") (fun xs H Q => ∃ p ys, xs = [.ref p] ∧ (SqL X.K H p ys ∨ SqT X.K H p ys) ∧ ∀ l, H l = none → Q (.ref l) (upd H l (.lst ys))) := by
  intro pins s σ H xs us Q I r h
  obtain ⟨p, ys, rfl, hq, q⟩ := h
  obtain ⟨u, rfl, rx⟩ := vals1 r
  cases rx
  have fin : ∀ (its : List Value), Vals ys its → ys.length ≤ sizeLine → ∀ (h' : Heap) (c' : Nat), (∀ b o', s.heap.get? b = some o' → h'.get? b = some o') →
      h'.get? s.heap.objs.size = some { cls := .type "list", dict := none, data := .seq its.toArray c', slots := #[] } → EP X pins σ Q (.ref s.heap.objs.size) { s with heap := h' } := fun its r' hz h' c' kp e =>
    ⟨.ref s.heap.objs.size, _, I.laid (t' := s.toks) kp (Nat.le_refl _) (show ObjOk X.prog X.w _ h' _ (.lst ys) from ⟨hz, its, c', r', e⟩), rfl, q _ (I.hok.fresh (Nat.le_refl _))⟩
  rcases hq with hq | hq
  · obtain ⟨its, r', pl, hz⟩ := I.list hq
    have hlen := r'.length
    obtain ⟨o, ho, hc, n, hd⟩ := pl.isList
    exact call_list_seq p (.inl rfl) ho hc hd (fun h' c' kp e => fin its r' hz h' c' kp e) (by simp only [List.size_toArray] <;> omega)
  · obtain ⟨its, r', pl, hz⟩ := I.tuple hq
    have hlen := r'.length
    obtain ⟨o, ho, hc, n, hd⟩ := pl
    exact call_list_seq p (.inr rfl) ho hc hd (fun h' c' kp e => fin its r' hz h' c' kp e) (by simp only [List.size_toArray] <;> omega)
theorem call_tuple_of : CallR X (.type "tuple") (fun xs H Q => ∃ p ys, xs = [.ref p] ∧ ((SqL X.K H p ys ∧ ∀ l, H l = none → Q (.ref l) (upd H l (.tup ys))) ∨ (SqT X.K H p ys ∧ Q (.ref p) H))) := by
  intro pins s σ H xs us Q I r h
  obtain ⟨p, ys, rfl, h⟩ := h
  obtain ⟨u, rfl, rx⟩ := vals1 r
  cases rx
  rcases h with ⟨hq, q⟩ | ⟨hq, q⟩
  · obtain ⟨its, r', pl, hz⟩ := I.list hq
    have hlen := r'.length
    refine call_tuple_list pl.isList (fun h' kp => ?_) (by simp only [List.size_toArray] <;> omega)
    have I1 : Inv X pins σ H { s with heap := h' } := I.kept (t' := s.toks) kp
    have I2 : Inv X pins σ (upd H h'.objs.size (.tup ys)) { s with heap := h'.push { cls := .type "tuple", data := .seq its.toArray } } :=
      I1.laid (t' := s.toks) (fun b o e => Heap.get?_push_of_some _ e) (Nat.le_refl _) (show ObjOk X.prog X.w _ _ _ (.tup ys) from ⟨hz, its, r', IsTup.new _ _⟩)
    exact ⟨.ref h'.objs.size, _, I2, rfl, q _ (I1.hok.fresh (Nat.le_refl _))⟩
  · obtain ⟨its, r', pl, hz⟩ := I.tuple hq
    exact call_tuple_same pl ⟨.ref p, H, I, rfl, q⟩

/-! ### the call of a builtin's method: o.m(..) -/
/-- the value is of that builtin type -/
def tyV (K : PySem.W.Frag) (T : String) (x : V) (H : Hp) : Prop := match x with
  | .str _ => T = "str"
  | .int _ => T = "int"
  | .ref p => (T = "list" ∧ ∃ xs, SqL K H p xs) ∨ (T = "tuple" ∧ ∃ o, K.lookup p = some o ∧ o.cls = .type "tuple" ∧ o.dict = none) ∨
      (T = "dict" ∧ ((∃ kvs, H p = some (.dK kvs)) ∨ ∃ kvs, H p = some (.dT kvs))) ∨ (T = "set" ∧ ∃ S n, H p = some (.set S n))
  | _ => False
theorem tyV_is {pins : List (Addr × Obj)} {σ : St} {H : Hp} {s : Shared} {T : String} {x : V} {v : Value} (I : Inv X pins σ H s) (r : RelV x v) (ty : tyV X.K T x H) :
    s.TypeIs v T ∧ ∀ a, v = .ref a → ∃ ob, s.heap.get? a = some ob ∧ ob.dict = none := by
  cases x with
  | str z =>
    obtain ⟨t, rfl⟩ := r
    cases (show T = "str" from ty)
    exact ⟨typeIs_str s z t, fun _ e => nomatch e⟩
  | int i =>
    obtain ⟨t, rfl⟩ := r
    cases (show T = "int" from ty)
    exact ⟨typeIs_int s i t, fun _ e => nomatch e⟩
  | ref p =>
    cases r
    rcases ty with ⟨rfl, xs, hq⟩ | ⟨rfl, o, hk, hc, hd⟩ | ⟨rfl, hk⟩ | ⟨rfl, S, n, hk⟩
    · obtain ⟨its, _, pl, _⟩ := I.list hq
      refine ⟨pl.isList.typeIs, fun a e => ?_⟩
      cases e
      obtain ⟨o, n, e, c, hd, _⟩ := pl
      exact ⟨o, e, hd⟩
    · refine ⟨⟨o, I.kIn p o hk, hc⟩, fun a e => ?_⟩
      cases e
      exact ⟨o, I.kIn _ o hk, hd⟩
    · have z : ∃ o, s.heap.get? p = some o ∧ o.ExactDict := by
        rcases hk with ⟨kvs, hk⟩ | ⟨kvs, hk⟩
        · obtain ⟨_, _, _, _, o, _, _, e, ex, _⟩ := I.hok p _ hk
          exact ⟨o, e, ex⟩
        · obtain ⟨_, _, _, _, o, _, _, e, ex, _⟩ := I.hok p _ hk
          exact ⟨o, e, ex⟩
      obtain ⟨o, e, ex⟩ := z
      refine ⟨⟨o, e, ex.1⟩, fun a e2 => ?_⟩
      cases e2
      exact ⟨o, e, ex.2.1⟩
    · obtain ⟨o, _, _, _, e, ex, _⟩ := I.hok p _ hk
      refine ⟨⟨o, e, ex.1⟩, fun a e2 => ?_⟩
      cases e2
      exact ⟨o, e, ex.2.1⟩
  | _ => exact False.elim ty
def tBM0 (K : PySem.W.Frag) (T : String) (r : V → List V → Hp → VK → Prop) (to : TE) : TE := fun σ H Q => to σ H fun x H1 => tyV K T x H1 ∧ r x [] H1 Q
def tBM (K : PySem.W.Frag) (T : String) (r : V → List V → Hp → VK → Prop) (to : TE) (t : TA) : TE := fun σ H Q => to σ H fun x H1 => tyV K T x H1 ∧ t σ H1 fun xs H2 => r x xs H2 Q
variable {o e : Expr} {es : List Expr} {to : TE} {t : TA} {name : Str} {apos cpos : Pos} {T id : String} {r : V → List V → Hp → VK → Prop}
theorem pe_bm0 (pa : PlainAttrs T) (slot : Slot T name id) (hty : typeOf (.builtin id) = pure (.type "method_descriptor")) (hm : MtR X id r) (ho : PE X o to)
    (hbase : attributeBase o name X.env (eval o X.env) = eval o X.env := by rfl) (hline : (apos.endLine == cpos.line) = true := by rfl) : PE X (.Call (.Attribute o name apos) [] [] cpos) (tBM0 X.K T r to) := by
  intro pins s σ H Q I h
  refine wpAny_Call_method0_late hbase hline (thn (ho pins s σ H _ I h) fun v s1 ⟨x, H1, I1, r1, ty, q1⟩ => ?_)
  obtain ⟨h1, h2⟩ := tyV_is I1 r1 ty
  exact ⟨T, id, pa, slot, hty, h1, h2, Calls.callWith_builtin rfl (PySem.evalArgs_none (hm pins s1 σ H1 x [] v [] Q I1 r1 .nil q1))⟩
theorem pe_bm (pa : PlainAttrs T) (slot : Slot T name id) (hty : typeOf (.builtin id) = pure (.type "method_descriptor")) (hm : MtR X id r) (ho : PE X o to) (ha : PA X (e :: es) t)
    (hbase : attributeBase o name X.env (eval o X.env) = eval o X.env := by rfl)
    (hfew : ((backTo cpos (starEach (e :: es) X.env)).all (fun x => !x.1) && (backToKw cpos (keywordEach [] X.env)).all (fun x => x.1.isSome)
      && decide ((e :: es).length + ([] : List Keyword).length + (if ([] : List Keyword).isEmpty then 0 else 1) < 30)) = true := by rfl)
    (hline : (apos.endLine == cpos.line) = true := by rfl) (hs : starEach (e :: es) X.env = (false, eval e X.env) :: starEach es X.env := by rfl) (hplain : (backTo cpos (starEach es X.env)).any (·.1) = false := by rfl) :
    PE X (.Call (.Attribute o name apos) (e :: es) [] cpos) (tBM X.K T r to t) := by
  intro pins s σ H Q I h
  refine wpAny_Call_method_late hbase hfew hline rfl (thn (ho pins s σ H _ I h) fun v s1 ⟨x, H1, I1, r1, ty, q1⟩ => ?_)
  obtain ⟨h1, h2⟩ := tyV_is I1 r1 ty
  refine ⟨T, id, pa, slot, hty, h1, h2, ?_⟩
  have hA := ha cpos pins s1 σ H1 _ I1 q1
  rw [hs] at hA ⊢
  refine Calls.callWith_builtin (by show (false || (backTo cpos (starEach es X.env)).any (·.1)) = false; rw [hplain] <;> rfl) (Calls.evalArgs_plain ?_)
  exact thn hA fun us s2 ⟨vs, H2, I2, r2, q2⟩ => hm pins s2 σ H2 x vs v us Q I2 r1 r2 q2
/- xs.append(e), list.index on a module's tuple .. are MtR facts of 06m -/
end
end L2

namespace L2
open PySem PySem.Spec PyProof.Rows

def MtM (X : Cx) (id : String) (r : V → List V → Hp → VK → Prop) : Prop :=
  ∀ (pins : List (Addr × Obj)) (s : Shared) (σ : St) (H : Hp) (x : V) (xs : List V) (v : Value) (us : List Value) (Q : VK), Inv X pins σ H s → RelV x v → Vals xs us → r x xs H Q →
    wpAny (model X.prog X.w) X.A (call (.builtin id) (v :: us)) (EP X pins σ Q) X.xe s

/-! ### lists of values -/
theorem Vals.one : ∀ {x : V} {us : List Value}, Vals [x] us → ∃ u, us = [u] ∧ RelV x u
  | _, _, .cons r .nil => ⟨_, rfl, r⟩
theorem Vals.two : ∀ {x y : V} {us : List Value}, Vals [x, y] us → ∃ u v, us = [u, v] ∧ RelV x u ∧ RelV y v
  | _, _, _, .cons r (.cons q .nil) => ⟨_, _, rfl, r, q⟩
theorem Vals.zero : ∀ {us : List Value}, Vals [] us → us = []
  | _, .nil => rfl
theorem Vals.dropLast {xs : List V} {us : List Value} (h : Vals xs us) : Vals xs.dropLast us.dropLast := by
  induction h with
  | nil => exact .nil
  | cons r t ih =>
    cases t with
    | nil => exact .nil
    | cons q t' => exact .cons r ih
theorem Vals.eraseIdx : ∀ {xs : List V} {us : List Value} (i : Nat), Vals xs us → Vals (xs.eraseIdx i) (us.eraseIdx i)
  | _, _, _, .nil => .nil
  | _, _, 0, .cons _ t => t
  | _, _, i + 1, .cons r t => .cons r (Vals.eraseIdx i t)
theorem Vals.reverse {xs : List V} {us : List Value} (h : Vals xs us) : Vals xs.reverse us.reverse := by
  induction h with
  | nil => exact .nil
  | cons r t ih => rw [List.reverse_cons, List.reverse_cons]; exact Vals.append ih (.cons r .nil)
theorem Vals.rep {xs : List V} {us : List Value} (h : Vals xs us) : ∀ k : Nat, Vals (List.replicate k xs).flatten (List.replicate k us).flatten
  | 0 => .nil
  | k + 1 => by
    rw [List.replicate_succ, List.replicate_succ, List.flatten_cons, List.flatten_cons]
    exact Vals.append h (Vals.rep h k)
theorem erase_last {α : Type} (l : List α) : l.eraseIdx (l.length - 1) = l.dropLast := by
  induction l with
  | nil => rfl
  | cons a r ih =>
    cases r with
    | nil => rfl
    | cons b r =>
      have e : (a :: b :: r).length - 1 = ((b :: r).length - 1) + 1 := by
        have h1 : (a :: b :: r).length = r.length + 2 := rfl
        have h2 : (b :: r).length = r.length + 1 := rfl
        omega
      rw [e, List.eraseIdx_cons_succ, ih]
      all_goals rfl
theorem len_erase {α : Type} : ∀ (l : List α) (i : Nat), (l.eraseIdx i).length ≤ l.length
  | [], _ => Nat.le_refl _
  | _ :: _, 0 => Nat.le_succ _
  | _ :: r, i + 1 => Nat.succ_le_succ (len_erase r i)
theorem foldl_rep (its : List Value) : ∀ (k : Nat) (acc : List Value),
    List.foldl (fun x1 x2 => x1 ++ x2) acc.toArray (List.replicate k its.toArray) = (acc ++ (List.replicate k its).flatten).toArray
  | 0, acc => by simp
  | k + 1, acc => by
    have e : acc.toArray ++ its.toArray = (acc ++ its).toArray := by simp
    have e2 : (acc ++ its) ++ (List.replicate k its).flatten = acc ++ (List.replicate (k + 1) its).flatten := by
      rw [List.replicate_succ, List.flatten_cons, List.append_assoc]
    rw [← e2, ← foldl_rep its k (acc ++ its), ← e, List.replicate_succ, List.foldl_cons]

section
variable {X : Cx} {pins : List (Addr × Obj)} {σ : St} {H : Hp} {s : Shared} {l b : Addr} {xs ys zs : List V}

/-! ### the two steps: a tracked list is rewritten, a new list is laid -/
theorem Inv.lset {its its' : List Value} {n : Nat} {f : Array Value → Array Value} {t' : Nat} (I : Inv X pins σ H s) (hH : H l = some (.lst xs))
    (e : s.heap.get? l = some { cls := .type "list", data := .seq its.toArray n }) (hf : f its.toArray = its'.toArray) (hv : Vals ys its') (hz : ys.length ≤ sizeLine) :
    Inv X pins σ (upd H l (.lst ys)) { s with heap := s.heap.update l (Obj.mapSeq f), toks := t' } := by
  have q := PySem.IsL.update e f
  rw [hf] at q
  refine I.write (x := l) (e := l) (by rw [hH]; exact trivial) (.inl rfl) (fun b' u hb hu => (Heap.get?_update_other s.heap (Obj.mapSeq f) (Ne.symm hb)).trans hu) ⟨_, q⟩ ?_
  exact ⟨hz, its', _, hv, q⟩
theorem Inv.lnew {its : List Value} {t' : Nat} (I : Inv X pins σ H s) (hv : Vals ys its) (hz : ys.length ≤ sizeLine) :
    Inv X pins σ (upd H s.heap.objs.size (.lst ys)) { s with heap := s.heap.push { cls := .type "list", data := .seq its.toArray }, toks := t' } :=
  I.laid (fun _ _ q => Heap.get?_push_of_some _ q) (Nat.le_refl _) ⟨hz, its, 0, hv, Heap.get?_push_size _ rfl⟩
theorem Inv.fresh (I : Inv X pins σ H s) : H s.heap.objs.size = none := I.hok.fresh (Nat.le_refl _)
theorem Inv.lstM (I : Inv X pins σ H s) (hH : H l = some (.lst xs)) : xs.length ≤ sizeLine ∧ ∃ (its : List Value) (n : Nat), Vals xs its ∧ xs.length = its.length ∧ s.heap.get? l = some { cls := .type "list", data := .seq its.toArray n } := by
  obtain ⟨z, its, n, r, e⟩ := I.hok l _ hH
  exact ⟨z, its, n, r, r.length, e⟩

theorem notLongL {n : Nat} (h : n ≤ sizeLine) : Builtin.List.listTooLong n = false := by
  unfold Builtin.List.listTooLong
  exact decide_eq_false (by omega)
end

section
variable {X : Cx}

/-! ### methods -/
def rAppend : V → List V → Hp → VK → Prop := fun x vs H Q => ∃ l xs y, x = .ref l ∧ vs = [y] ∧ H l = some (.lst xs) ∧ xs.length < sizeLine ∧ Q .non (upd H l (.lst (xs ++ [y])))
theorem mt_append : MtM X "list.append" rAppend := by
  intro pins s σ H x vs v us Q I rx rv h
  obtain ⟨l, xs, y, rfl, rfl, hH, hz, q⟩ := h
  cases rx
  obtain ⟨u, rfl, ru⟩ := rv.one
  obtain ⟨z, its, n, r, hl, e⟩ := I.lstM hH
  refine call_meets F.slot_list_append ⟨_, e, rfl⟩ F.entry_list_append (F.args_list_append_2 _ _) (PySem.list_append l its.toArray n u (by rw [List.size_toArray]; omega)) ⟨e, ?_⟩
  refine ⟨.non, _, I.lset (its' := its ++ [u]) hH e (by simp) (r.append (.cons ru .nil)) ?_, rfl, q⟩
  rw [List.length_append, List.length_singleton]
  omega

def rExtend : V → List V → Hp → VK → Prop := fun x vs H Q => ∃ l b xs zs, x = .ref l ∧ vs = [.ref b] ∧ H l = some (.lst xs) ∧ H b = some (.lst zs) ∧ xs.length + zs.length ≤ sizeLine ∧ Q .non (upd H l (.lst (xs ++ zs)))
theorem mt_extend : MtM X "list.extend" rExtend := by
  intro pins s σ H x vs v us Q I rx rv h
  obtain ⟨l, b, xs, zs, rfl, rfl, hH, hB, hz, q⟩ := h
  cases rx
  obtain ⟨u, rfl, ru⟩ := rv.one
  cases ru
  obtain ⟨z, its, n, r, hl, e⟩ := I.lstM hH
  obtain ⟨z2, its2, n2, r2, hl2, e2⟩ := I.lstM hB
  have hsz : its.toArray.size + its2.toArray.size ≤ sizeLine := by rw [List.size_toArray, List.size_toArray]; omega
  have hlong : ¬ (!its.toArray.isEmpty && Builtin.List.listTooLong (its.toArray.size + its2.toArray.size)) = true := by
    rw [notLongL hsz, Bool.and_false]
    exact Bool.false_ne_true
  refine call_meets F.slot_list_extend ⟨_, e, rfl⟩ F.entry_list_extend (F.args_list_extend_2 _ _)
    (AutoSeq1.list_extend_list_list_0 l its.toArray n b its2.toArray n2 hlong (by rw [List.size_toArray]; omega) (by omega)) ⟨e, e2, ?_⟩
  refine ⟨.non, _, I.lset (its' := its ++ its2) hH e (by simp) (r.append r2) ?_, rfl, q⟩
  rw [List.length_append]
  omega

def rPop : V → List V → Hp → VK → Prop := fun x vs H Q => ∃ l xs y, x = .ref l ∧ vs = [] ∧ H l = some (.lst xs) ∧ xs[xs.length - 1]? = some y ∧ Q y (upd H l (.lst xs.dropLast))
theorem mt_pop : MtM X "list.pop" rPop := by
  intro pins s σ H x vs v us Q I rx rv h
  obtain ⟨l, xs, y, rfl, rfl, hH, hy, q⟩ := h
  cases rx
  have hus := rv.zero
  subst hus
  obtain ⟨z, its, n, r, hl, e⟩ := I.lstM hH
  obtain ⟨u, hu, ru⟩ := r.get hy
  have hy' : its.toArray[its.toArray.size - 1]? = some u := by
    show its.toArray[its.length - 1]? = some u
    rw [← Array.getElem?_toList, ← hl]
    exact hu
  refine call_meets F.slot_list_pop ⟨_, e, rfl⟩ F.entry_list_pop (F.args_list_pop_1 _) (MeetsSeq.list_pop_last l its.toArray n u hy' (by rw [List.size_toArray]; omega)) ⟨e, ?_⟩
  refine ⟨y, _, I.lset (its' := its.dropLast) hH e ?_ r.dropLast ?_, ru, q⟩
  · show its.toArray.eraseIdxIfInBounds (its.toArray.size - 1) = its.dropLast.toArray
    rw [List.size_toArray, List.eraseIdxIfInBounds_toArray, erase_last]
  · rw [List.length_dropLast]
    omega

def rPopAt : V → List V → Hp → VK → Prop := fun x vs H Q => ∃ l xs i k y, x = .ref l ∧ vs = [.int i] ∧ H l = some (.lst xs) ∧ -(2 ^ 63) ≤ i ∧ i < 2 ^ 63 ∧ seqIndex? i xs.length = some k ∧ xs[k]? = some y ∧ Q y (upd H l (.lst (xs.eraseIdx k)))
theorem mt_popAt : MtM X "list.pop" rPopAt := by
  intro pins s σ H x vs v us Q I rx rv h
  obtain ⟨l, xs, i, k, y, rfl, rfl, hH, h1, h2, hk, hy, q⟩ := h
  cases rx
  obtain ⟨u, rfl, ru⟩ := rv.one
  obtain ⟨t, rfl⟩ := ru
  obtain ⟨z, its, n, r, hl, e⟩ := I.lstM hH
  obtain ⟨w, hw, rw'⟩ := r.get hy
  refine call_meets F.slot_list_pop ⟨_, e, rfl⟩ F.entry_list_pop (F.args_list_pop_2 _ _)
    (MeetsSeq.list_pop_at l its.toArray n i t k w (fitsIndex_both h1 h2) (by rw [List.size_toArray, ← hl]; exact hk) (by rw [← Array.getElem?_toList]; exact hw) (by rw [List.size_toArray]; omega)) ⟨e, ?_⟩
  refine ⟨y, _, I.lset (its' := its.eraseIdx k) hH e ?_ (r.eraseIdx k) ?_, rw', q⟩
  · show its.toArray.eraseIdxIfInBounds k = (its.eraseIdx k).toArray
    rw [List.eraseIdxIfInBounds_toArray]
  · have := len_erase xs k
    omega

def rReverse : V → List V → Hp → VK → Prop := fun x vs H Q => ∃ l xs, x = .ref l ∧ vs = [] ∧ H l = some (.lst xs) ∧ Q .non (upd H l (.lst xs.reverse))
theorem mt_reverse : MtM X "list.reverse" rReverse := by
  intro pins s σ H x vs v us Q I rx rv h
  obtain ⟨l, xs, rfl, rfl, hH, q⟩ := h
  cases rx
  have hus := rv.zero
  subst hus
  obtain ⟨z, its, n, r, hl, e⟩ := I.lstM hH
  refine call_meets F.slot_list_reverse ⟨_, e, rfl⟩ F.entry_list_reverse (F.args_list_reverse_1 _) (AutoSeq1.list_reverse_list_0 l its.toArray n (by rw [List.size_toArray]; omega)) ⟨e, ?_⟩
  refine ⟨.non, _, I.lset (its' := its.reverse) hH e (by simp) r.reverse ?_, rfl, q⟩
  rw [List.length_reverse]
  omega

def rClear : V → List V → Hp → VK → Prop := fun x vs H Q => ∃ l xs, x = .ref l ∧ vs = [] ∧ H l = some (.lst xs) ∧ Q .non (upd H l (.lst []))
theorem mt_clear : MtM X "list.clear" rClear := by
  intro pins s σ H x vs v us Q I rx rv h
  obtain ⟨l, xs, rfl, rfl, hH, q⟩ := h
  cases rx
  have hus := rv.zero
  subst hus
  obtain ⟨z, its, n, r, hl, e⟩ := I.lstM hH
  refine call_meets F.slot_list_clear ⟨_, e, rfl⟩ F.entry_list_clear (F.args_list_clear_1 _) (AutoSeq1.list_clear_list_0 l its.toArray n (by rw [List.size_toArray]; omega)) ⟨e, ?_⟩
  exact ⟨.non, _, I.lset (its' := []) (ys := []) hH e rfl .nil (Nat.zero_le _), rfl, q⟩

/-! ### list + list, list += list, list * int -/
def rCat : R2 := fun x y H Q => ∃ l b xs zs, x = .ref l ∧ y = .ref b ∧ H l = some (.lst xs) ∧ H b = some (.lst zs) ∧ xs.length + zs.length ≤ sizeLine ∧ ∀ p, H p = none → Q (.ref p) (upd H p (.lst (xs ++ zs)))
theorem op_cat : OpR X (binaryOp .Add) rCat := by
  intro pins s σ H x y v u Q I rx ry h
  obtain ⟨l, b, xs, zs, rfl, rfl, hH, hB, hz, q⟩ := h
  cases rx
  cases ry
  obtain ⟨z, its, n, r, hl, e⟩ := I.lstM hH
  obtain ⟨z2, its2, n2, r2, hl2, e2⟩ := I.lstM hB
  refine PySem.P.add_list e e2 ?_ (by rw [List.size_toArray, List.size_toArray]; omega)
  have ea : its.toArray ++ its2.toArray = (its ++ its2).toArray := by simp
  rw [ea]
  exact ⟨.ref _, _, I.lnew (t' := s.toks) (r.append r2) (by rw [List.length_append]; omega), rfl, q _ I.fresh⟩
/-- a list times an int (a negative one is nothing) -/
def rRep : R2 := fun x y H Q => ∃ l k xs, x = .ref l ∧ y = .int k ∧ H l = some (.lst xs) ∧ -(2 ^ 63) ≤ k ∧ k < 2 ^ 63 ∧ xs.length * k.toNat ≤ sizeLine ∧
  ∀ p, H p = none → Q (.ref p) (upd H p (.lst (List.replicate k.toNat xs).flatten))
theorem len_rep {α : Type} (xs : List α) (k : Nat) : (List.replicate k xs).flatten.length = k * xs.length := by
  induction k with
  | zero => simp
  | succ k ih => rw [List.replicate_succ, List.flatten_cons, List.length_append, ih, Nat.succ_mul, Nat.add_comm]
theorem op_rep : OpR X (binaryOp .Mult) rRep := by
  intro pins s σ H x y v u Q I rx ry h
  obtain ⟨l, k, xs, rfl, rfl, hH, h1, h2, hz, q⟩ := h
  cases rx
  obtain ⟨t, rfl⟩ := ry
  obtain ⟨z, its, n, r, hl, e⟩ := I.lstM hH
  have hlen : its.toArray.size * k.toNat ≤ sizeLine := by rw [List.size_toArray, ← hl]; exact hz
  have hcap : ¬ its.toArray.size * k.toNat > (2 ^ 63 - 1) / 8 := by
    have : (sizeLine : Nat) ≤ (2 ^ 63 - 1) / 8 := by decide
    omega
  have hfit : ¬ (!Builtin.List.listFitsIndex k) = true := by
    rw [fitsIndex_both h1 h2]
    exact Bool.false_ne_true
  have hlong : ¬ Builtin.List.listTooLong (its.toArray.size * k.toNat) = true := by
    rw [notLongL hlen]
    exact Bool.false_ne_true
  have hnew : List.foldl (fun x1 x2 => x1 ++ x2) #[] (List.replicate (if its.toArray.isEmpty = true then 0 else k.toNat) its.toArray) = (List.replicate k.toNat its).flatten.toArray := by
    have f0 : ∀ m : Nat, List.foldl (fun x1 x2 => x1 ++ x2) #[] (List.replicate m its.toArray) = (List.replicate m its).flatten.toArray := fun m => by
      have := foldl_rep its m []
      rw [List.nil_append] at this
      exact this
    rw [f0]
    cases its with
    | nil => simp
    | cons a r' => rw [if_neg (by simp)]
  refine wpAny_binaryOp_repeat_ref (T := "list") (U := "int") (by decide) ⟨_, e, rfl⟩ (fun s' => typeIs_int s' k t) noFill_list_mul F.fills_int_mul F.slot_int_rmul repeat_list F.slot_int_index.lookup
    (call_meets F.slot_int_rmul (typeIs_int s k t) F.entry_int_rmul (F.args_int_rmul_2 _ _) (int___rmul___int_list k t l its.toArray n)
      ⟨e, rfl, ⟨_, e, rfl⟩, call_meets F.slot_list_mul ⟨_, e, rfl⟩ F.entry_list_mul (F.args_list_mul_2 _ _) (AutoListH.list___mul___list_int_3 l its.toArray n k t hfit hcap hlong) ⟨e, ?_⟩⟩)
  rw [hnew]
  exact ⟨.ref _, _, I.lnew (t' := s.toks) (r.rep k.toNat) (by rw [len_rep, Nat.mul_comm]; exact hz), rfl, q _ I.fresh⟩

/-! ### del xs[i] -/
theorem del_list {pins : List (Addr × Obj)} {s : Shared} {σ : St} {H : Hp} {l : Addr} {xs : List V} {i : Int} {t : Tok} {k : Nat} {Q : Unit → Shared → Prop} (I : Inv X pins σ H s) (hH : H l = some (.lst xs))
    (h1 : -(2 ^ 63) ≤ i) (h2 : i < 2 ^ 63) (hk : seqIndex? i xs.length = some k) (h : ∀ s', Inv X pins σ (upd H l (.lst (xs.eraseIdx k))) s' → Q () s') :
    wpAny (model X.prog X.w) X.A (delItem (.ref l) (.int i t)) Q X.xe s := by
  obtain ⟨z, its, n, r, hl, e⟩ := I.lstM hH
  refine PySem.P.delItem_list (k := k) e (fitsIndex_both h1 h2) (by rw [List.size_toArray, ← hl]; exact hk) (h _ ?_) (by rw [List.size_toArray]; omega)
  refine I.lset (its' := its.eraseIdx k) (t' := s.toks) hH e ?_ (r.eraseIdx k) ?_
  · show its.toArray.eraseIdxIfInBounds k = (its.eraseIdx k).toArray
    rw [List.eraseIdxIfInBounds_toArray]
  · have := len_erase xs k
    omega
end

/-! ### xs[a:b] = ys -/
section
variable {prog : Program} {w : World} {A : Around} {E : Value → Shared → Prop} {s : Shared}
theorem splice_eq (its its2 : List Value) (a c : Nat) : its.toArray.extract 0 a ++ its2.toArray ++ its.toArray.extract c its.toArray.size = (its.take a ++ its2 ++ its.drop c).toArray := by
  apply Array.toList_inj.mp
  first
    | (simp
       exact List.take_of_length_le (by simp))
    | simp [List.take_of_length_le]
    | simp
theorem bounds_run {a c n : Nat} (hac : a ≤ c) (hc : c ≤ n) : sliceBounds (some (a : Int)) (some (c : Int)) none n = ((a : Int), (c : Int), 1) := by
  simp only [sliceBounds, Option.getD_none]
  have h1 : ¬ ((a : Int) < 0) := by omega
  have h2 : ¬ ((c : Int) < 0) := by omega
  simp only [h1, h2, if_false, show (1 : Int) > 0 by decide, if_true]
  congr 1
  · omega
  · congr 1; omega
set_option maxRecDepth 100000 in
/-- list.__setitem__ with a slice of step one and another list -/
theorem setItem_slice {l b sl : Addr} {items new : Array Value} {n n2 : Nat} {vl vu : Value} {a c : Nat} {Q : Unit → Shared → Prop}
    (e : s.heap.get? l = some { cls := .type "list", data := .seq items n }) (e2 : s.heap.get? b = some { cls := .type "list", data := .seq new n2 }) (hne : l ≠ b)
    (hs : s.heap.IsSliceOf sl vl vu .none) (pl : IsPart vl (some (a : Int))) (pu : IsPart vu (some (c : Int))) (hac : a ≤ c) (hc : c ≤ items.size)
    (hsz : items.size + new.size ≤ sizeLine) (h : Q () { s with heap := s.heap.update l (Obj.mapSeq fun xs => xs.extract 0 a ++ new ++ xs.extract c xs.size) }) :
    wpAny (model prog w) A (setItem (.ref l) (.ref sl) (.ref b)) Q E s := by
  have hl : s.heap.IsList l items := PySem.IsL.isList e
  have hb : s.heap.IsList b new := PySem.IsL.isList e2
  obtain ⟨os, hos, hcs, hds⟩ := id hs
  have hTs : s.TypeIs (.ref sl) "slice" := ⟨os, hos, hcs⟩
  have hstep : ¬ ((rawPart none == rawInt 0) = true) := Bool.false_ne_true
  have hsame : Builtin.List.listSameRef (.ref l) (.ref b) = false := by
    unfold Builtin.List.listSameRef
    exact beq_eq_false_iff_ne.mpr hne
  have hmax : (max (a : Int) (c : Int)).toNat = c := by omega
  have hz' : ((fun xs : Array Value => xs.extract 0 a ++ new ++ xs.extract c xs.size) items).size ≤ sizeLine + 1 := by
    simp only [Array.size_append, Array.size_extract]
    omega
  unfold setItem
  try with_reducible refine wpAny_holding ?_
  first | refine wpAny_bind (wpAny_pure ?_) | skip
  refine wpAny_bind (wpAny_sequenceKey hl.typeIs (by decide) ?_)
  refine wpAny_bind (wpAny_callSpecial?_slot (name := Str.ofString "__setitem__") hl.typeIs slot_list_setitem
    (wpAny_call_entry slot_list_setitem hl.typeIs entry_list_setitem ?_ (args_list_setitem _ _ _)))
  show wpAny _ _ (Builtin.List.listSubscript? (.ref sl) >>= _) _ _ s
  refine wpAny_bind ?_
  unfold Builtin.List.listSubscript?
  refine wpAny_bind (wpAny_specialOf hTs slice_no_index ?_)
  simp only [Option.isNone_none, if_true]
  refine wpAny_pure ?_
  show wpAny _ _ (typeOf (.ref sl) >>= _) _ _ s
  refine wpAny_bind (wpAny_typeOf hTs ?_)
  first
    | rw [if_neg (by decide)]
    | refine PySem.W.KFB.if_not (by decide) ?_
  rw [listSliceParts_eq]
  refine wpAny_bind (wpAny_bind (wpAny_field hos hds (x := .none) rfl (wpAny_bind (wpAny_listPart .none ?_))))
  rw [if_neg hstep]
  refine wpAny_bind (wpAny_field hos hds (x := vl) rfl (wpAny_bind (wpAny_listPart pl ?_)))
  refine wpAny_bind (wpAny_field hos hds (x := vu) rfl (wpAny_bind (wpAny_listPart pu (wpAny_pure ?_))))
  first
    | simp only [hsame, Bool.false_eq_true, if_false]
    | refine PySem.W.KFB.if_not hsame ?_
    | (dsimp only
       rw [if_neg (by rw [hsame]; exact Bool.false_ne_true)])
  refine wpAny_bind (m := Builtin.List.listAllItems (.ref b) "must assign iterable to extended slice") ?_
  unfold Builtin.List.listAllItems
  refine wpAny_bind (wpAny_typeOf hb.typeIs ?_)
  first
    | refine PySem.W.KFB.if_so (by decide) ?_
    | rw [if_pos (by decide)]
    | simp only [beq_self_eq_true, Bool.true_or, if_true]
  unfold Builtin.List.listItems
  refine wpAny_bind (wpAny_seqItems e2 rfl (wpAny_pure ?_))
  refine wpAny_bind (wpAny_bind (wpAny_seqItems e rfl (wpAny_pure ?_)))
  refine wpAny_bind (wpAny_of_eq ((sliceIndices_raw (some (a : Int)) (some (c : Int)) none items.size (by simp)).trans (congrArg (pure : Int × Int × Int → Sem (Int × Int × Int)) (bounds_run hac hc))) ?_)
  show wpAny _ _ (if ((1 : Int) == 1) = true then _ else _) _ _ s
  rw [if_pos (by decide)]
  refine wpAny_bind (wpAny_rule ?_)
  first
    | simp only [notLongL hsz, Bool.false_eq_true, if_false]
    | refine PySem.W.KFB.if_not (notLongL hsz) ?_
  first | refine wpAny_bind (wpAny_pure ?_) | skip
  show wpAny _ _ (updateSeq l (fun xs => xs.extract 0 ((a : Int)).toNat ++ new ++ xs.extract (max (a : Int) (c : Int)).toNat xs.size) >>= _) _ _ s
  rw [hmax, Int.toNat_natCast]
  refine wpAny_bind (wpAny_updateSeq (hz := Nat.le_trans (Nat.le_add_right _ _) hsz) (_hz' := hz') e rfl ?_)
  refine wpAny_bind (wpAny_letGo ?_)
  first
    | exact wpAny_bind (wpAny_pure (wpAny_pure ⟨.none, rfl, wpAny_pure h⟩))
    | exact wpAny_pure ⟨.none, rfl, wpAny_pure h⟩
end

section
variable {X : Cx}
/-- xs[a:c] = ys of another list, at the value level: sl is the slice object that was just made -/
theorem set_slice {pins : List (Addr × Obj)} {s : Shared} {σ : St} {H : Hp} {l b sl : Addr} {xs ys : List V} {a c : Int} {vl vu : Value} {Q : Unit → Shared → Prop} (I : Inv X pins σ H s)
    (hH : H l = some (.lst xs)) (hB : H b = some (.lst ys)) (hne : l ≠ b) (hs : s.heap.IsSliceOf sl vl vu .none) (ra : RelV (.int a) vl) (rc : RelV (.int c) vu) (h0 : 0 ≤ a) (hac : a ≤ c) (hc : c ≤ xs.length)
    (hz : xs.length + ys.length ≤ sizeLine) (h : ∀ s', Inv X pins σ (upd H l (.lst (xs.take a.toNat ++ ys ++ xs.drop c.toNat))) s' → Q () s') :
    wpAny (model X.prog X.w) X.A (setItem (.ref l) (.ref sl) (.ref b)) Q X.xe s := by
  obtain ⟨ta, rfl⟩ := ra
  obtain ⟨tc, rfl⟩ := rc
  obtain ⟨z, its, n, r, hl, e⟩ := I.lstM hH
  obtain ⟨z2, its2, n2, r2, hl2, e2⟩ := I.lstM hB
  obtain ⟨a', rfl⟩ := Int.eq_ofNat_of_zero_le h0
  obtain ⟨c', rfl⟩ := Int.eq_ofNat_of_zero_le (Int.le_trans h0 hac)
  simp only [Int.toNat_natCast] at h
  refine setItem_slice (a := a') (c := c') e e2 hne hs (.int _ _) (.int _ _) (by omega) (by rw [List.size_toArray]; omega) (by rw [List.size_toArray, List.size_toArray]; omega) (h _ ?_)
  refine I.lset (its' := its.take a' ++ its2 ++ its.drop c') (t' := s.toks) hH e ?_ (Vals.append (Vals.append (r.take _) r2) (r.drop _)) ?_
  · exact splice_eq its its2 a' c'
  · rw [List.length_append, List.length_append, List.length_take, List.length_drop]
    omega
end
end L2

namespace Att
open PySem PySem.W PySem.Calls PyProof.Rows

/-! ### the script -/
theorem ints_of_wellAll {P : Params} {h : Heap} : ∀ (ns : List Int) (vs : List Value), WellAll P h vs (ns.map WData.int) → IntsAre vs ns := by
  intro ns
  induction ns with
  | nil =>
    intro vs w
    rw [List.map_nil] at w
    cases w
    exact .nil
  | cons n ns ih =>
    intro vs w
    rw [List.map_cons] at w
    cases w with
    | cons a b =>
      cases a
      exact .cons _ _ (ih _ b)

theorem script_of {l : OpenLaw} {n : Nat} (hn : l.most = some n) {P : Params} {h : Heap} {args : List WData} {vals : List Value}
    (hpre : l.row.toRowW.claim.pre args = true) (hwl : WellAll P h vals args) :
    ∃ a vs ns, vals = [Value.ref a] ∧ args = [WData.list (ns.map WData.int)] ∧ h.get? a = some { cls := .type "list", data := .seq vs.toArray } ∧ IntsAre vs ns ∧ ns.length ≤ n := by
  have hsh : WShape.hasAll [] args [.list .int] = true := (pre_splitW hpre).1
  have hc : l.pre.holds [] { args := args } = true := (pre_splitW hpre).2
  obtain ⟨d, r, rfl, h1, h2⟩ := hasAllW_cons hsh
  obtain rfl := hasAllW_nil h2
  obtain ⟨xs, rfl, h3⟩ := hasW_list h1
  obtain ⟨ns, rfl⟩ := items_int h3
  have hlen : ns.length ≤ n := by
    unfold OpenLaw.pre at hc
    have h4 : (WTm.not (.lt (.lit (.int (n : Int))) (.len (.arg 0)))).holds [] { args := [.list (ns.map .int)] } = true := by
      have h4 := (holds_andW hc).1
      rw [hn] at h4
      exact h4
    have h5 := condW_of h4 (w_not (w_lt w_lit (w_len_list (w_arg rfl))))
    rw [List.length_map] at h5
    refine Nat.le_of_not_lt fun q => ?_
    have q' : (n : Int) < ((ns.length : Nat) : Int) := by omega
    first
      | (rw [decide_eq_true q'] at h5; exact absurd h5 (by decide))
      | (simp at h5; omega)
  cases hwl with
  | cons w1 w2 =>
    cases w2
    cases w1 with
    | list ho hall => exact ⟨_, _, ns, rfl, rfl, ho, ints_of_wellAll ns _ hall, hlen⟩

theorem post_true (l : OpenLaw) (args : List WData) : l.row.toRowW.claim.post args (.bool true) args = true :=
  postW_of (r := l.row.toRowW) (X := (true == true))
    (show WShape.has [] (.bool true) .bool = true by first | rfl | decide | simp [WShape.has, WShape.arms, WShape.armsAll])
    (show (WTm.eq .res (.lit (.bool true))).value [] { args := args, res := some (.bool true), after := args } = some (.bool (true == true)) from w_eq_bool (w_res rfl) w_lit) rfl

/-! ### the attachment: holds_open's last premise (the goal 'hc' behind k_head) from a wpAny of the law's body -/
theorem attach {l : OpenLaw} {n : Nat} {q : Program} {loose : List Str} {XP : (Str → Option Value) → Heap → Prop} {YP : World → Heap → Prop} {d : DefRec} {x : Str}
    (hn : l.most = some n) (hdf : d.params.defaults = [])
    (hbind : ∀ pm cd doc v : Value, bindArgs (docDef d.name d.params d.body d.scope pm cd doc) ⟨[v], []⟩ = pure [(x, v)])
    (hx : d.scope.names.lookup x = some .local ∨ d.scope.names.lookup x = some .cell)
    (hk : d.scope.kind = .function) (hco : d.scope.isCoroutine = false) (hgen : d.scope.isGenerator = false)
    (body : ∀ (w : World) (s₀ s₁ s : Shared) (mg mb : Str → Option Value) (fa : Addr) (o : Obj) (pm cd doc : Value) (a : Addr) (vs : List Value) (ns : List Int),
      Ground q loose [] XP w s₀ mg mb s₁.heap → YP w s₁.heap →
      s₁.heap.get? fa = some o → o.data = .func (docDef d.name d.params d.body d.scope pm cd doc) → s₁.heap.CodeRec cd d.name → mg d.name = some (.ref fa) →
      s₁.heap.get? a = some { cls := .type "list", data := .seq vs.toArray } → IntsAre vs ns → ns.length ≤ n →
      s.gens = #[] → s.os = s₁.os →
      Fr s₁.heap s₁.heap.objs.size s.heap (bindL (envOfC d.name d.scope s₁.heap.objs.size fa cd).kindOf [(x, .ref a)] fun _ => none) →
      Cl s₁.heap.objs.size (cellsFrom (s₁.heap.objs.size + 1) d.scope.names []) s.heap (bindC (envOfC d.name d.scope s₁.heap.objs.size fa cd).kindOf [(x, .ref a)] fun _ => none) →
      wpAny (model l.prog w) (callerA.deeper (envOfC d.name d.scope s₁.heap.objs.size fa cd)) (execs d.body (envOfC d.name d.scope s₁.heap.objs.size fa cd))
        (fun f s' => f = .ret (.bool true) ∧ OldK s₁.heap s'.heap ∧ s'.os = s₁.os ∧ AllBare s'.gens) (fun _ _ => False) s) :
    WalkO q loose XP YP l.row.toRowW d [] (fun f vs => PySem.call f vs) := by
  intro w s₀ s₁ mg mb G Y fa o pm cd doc dV kV ho hd hcd hD hmg hg args vals as hpre hlay hrd hwl hlo
  obtain rfl : dV = .none := Dflts.none hD hdf
  obtain rfl : kV = .none := Dflts.noKw hD
  obtain ⟨a, vs, ns, rfl, rfl, hobj, hints, hlen⟩ := script_of hn hpre hwl
  refine enter_call ?_
  refine call_cells_ret (o := o) (by rw [depth_caller]; decide) ho (fd_plain hd) G.T.nolimit hcd (hbind pm cd doc (.ref a)) (fun y hy => ?_) (fun h₁ tk F X => ?_) hco hgen hk
  · obtain rfl : y = (x, Value.ref a) := List.mem_singleton.mp hy
    rcases hx with e | e
    · exact .inl e
    · exact .inr ⟨e, cellsFrom_some _ _ _ (.inl e)⟩
  · refine wpAny_mono (body w s₀ s₁ { s₁ with heap := h₁, toks := tk } mg mb fa o pm cd doc a vs ns G Y ho (fd_plain hd) hcd hmg hobj hints hlen hg rfl F X) (fun f s' hq => ?_) (fun _ _ hq => hq)
    obtain ⟨rfl, h2, h3, h4⟩ := hq
    exact ⟨.inl ⟨.bool true, .bool true, [], rfl, fun _ => rfl, .bool true, post_true l _, fun _ => ⟨List.Pairwise.nil, fun _ hm => (nomatch hm)⟩⟩, h2, h3, h4⟩

/-- the same from a codeAny of the CALL (for a layer whose function contracts speak of calls) -/
theorem attach_call {l : OpenLaw} {n : Nat} {q : Program} {loose : List Str} {XP : (Str → Option Value) → Heap → Prop} {YP : World → Heap → Prop} {d : DefRec}
    (hn : l.most = some n) (hdf : d.params.defaults = [])
    (call : ∀ (w : World) (s₀ s₁ : Shared) (mg mb : Str → Option Value) (fa : Addr) (o : Obj) (pm cd doc : Value) (a : Addr) (vs : List Value) (ns : List Int),
      Ground q loose [] XP w s₀ mg mb s₁.heap → YP w s₁.heap →
      s₁.heap.get? fa = some o → o.data = .func (docDef d.name d.params d.body d.scope pm cd doc) → s₁.heap.CodeRec cd d.name → mg d.name = some (.ref fa) →
      s₁.heap.get? a = some { cls := .type "list", data := .seq vs.toArray } → IntsAre vs ns → ns.length ≤ n → s₁.gens = #[] →
      codeAny (model l.prog w) callerA (.call (.ref fa) ⟨[.ref a], []⟩) (fun r s' => r = .ok (.ret (.bool true)) ∧ OldK s₁.heap s'.heap ∧ s'.os = s₁.os ∧ AllBare s'.gens) s₁) :
    WalkO q loose XP YP l.row.toRowW d [] (fun f vs => PySem.call f vs) := by
  intro w s₀ s₁ mg mb G Y fa o pm cd doc dV kV ho hd hcd hD hmg hg args vals as hpre hlay hrd hwl hlo
  obtain rfl : dV = .none := Dflts.none hD hdf
  obtain rfl : kV = .none := Dflts.noKw hD
  obtain ⟨a, vs, ns, rfl, rfl, hobj, hints, hlen⟩ := script_of hn hpre hwl
  refine enter_call (codeAny_mono (call w s₀ s₁ mg mb fa o pm cd doc a vs ns G Y ho (fd_plain hd) hcd hmg hobj hints hlen hg) fun r s' hq => ?_)
  obtain ⟨rfl, h2, h3, h4⟩ := hq
  exact ⟨.inl ⟨.bool true, .bool true, [], rfl, fun _ => rfl, .bool true, post_true l _, fun _ => ⟨List.Pairwise.nil, fun _ hm => (nomatch hm)⟩⟩, h2, h3, h4⟩

/-- the same where the top left finished generators (o_head chose holds_openN): nothing may have changed at all and no generator may be left -/
theorem attachN {l : OpenLaw} {n : Nat} {q : Program} {loose : List Str} {XP : (Str → Option Value) → Heap → Prop} {YP : World → Heap → Prop} {d : DefRec} {x : Str}
    (hn : l.most = some n) (hdf : d.params.defaults = [])
    (hbind : ∀ pm cd doc v : Value, bindArgs (docDef d.name d.params d.body d.scope pm cd doc) ⟨[v], []⟩ = pure [(x, v)])
    (hx : d.scope.names.lookup x = some .local ∨ d.scope.names.lookup x = some .cell)
    (hk : d.scope.kind = .function) (hco : d.scope.isCoroutine = false) (hgen : d.scope.isGenerator = false)
    (body : ∀ (w : World) (s₀ s₁ s : Shared) (mg mb : Str → Option Value) (fa : Addr) (o : Obj) (pm cd doc : Value) (a : Addr) (vs : List Value) (ns : List Int),
      Ground q loose [] XP w s₀ mg mb s₁.heap → YP w s₁.heap →
      s₁.heap.get? fa = some o → o.data = .func (docDef d.name d.params d.body d.scope pm cd doc) → s₁.heap.CodeRec cd d.name → mg d.name = some (.ref fa) →
      s₁.heap.get? a = some { cls := .type "list", data := .seq vs.toArray } → IntsAre vs ns → ns.length ≤ n →
      s.gens = #[] → s.os = s₁.os →
      Fr s₁.heap s₁.heap.objs.size s.heap (bindL (envOfC d.name d.scope s₁.heap.objs.size fa cd).kindOf [(x, .ref a)] fun _ => none) →
      Cl s₁.heap.objs.size (cellsFrom (s₁.heap.objs.size + 1) d.scope.names []) s.heap (bindC (envOfC d.name d.scope s₁.heap.objs.size fa cd).kindOf [(x, .ref a)] fun _ => none) →
      wpAny (model l.prog w) (callerA.deeper (envOfC d.name d.scope s₁.heap.objs.size fa cd)) (execs d.body (envOfC d.name d.scope s₁.heap.objs.size fa cd))
        (fun f s' => f = .ret (.bool true) ∧ (∀ b o, s₁.heap.get? b = some o → s'.heap.get? b = some o) ∧ s'.os = s₁.os ∧ s'.gens = #[]) (fun _ _ => False) s) :
    WalkN q loose XP YP l.row.toRowW d [] (fun f vs => PySem.call f vs) := by
  intro w s₀ s₁ mg mb G Y fa o pm cd doc dV kV ho hd hcd hD hmg hg args vals as hpre hlay hrd hwl hlo
  obtain rfl : dV = .none := Dflts.none hD hdf
  obtain rfl : kV = .none := Dflts.noKw hD
  obtain ⟨a, vs, ns, rfl, rfl, hobj, hints, hlen⟩ := script_of hn hpre hwl
  refine enter_callW ?_
  refine call_cells_ret (o := o) (by rw [depth_caller]; decide) ho (fd_plain hd) G.T.nolimit hcd (hbind pm cd doc (.ref a)) (fun y hy => ?_) (fun h₁ tk F X => ?_) hco hgen hk
  · obtain rfl : y = (x, Value.ref a) := List.mem_singleton.mp hy
    rcases hx with e | e
    · exact .inl e
    · exact .inr ⟨e, cellsFrom_some _ _ _ (.inl e)⟩
  · refine wpAny_mono (body w s₀ s₁ { s₁ with heap := h₁, toks := tk } mg mb fa o pm cd doc a vs ns G Y ho (fd_plain hd) hcd hmg hobj hints hlen hg rfl F X) (fun f s' hq => ?_) (fun _ _ hq => hq)
    obtain ⟨rfl, h2, h3, h4⟩ := hq
    exact ⟨.inl ⟨.bool true, .bool true, [], rfl, fun _ => rfl, .bool true, post_true l _, fun _ => ⟨List.Pairwise.nil, fun _ hm => (nomatch hm)⟩⟩, h2, h3, h4⟩

/-! ### rules over ANY heap (no ledger) from facts about the written part K: the library's own take a ledger (News) for what they write -/
section
variable {prog : Program} {w : World} {A : Around} {E : Value → Shared → Prop} {s : Shared} {K : Frag}

/-- a def of the module, or a method (qual 'C.m'), entered: the frame is the next address; cells behind it -/
theorem call_fn {R : Result → Shared → Prop} {name qual : Str} {params : Arguments} {body : List Stmt} {scope : Scope} {dV kV doc pm cdv ct oc : Value} {an od : Option Addr} {osl : Array (Option Value)} {f : Addr} {args : Args} {binds : List (Str × Value)}
    (X : K.In s.heap) (hlim : s.heap.NoLimit) (ho : K.lookup f = some ⟨oc, od, .func (fnOf name qual params body scope dV kV doc pm an cdv ct), osl⟩) (hcd : codeIn K cdv qual = true) (hroom : A.depth < recursionLimit)
    (hbind : BindsTo s (fnOf name qual params body scope dV kV doc pm an cdv ct) args binds)
    (hkind : (binds.all fun y => scope.names.lookup y.1 == some .local || scope.names.lookup y.1 == some .cell) = true)
    (h : ∀ s₁, InCallC s s.heap.objs.size (bindL (envOfC qual scope s.heap.objs.size f cdv).kindOf binds fun _ => none) (cellsFrom (s.heap.objs.size + 1) scope.names [])
        (bindC (envOfC qual scope s.heap.objs.size f cdv).kindOf binds fun _ => none) s₁ →
      wpAny (model prog w) (A.deeper (envOfC qual scope s.heap.objs.size f cdv)) (execs body (envOfC qual scope s.heap.objs.size f cdv))
        (fun fl s' => R (.ok (.ret (match fl with | .ret v => v | _ => .none))) s')
        (fun e s' => wpAny (model prog w) (A.deeper (envOfC qual scope s.heap.objs.size f cdv)) (leaving (envOfC qual scope s.heap.objs.size f cdv) e) (fun _ s'' => R (.error e) s'') (fun e' s'' => R (.error e') s'') s') s₁)
    (hco : scope.isCoroutine = false) (hgen : scope.isGenerator = false) (hk : scope.kind = .function) : codeAny (model prog w) A (.call (.ref f) args) R s := by
  refine codeAny_call_function hroom (X _ _ ho) rfl hco hgen rfl (codeRec_of X hcd) (hbind _ _ _ _ ?_)
  refine wpAny_newFunctionEnv_cells hk (kindsX hkind _) fun env he s₁ x => ?_
  subst he
  exact ⟨hlim.keeps x.toInCall.keep, codeAny_func (h s₁ x)⟩

/-- C(..): dict at size, instance at size + 1, then __init__ -/
theorem make_obj {R : Result → Shared → Prop} {C fI : Addr} {rest : List Value} {kw : List (Str × Value)}
    (X : K.In s.heap) (hm : makesIn K C = true) (hi : findIn K (.ref C) "__init__" = some (some (.ref fI))) (hf : isFn K (.ref fI) = true)
    (h : codeAny (model prog w) (A.under (.builtin "type.__call__" ⟨.ref C :: rest, kw⟩)) (.call (.ref fI) ⟨.ref (s.heap.objs.size + 1) :: rest, kw⟩) (InitBack (s.heap.objs.size + 1) R)
      { s with heap := (s.heap.push emptyDict).push (instObj C s.heap.objs.size) }) : codeAny (model prog w) A (.call (.ref C) ⟨rest, kw⟩) R s := by
  obtain ⟨hh, g, d, t, os⟩ := s
  exact make_core (makes_of X hm) (looks_findIn X hi) (fun self => bind_fn X self (beq_iff_eq.mp hf)) (.inl rfl) h

/-- x.name where the instance's dict holds the name and the class does not -/
theorem get_field {x C : Addr} {ox : Obj} {es : List DictEntry} {n : Nat} {name : Str} {expr : Bool} {v : Value} {Q : Value → Shared → Prop}
    (X : K.In s.heap) (I : PySem.W.InstAt s.heap x ox C (some (dictOf es n))) (hg : plainGet K C name = true) (hh : hasDictIn K C = true) (ha : findIn K (.ref C) name = some none)
    (hl : getL name es = some (some v)) (hv : handedIn v = true) (h : Q v { s with toks := s.toks + 1 }) : wpAny (model prog w) A (getAttr (.ref x) name expr) Q E s :=
  get_value X I (plainGet_of hg).1 (findObj_own hh ha rfl hl) hv h

/-- x.m(..): the method found in the class -/
theorem get_method {x C f : Addr} {ox : Obj} {es : List DictEntry} {n : Nat} {name : Str} {pl : Sem Bool} {Q : Value × List Value → Shared → Prop}
    (X : K.In s.heap) (I : PySem.W.InstAt s.heap x ox C (some (dictOf es n))) (hg : plainGet K C name = true) (hf : findIn K (.ref C) name = some (some (.ref f))) (ht : isFn K (.ref f) = true)
    (hl : getL name es = some none) (h : Q (.ref f, [.ref x]) s) : wpAny (model prog w) A (getMethod (.ref x) name pl) Q E s :=
  method_fn X I (plainGet_of hg).1 (plainGet_of hg).2 hf (beq_iff_eq.mp ht) (by show (lookIn name (dictOf es n)).map _ = _; rw [lookIn_dict, hl]; rfl) h

/-! the whole heap as the ledger: makes every rule that writes through a ledger a rule over any heap -/
def noObjs (h : Heap) : Heap := { h with objs := #[] }
theorem noObjs_get (h : Heap) (b : Addr) : (noObjs h).get? b = none := by
  cases e : (noObjs h).get? b with
  | none => rfl
  | some o => exact absurd (Heap.lt_size e) (Nat.not_lt_zero _)
def ledger (h : Heap) (L d : Addr) : List (Addr × Obj) := (List.range h.objs.size).filterMap fun a => if a = L ∨ a = d then none else (h.get? a).map fun o => (a, o)
theorem mem_ledger {h : Heap} {L d a : Addr} {o : Obj} : (a, o) ∈ ledger h L d ↔ a ≠ L ∧ a ≠ d ∧ h.get? a = some o := by
  unfold ledger
  rw [List.mem_filterMap]
  constructor
  · rintro ⟨b, _, e⟩
    split at e
    · cases e
    · rename_i hb
      obtain ⟨o', ho, e'⟩ := Option.map_eq_some_iff.mp e
      cases e'
      exact ⟨fun q => hb (.inl q), fun q => hb (.inr q), ho⟩
  · rintro ⟨n1, n2, ho⟩
    refine ⟨a, List.mem_range.mpr (Heap.lt_size ho), ?_⟩
    rw [if_neg (show ¬ (a = L ∨ a = d) from fun q => q.elim n1 n2), ho] <;> rfl
theorem news_ledger {h : Heap} {L d : Addr} {od : Obj} (hne : d ≠ L) (ho : h.get? d = some od) : News (noObjs h) L h ([] ++ (d, od) :: ledger h L d) := by
  rintro ⟨a, o⟩ hp
  rcases List.mem_cons.mp hp with e | hp
  · cases e
    exact ⟨ho, hne, noObjs_get _ _⟩
  · obtain ⟨n1, n2, e⟩ := mem_ledger.mp hp
    exact ⟨e, n1, noObjs_get _ _⟩
theorem fr_all {h : Heap} {L : Addr} {m : Str → Option Value} (n : h.Ns L m) : Fr (noObjs h) L h m :=
  ⟨n, fun b o e => (by rw [noObjs_get] at e; cases e), Nat.zero_le _⟩
/-- Upd of the head entry (for append_K, setItem_K ..) -/
theorem upd_ledger {h : Heap} {L d : Addr} {o o' : Obj} : Upd d o o' ((d, o) :: ledger h L d) ((d, o') :: ledger h L d) :=
  .head fun ⟨_, _⟩ hp => (mem_ledger.mp hp).2.1

/-- x.name = v over any heap: L is any namespace of the heap (the frame's, say): its map stays, its object is not told; all else but the dict stays -/
theorem set_field {x C dx L : Addr} {ox : Obj} {m : Str → Option Value} {es es' : List DictEntry} {n n' : Nat} {name : Str} {v : Value} {Q : Unit → Shared → Prop}
    (X : K.In s.heap) (I : PySem.W.InstAt s.heap x ox C (some (dictOf es n))) (hd : ox.dict = some dx) (hL : s.heap.Ns L m) (hne : dx ≠ L)
    (hs : findIn K (.ref C) "__setattr__" = some (some (.builtin "object.__setattr__"))) (hp : plainOver K C = true) (ht : takerIn K C name = some none) (hh : hasDictIn K C = true) (hl : (getL name es).isSome = true)
    (e : (putL name (PyData.keyHash w.params name) (.str name (s.toks + 1)) v es, putN name es n) = (es', n')) (hz : es'.length ≤ 1000)
    (h : ∀ h' : Heap, h'.Ns L m → h'.get? dx = some (dictOf es' n') → (∀ b o, b ≠ dx → b ≠ L → s.heap.get? b = some o → h'.get? b = some o) → Q () { s with heap := h', toks := s.toks + 2 }) :
    wpAny (model prog w) A (setAttr (.ref x) name v) Q E s := by
  obtain ⟨e1, e2⟩ := Prod.mk.inj e
  have hdx : s.heap.get? dx = some (dictOf es n) := by
    have := I.dict
    rw [hd] at this
    exact this
  refine set_plain X I hs (osa_dict (s := { s with toks := s.toks + 1 }) (h₀ := noObjs s.heap) (L := L) (m := m) (od := dictOf es n) (od' := dictOf es' n') (es := es') (n := n') (pre := []) (post := ledger s.heap L dx)
    (fr_all hL) (news_ledger hne hdx) X I hd hp ht hh hl (fun _ q => nomatch q) (fun ⟨_, _⟩ q => (mem_ledger.mp q).2.1) (by rw [putName_dict, e1, e2]) rfl hz fun h' F' N' => ?_)
  exact h h' F'.ns (N'.get (List.Mem.head _)) fun b o n1 n2 ho => N'.get (List.Mem.tail _ (mem_ledger.mpr ⟨n2, n1, ho⟩))
end
end Att

namespace L2
open PySem PySem.Spec PyProof.Rows

theorem vals_ints : ∀ {vs : List Value} {ns : List Int}, IntsAre vs ns → Vals (ns.map V.int) vs
  | _, _, .nil => .nil
  | _, _, .cons n t h => .cons ⟨t, rfl⟩ (vals_ints h)

/-- nothing is tracked but the script, known to the object (or it is an object of the module) -/
def Only (H : Hp) : Prop := ∀ b, H b = none ∨ ∃ o xs, H b = some (.frz o (.lst xs))

/-- THE HEAD: the law's promise, at the heap behind the top. F, the promise of the law's def, may use that base is part of the heap (so K.In base, base.Ns mainGlobals mg stand in Mod) -/
theorem law_call {P : Program} {w : World} {K : PySem.W.Frag} {mg mb : Str → Option Value} {CX : CXT} {k : Nat} {fa a : Addr} {fd : FuncData} {x : Str} {sp : Sp} {s₁ : Shared} {vs : List Value} {ns : List Int}
    (KX : K.In s₁.heap) (hns : s₁.heap.Ns mainGlobals mg) (hb : s₁.heap.Ns builtinsNs mb) (hbb : ∀ x : Str, x ≠ "__name__" → mb x = bootBuiltins x) (hlim : s₁.heap.NoLimit) (hg : s₁.gens = #[])
    (ha : s₁.heap.get? a = some { cls := .type "list", data := .seq vs.toArray }) (hi : IntsAre vs ns) (hl : ns.length ≤ sizeLine) (hr : Room k callerA)
    (F : ∀ base : Heap, K.In base → base.Ns mainGlobals mg → FnOk P w K mg base CX k fa fd [x] sp) (hbind : ∀ (s : Shared) (u : Value), BindsTo s fd ⟨[u], []⟩ [(x, u)])
    (hsp : ∀ H : Hp, Only H → SqL K H a (ns.map V.int) → sp [.ref a] H (fun v _ => v = .bl true) fun _ _ _ => False)
    (hCX : ∀ H e s', CX [] H s₁ (fun _ _ _ => False) e s' → False) :
    codeAny (model P w) callerA (.call (.ref fa) ⟨[.ref a], []⟩) (fun r s' => r = .ok (.ret (.bool true)) ∧ OldK s₁.heap s'.heap ∧ s'.os = s₁.os ∧ AllBare s'.gens) s₁ := by
  have rv := vals_ints hi
  have lenV := hi.length
  -- from an abstract heap in which nothing but the script may be tracked
  have core : ∀ H : Hp, Only H → SqL K H a (ns.map V.int) → HOk P w H s₁.heap → (∀ b, H b ≠ none → b = a) → (H a ≠ none → K.lookup a = none) →
      codeAny (model P w) callerA (.call (.ref fa) ⟨[.ref a], []⟩) (fun r s' => r = .ok (.ret (.bool true)) ∧ OldK s₁.heap s'.heap ∧ s'.os = s₁.os ∧ AllBare s'.gens) s₁ := by
    intro H hO hS hok hA hK
    have base_of : ∀ {b : Addr} {o : Obj}, s₁.heap.get? b = some o → H b = none → (hidT s₁.heap H).get? b = some o := fun e n => hidT_get e n
    have noA : ∀ {b : Addr} {o : Obj} {es : Array DictEntry} {ep : Nat}, s₁.heap.get? b = some o → o.data = .dict es ep → H b = none := fun {b o es ep} e d => by
      cases q : H b with
      | none => rfl
      | some u =>
        have e' : b = a := hA b (by rw [q]; simp)
        subst e'
        rw [ha] at e; cases e
        have d' : Data.seq vs.toArray _ = Data.dict es ep := d
        cases d'
    have nsK : ∀ {b : Addr} {m : Str → Option Value}, s₁.heap.Ns b m → (hidT s₁.heap H).Ns b m := fun {b m} ⟨o, es, ep, e, d, r⟩ => ⟨o, es, ep, base_of e (noA e d), d, r⟩
    have hKb : K.In (hidT s₁.heap H) := fun b o e => base_of (KX b o e) (by
      cases q : H b with
      | none => rfl
      | some u =>
        have e' : b = a := hA b (by rw [q]; simp)
        subst e'
        rw [hK (by rw [q]; simp)] at e; cases e)
    have hM : Mod K mg (hidT s₁.heap H) := ⟨hKb, nsK hns, ⟨mb, nsK hb, hbb⟩, let ⟨mc, h1, h2⟩ := hlim; ⟨mc, nsK h1, h2⟩⟩
    have e0 : Env0 P w K mg (hidT s₁.heap H) callerA [] s₁ H := ⟨rfl, hM, fun b o e => of_hidT e, Nat.le_of_eq (hidT_size _ _), trivial, fun b hb => absurd (show b ∈ ([] : List Addr) from hb) (by simp), hok, .of_eq hg⟩
    refine codeAny_mono ((F _ hKb (nsK hns)).run callerA [] s₁ H ⟨[.ref a], []⟩ [.ref a] [.ref a] _ _ hr e0 (hbind s₁ (.ref a)) (.cons rfl .nil) (hsp H hO hS)) fun r s' h => ?_
    cases r with
    | error e => exact (hCX H e s' h).elim
    | ok fl =>
      cases fl with
      | next => exact False.elim h
      | brk => exact False.elim h
      | cont => exact False.elim h
      | ret u =>
        obtain ⟨v, H', os, bare, un, hok', r', q⟩ := h
        have q' : v = .bl true := q
        subst q'
        obtain rfl : u = Value.bool true := r'
        refine ⟨rfl, OldK.of_keep fun b o e => ?_, os, bare⟩
        cases q : H b with
        | none => exact un.keep b o e q (by intro z; exact absurd (show b ∈ ([] : List Addr) from z) (by simp)) (by simp)
        | some u =>
          rcases hO b with z | ⟨ob, xs, z⟩
          · rw [q] at z; cases z
          · have z2 := un.frzs b ob _ z
            obtain ⟨e1, _⟩ := hok b _ z
            obtain ⟨e2, _⟩ := hok' b _ z2
            rw [e] at e1; cases e1
            exact e2
  cases hk : K.lookup a with
  | some o =>
    -- the script is one of the module's own objects
    have e := KX a o hk
    rw [ha] at e
    cases e
    refine core (fun _ => none) (fun _ => .inl rfl) (.inr ⟨_, vs.toArray, _, hk, rfl, rfl, rfl, by rw [List.size_toArray, lenV]; exact hl, by simpa using rv⟩) (fun b u z => by have z' : (none : Option HO) = some u := z; cases z') (fun b z => absurd rfl z) fun z => absurd rfl z
  | none =>
    refine core (fun b => if b = a then some (.frz { cls := .type "list", data := .seq vs.toArray } (.lst (ns.map V.int))) else none) (fun b => ?_) (.inl (.inr ⟨{ cls := .type "list", data := .seq vs.toArray }, if_pos rfl⟩)) (fun b u z => ?_) (fun b z => ?_) fun _ => hk
    · by_cases hb : b = a
      · exact .inr ⟨_, _, if_pos hb⟩
      · exact .inl (if_neg hb)
    · by_cases hb : b = a
      · have z' := (if_pos hb).symm.trans z
        cases z'
        subst hb
        exact ⟨ha, by rw [List.length_map]; exact hl, vs, _, rv, ha⟩
      · have z' := (if_neg hb).symm.trans z
        cases z'
    · by_cases hb : b = a
      · exact hb
      · exact absurd (if_neg hb) z
end L2

namespace L2
open PySem PySem.Spec PyProof.Rows

abbrev KOf {K : PySem.W.Frag} {h : Heap} (_ : K.In h) : PySem.W.Frag := K

/-- the goal that k_head leaves (case hc), from the law's promise. F gives the function object fd (K's own) once, then the promise over every base -/
theorem walk_of {l : PySem.W.OpenLaw} {n k : Nat} {q : Program} {loose : List Str} {XP : (Str → Option Value) → Heap → Prop} {YP : World → Heap → Prop} {d : DefRec} {K : Params → PySem.W.Frag} {CX : World → CXT} {sp : World → Sp} {x : Str}
    (hn : l.most = some n) (hn2 : n ≤ sizeLine) (hdf : d.params.defaults = []) (hr : Room k callerA)
    (hY : ∀ (w : World) (h : Heap), YP w h → (K w.params).In h)
    (F : ∀ (w : World) (mg : Str → Option Value) (fa : Addr) (h : Heap), (K w.params).In h → h.Ns mainGlobals mg → mg d.name = some (.ref fa) →
      ∃ fd : FuncData, (∀ (s : Shared) (u : Value), BindsTo s fd ⟨[u], []⟩ [(x, u)]) ∧
        ∀ base : Heap, (K w.params).In base → base.Ns mainGlobals mg → FnOk l.prog w (K w.params) mg base (CX w) k fa fd [x] (sp w))
    (hsp : ∀ (w : World) (H : Hp) (a : Addr) (ns : List Int), ns.length ≤ n → Only H → SqL (K w.params) H a (ns.map V.int) → sp w [.ref a] H (fun v _ => v = .bl true) fun _ _ _ => False)
    (hCX : ∀ (w : World) (H : Hp) (s : Shared) (e : Value) (s' : Shared), CX w [] H s (fun _ _ _ => False) e s' → False) :
    PySem.W.WalkO q loose XP YP l.row.toRowW d [] (fun f vs => PySem.call f vs) := by
  refine Att.attach_call hn hdf fun w s₀ s₁ mg mb fa o pm cd doc a vs ns G Y ho hd hcd hmg hobj hints hlen hg => ?_
  have KX := hY w _ Y
  obtain ⟨fd, hb, hF⟩ := F w mg fa _ KX G.T.g hmg
  exact law_call KX G.T.g G.T.b G.T.builtins G.T.nolimit hg hobj hints (Nat.le_trans hlen hn2) hr hF hb (fun H hO hS => hsp w H a ns hlen hO hS) fun H e s' => hCX w H s₁ e s'
/-- the same where the promise hangs on the written part alone: (sp := My.sp_law), no hole under a binder -/
theorem walk_ofK {l : PySem.W.OpenLaw} {n k : Nat} {q : Program} {loose : List Str} {XP : (Str → Option Value) → Heap → Prop} {YP : World → Heap → Prop} {d : DefRec} {K : Params → PySem.W.Frag} {CX : CXT} {sp : PySem.W.Frag → Sp} {x : Str}
    (hn : l.most = some n) (hn2 : n ≤ sizeLine) (hdf : d.params.defaults = []) (hr : Room k callerA)
    (hY : ∀ (w : World) (h : Heap), YP w h → (K w.params).In h)
    (F : ∀ (w : World) (mg : Str → Option Value) (fa : Addr) (h : Heap), (K w.params).In h → h.Ns mainGlobals mg → mg d.name = some (.ref fa) →
      ∃ fd : FuncData, (∀ (s : Shared) (u : Value), BindsTo s fd ⟨[u], []⟩ [(x, u)]) ∧
        ∀ base : Heap, (K w.params).In base → base.Ns mainGlobals mg → FnOk l.prog w (K w.params) mg base CX k fa fd [x] (sp (K w.params)))
    (hsp : ∀ (K : PySem.W.Frag) (H : Hp) (a : Addr) (ns : List Int), ns.length ≤ n → Only H → SqL K H a (ns.map V.int) → sp K [.ref a] H (fun v _ => v = .bl true) fun _ _ _ => False)
    (hCX : ∀ (H : Hp) (s : Shared) (e : Value) (s' : Shared), CX [] H s (fun _ _ _ => False) e s' → False) :
    PySem.W.WalkO q loose XP YP l.row.toRowW d [] (fun f vs => PySem.call f vs) :=
  walk_of (K := K) (CX := fun _ => CX) (sp := fun w => sp (K w.params)) hn hn2 hdf hr hY F (fun w H a ns h1 h2 h3 => hsp (K w.params) H a ns h1 h2 h3) fun _ H s e s' => hCX H s e s'
end L2

/- THE LAST THEOREM (shape; LID, My.* are yours):
   My.Adr: a structure of the addresses that your layer names (classes, functions); My.Txt K t: a structure (Prop) of the equations over K;
   My.txt_mk : {K} {implicit addresses ..} (e1 : nsIn K mainGlobals "law" = some (some (.ref f))) (e2 : K.lookup f = some ⟨oc, od, .func (fnOf "law" "law" params body scope dV kV doc pm an cdv ct), sl⟩) (e3 : codeIn K cdv "law" = true) .. : ∃ t, My.Txt K t

set_option maxRecDepth 100000 in
set_option maxHeartbeats 0 in
theorem PySem.Challenge.cw_LID_holds : PySem.Challenge.rw_LID.Holds := by
  w_on; o_law; k_head; (case hw => w_witness2)
  k_fill
  refine L2.walk_of (l := PySem.Challenge.rw_LID) (n := 63) (k := 40) (x := "script") (CX := fun w => ..) (sp := fun _ => My.sp_law) rfl (by decide) rfl ⟨rfl, by decide, by decide⟩ (fun w h Y => PySem.W.kIn_of Y) ?F ?S ?C
  case F =>
    intro w mg fa h KX G hmg
    have T : ∃ t, My.Txt (L2.KOf KX) t := by
      dsimp only [L2.KOf]                          -- K must stand as «<heap const> w.params» for k_is
      refine' My.txt_mk ?e1 ?e2 ?e3 ..
      (case e1 => PySem.W.k_is)                    -- in the order: a name -> its address -> its object -> its parts
      (case e2 => PySem.W.k_is)
      ..
    obtain ⟨t, T⟩ := T
    have e0 := hmg.symm.trans (PySem.W.mg_of KX G T.law)
    cases e0                                       -- fa is the law's own address
    exact ⟨_, fun s u => .of_eq rfl, fun base kb nb => My.law_fn T kb nb⟩     -- if «.of_eq rfl» comes too early: refine' ⟨_, ?b, fun base kb nb => My.law_fn T kb nb⟩; exact fun s u => .of_eq rfl
  case S => exact fun w H a ns hl hO hS => ..
  case C => exact ..
(the tactic k_is has no namespace: write k_is) -/

/-! SHORT WORDS over the layer: a def of the text, its body, what a loop and a test want. -/
namespace L2
open PySem PySem.Spec PyProof.Rows

/-! ### the text by places -/
/-- the j-th statement of a class's body -/
def inClass (s : Stmt) (j : Nat) : Stmt := match s with
  | .ClassDef _ _ _ body _ _ _ _ _ _ _ => body.getD j (.Pass ⟨0, 0, 0, 0⟩)
  | _ => .Pass ⟨0, 0, 0, 0⟩
def defArgs (s : Stmt) : Arguments := match s with
  | .FunctionDef _ a _ _ _ _ _ _ _ _ => a
  | _ => { posonlyargs := [], args := [], vararg := none, kwonlyargs := [], kw_defaults := [], kwarg := none, defaults := [] }
def defBody (s : Stmt) : List Stmt := match s with
  | .FunctionDef _ _ b _ _ _ _ _ _ _ => b
  | _ => []
def defScope (s : Stmt) : Scope := match s with
  | .FunctionDef _ _ _ _ _ _ sc _ _ _ => sc
  | _ => { kind := .function, names := [], isGenerator := false, isCoroutine := false }

/-! ### no exception leaves a def -/
abbrev CX0 : CXT := fun _ _ _ _ _ _ => False
abbrev E0 : XK := fun _ _ _ => False
theorem pass0 {X : Cx} : Passes CX0 X E0 := fun _ _ _ _ _ _ _ h => h.elim

/-! ### a def (or method) of the text as it stands behind the top -/
structure Fun (K : PySem.W.Frag) (x qual : Str) (st : Stmt) (f : Addr) (fd : FuncData) : Prop where
  ex : ∃ (oc : Value) (od : Option Addr) (kV doc pm : Value) (an : Option Addr) (cdv ct : Value) (osl : Array (Option Value)),
    fd = PySem.W.fnOf x qual (defArgs st) (defBody st) (defScope st) .none kV doc pm an cdv ct ∧ K.lookup f = some ⟨oc, od, .func fd, osl⟩ ∧ PySem.W.codeIn K cdv qual = true
  kp : PySem.W.keepIn K (.ref f) = true
section
variable {P : Program} {w : World} {K : PySem.W.Frag} {mg : Str → Option Value} {base : Heap}
/-- THE RULE for a def: its body as a term of rules, and the reading of that term -/
theorem Fun.ok {x qual : Str} {st : Stmt} {f : Addr} {fd : FuncData} {N ps : List Str} {k : Nat} {sp : Sp} (F : Fun K x qual st f fd) (S : FnScope N ps (defScope st)) (len : ∀ vs H Q E, sp vs H Q E → vs.length = ps.length)
    (hbody : ∀ (cdv : Value) (A : Around) (outer : List Env) (s : Shared) (H : Hp) (vs : List V) (Q : VK) (E : XK), Room k (A.deeper (envOfC qual (defScope st) s.heap.objs.size f cdv)) → sp vs H Q E →
      ∃ t, PSs (cxOf CX0 P w K mg base N qual (defScope st) f cdv A outer s H E).nox (defBody st) t ∧ t { nx := fun _ H' => Q .non H', rt := Q } (start N vs) H) : FnOk P w K mg base CX0 (k + 1) f fd ps sp := by
  obtain ⟨oc, od, kV, doc, pm, an, cdv, ct, osl, rfl, lk, hcd⟩ := F.ex
  refine fn_of lk hcd S len fun A outer s H vs Q E hr hsp => ?_
  obtain ⟨t, h, q⟩ := hbody cdv A outer s H vs Q E hr hsp
  exact ⟨t, h.nox, q⟩
/-- how its arguments bind (no defaults): h is «fun _ _ _ _ _ _ us hl => match us, hl with | [_, _], _ => rfl», one _ a parameter -/
theorem Fun.binds {x qual : Str} {st : Stmt} {f : Addr} {fd : FuncData} {ps : List Str} (F : Fun K x qual st f fd)
    (h : ∀ (kV doc pm : Value) (an : Option Addr) (cdv ct : Value) (us : List Value), us.length = ps.length → bindArgs (PySem.W.fnOf x qual (defArgs st) (defBody st) (defScope st) .none kV doc pm an cdv ct) ⟨us, []⟩ = pure (ps.zip us)) : Binds K fd ps [] := by
  obtain ⟨oc, od, kV, doc, pm, an, cdv, ct, osl, rfl, lk, hcd⟩ := F.ex
  exact .all (h kV doc pm an cdv ct)
theorem fun_mk {x qual : Str} {st : Stmt} {f : Addr} {oc : Value} {od an : Option Addr} {osl : Array (Option Value)} {kV doc pm cdv ct : Value} (l : K.lookup f = some ⟨oc, od, .func (PySem.W.fnOf x qual (defArgs st) (defBody st) (defScope st) .none kV doc pm an cdv ct), osl⟩)
    (c : PySem.W.codeIn K cdv qual = true) (k : PySem.W.keepIn K (.ref f) = true) : Fun K x qual st f (PySem.W.fnOf x qual (defArgs st) (defBody st) (defScope st) .none kV doc pm an cdv ct) := ⟨⟨oc, od, kV, doc, pm, an, cdv, ct, osl, rfl, l, c⟩, k⟩
end
theorem hu_of {A : Around} {k : Nat} (hr : Room k A) : A.units + 1 < cLine := Nat.lt_of_le_of_lt (Nat.add_le_add_left (by decide : 1 ≤ 64) _) hr.units
theorem small1000 {n : Nat} (h : n ≤ 1000) : n < sizeLine := Nat.lt_of_le_of_lt h (by decide)

/-! ### expressions in short: the name that stands in the i-th slot -/
section
variable {X : Cx}
theorem pv (i : Nat) {x : Str} {pos : Pos} (hN : X.N[i]? = some x := by rfl) (hv : Vis X.env.scope x := by first | exact Or.inl rfl | exact Or.inr (Or.inl rfl) | exact Or.inr (Or.inr rfl)) (hd : (x == ("__debug__" : Str)) = false := by decide)
    (hcd : (x == ("__classdict__" : Str)) = false := by decide) : PE X (.Name x pos) (tVar i) := pe_var hN hv hd hcd
end

/-! ### tests -/
theorem iteF {A B : Prop} (h : B) : if false = true then A else B := by
  rw [if_neg Bool.false_ne_true]
  exact h
theorem iteT {A B : Prop} (h : A) : if true = true then A else B := by
  rw [if_pos rfl]
  exact h
theorem ite2 {c A B : Prop} [Decidable c] (h1 : c → A) (h2 : ¬ c → B) : if c then A else B := by
  by_cases h : c
  · rw [if_pos h]
    exact h1 h
  · rw [if_neg h]
    exact h2 h
theorem iteNS {c A B : Prop} [Decidable c] (hc : c) (h : B) : if (!decide c) = true then A else B := by
  rw [decide_eq_true hc]
  exact iteF h

/-! ### heaps -/
/-- all that was tracked is as it was -/
def Same (H H' : Hp) : Prop := ∀ b o, H b = some o → H' b = some o
theorem Same.refl (H : Hp) : Same H H := fun _ _ h => h
theorem Same.trans {H H1 H2 : Hp} (a : Same H H1) (b : Same H1 H2) : Same H H2 := fun c o h => b c o (a c o h)
theorem Same.free {H H' : Hp} (e : Same H H') {l : Addr} (h : H' l = Option.none) : H l = Option.none := by
  cases q : H l with
  | none => rfl
  | some o =>
    rw [e l o q] at h
    cases h
theorem Same.seq {K : PySem.W.Frag} {H H' : Hp} {a : Addr} {xs : List V} (e : Same H H') (h : SqL K H a xs) : SqL K H' a xs := by
  rcases h with (h | ⟨o, h⟩) | h
  · exact .inl (.inl (e _ _ h))
  · exact .inl (.inr ⟨o, e _ _ h⟩)
  · exact .inr h

end L2

set_option Elab.async false
set_option linter.all false
set_option maxRecDepth 100000
namespace L2
open PySem PySem.Spec PyProof.Rows
/-! own rules over the layer -/
theorem bits_le {x : Int} {n : Nat} (h : x.natAbs < 2 ^ n) : Builtin.Int.intBits x ≤ n := by
  unfold Builtin.Int.intBits
  split
  · exact Nat.zero_le _
  · rename_i hx
    have hx' : x.natAbs ≠ 0 := fun e => hx (by simp [Int.natAbs_eq_zero.mp e])
    have := (Nat.log2_lt hx').mpr h
    omega
theorem mulOk_bits {i j : Int} (h : Builtin.Int.intBits i + Builtin.Int.intBits j ≤ 134217728) : IntMulOk i j := by
  unfold IntMulOk Builtin.Int.intTooBig
  have h' : ¬ ((Builtin.Int.intBits i : Int) + (Builtin.Int.intBits j : Int) > ((bitsLine : Nat) : Int)) := by
    rw [bitsLine_eq]
    omega
  intro z
  rw [Bool.and_eq_true] at z
  exact h' (of_decide_eq_true z.2)
theorem mulOk_small {i j : Int} (h1 : -(2 ^ 64) < i) (h2 : i < 2 ^ 64) : IntMulOk i j := .of_left (intBits_le_64 h1 h2)
theorem mulOk_smallR {i j : Int} (h1 : -(2 ^ 64) < j) (h2 : j < 2 ^ 64) : IntMulOk i j := .of_right (intBits_le_64 h1 h2)
section
variable {X : Cx}
theorem op_mulG : OpR X (binaryOp .Mult) (rI IntMulOk fun i j => .int (i * j)) := opI fun _ _ _ _ _ _ _ hc q => mul_int q hc
def CDivG (_ j : Int) : Prop := j ≠ 0 ∧ j.natAbs.log2 < 9000
theorem op_fdivG : OpR X (binaryOp .FloorDiv) (rI CDivG fun i j => .int (i.fdiv j)) := opI fun _ _ _ _ _ _ _ hc q => floordiv_int hc.1 q (.inl (PyProof.noPylong_of_log2 hc.2))
def CDivP (_ j : Int) : Prop := 0 < j ∧ j.natAbs.log2 < 9000
theorem op_fdivP : OpR X (binaryOp .FloorDiv) (rI CDivP fun i j => .int (i / j)) := opI fun i j _ _ _ _ _ hc q => by
  have h1 : (0 : Int) < j := hc.1
  exact floordiv_int (by omega) (by rw [Int.fdiv_eq_ediv_of_nonneg i (by omega)]; exact q) (.inl (PyProof.noPylong_of_log2 hc.2))
theorem log2_of {j : Int} (h : j.natAbs < 2 ^ 64) : j.natAbs.log2 < 9000 := by
  rcases Nat.eq_zero_or_pos j.natAbs with e | e
  · rw [e]; decide
  · exact Nat.lt_of_lt_of_le ((Nat.log2_lt (Nat.ne_of_gt e)).mpr h) (by decide)
theorem cdivP_small {i j : Int} (h1 : 0 < j) (h2 : j < 2 ^ 64) : CDivP i j := ⟨h1, log2_of (by omega)⟩
theorem cdivG_small {i j : Int} (h1 : j ≠ 0) (h2 : j < 2 ^ 64) (h3 : -(2 ^ 64) < j) : CDivG i j := ⟨h1, log2_of (by omega)⟩
theorem call_isinst : CallR X (.builtin "isinstance") (fun xs H Q => ∃ x n t b, xs = [x, .ty n] ∧ TyOf X.K H x t ∧ PySem.W.kitOne X.K t (.type n) = some b ∧ Q (.bl b) H) := by
  intro pins s σ H xs us Q I r h
  obtain ⟨x, n, t, b, rfl, ty, e, q⟩ := h
  cases r with
  | cons r1 r2 =>
    cases r2 with
    | cons r2 r3 =>
      cases r3
      cases (show _ = Value.type n from r2)
      exact isinst_ok I r1 ty e fun tk => ⟨.bl b, H, I.tok _, rfl, q⟩
theorem kit_self (K : PySem.W.Frag) (t : Value) (h : (t == t) = true := by rfl) : PySem.W.kitOne K t t = some true := by
  unfold PySem.W.kitOne
  rw [if_pos h]
/-- two statements with a word between -/
def tCut (t u : TS) : TS := fun D σ H => ∃ M : St → Hp → Prop, t { D with nx := M } σ H ∧ ∀ σ' H', M σ' H' → u D σ' H'
theorem pss_cut {st : Stmt} {rest : List Stmt} {t u : TS} (h1 : PS X st t) (h2 : PSs X rest u) : PSs X (st :: rest) (tCut t u) := by
  intro pins s σ H D I h
  obtain ⟨M, h, hm⟩ := h
  refine wpAny_execs_cons (thn (h1 pins s σ H { D with nx := M } I h) fun f s1 q => ?_)
  cases f with
  | next =>
    obtain ⟨σ', H', I', q⟩ := q
    exact h2 pins s1 σ' H' D I' (hm _ _ q)
  | ret v => exact q
  | brk => exact q
  | cont => exact q
end
theorem same_new {H : Hp} {p : Addr} (h : H p = none) (o : HO) : Same H (upd H p o) := fun b u q => by rw [upd_ne (ne_of_none q h)]; exact q
theorem same_upd {H H' : Hp} {p : Addr} (s : Same H H') (h : H p = none) (o : HO) : Same H (upd H' p o) := fun b u q => by rw [upd_ne (ne_of_none q h)]; exact s b u q
theorem Same.tup {K : PySem.W.Frag} {H H' : Hp} {a : Addr} {xs : List V} (e : Same H H') (h : SqT K H a xs) : SqT K H' a xs := by
  rcases h with (h | ⟨o, h⟩) | h
  · exact .inl (.inl (e _ _ h))
  · exact .inl (.inr ⟨o, e _ _ h⟩)
  · exact .inr h
theorem ge_of {c : Bool} (h : ¬ c = true) : c = false := Bool.eq_false_iff.mpr h
/-- an item of a list of ints by a place -/
theorem at_ints {ns : List Int} {j : Int} (h0 : 0 ≤ j) (h : j < (ns.length : Int)) : atI (ns.map V.int) j = some (.int (ns.getD j.toNat 0)) := by
  have hk : j.toNat < ns.length := by omega
  have ek : j = ((j.toNat : Nat) : Int) := by omega
  have q : atI (ns.map V.int) ((j.toNat : Nat) : Int) = some (.int ns[j.toNat]) := atI_nat (by rw [List.getElem?_map, List.getElem?_eq_getElem hk] <;> rfl)
  rw [← ek] at q
  rw [q, List.getD_eq_getElem?_getD, List.getElem?_eq_getElem hk]
  rfl
theorem getD_mem {ns : List Int} {P : Int → Prop} (h : ∀ n ∈ ns, P n) {k : Nat} (hk : k < ns.length) : P (ns.getD k 0) := by
  rw [List.getD_eq_getElem?_getD, List.getElem?_eq_getElem hk]
  exact h _ (List.getElem_mem hk)
end L2
namespace L2
open PySem PySem.Spec PyProof.Rows
theorem small_len {n : Nat} (h : n ≤ 100000) : n ≤ sizeLine := Nat.le_trans h (by decide)
end L2
namespace L2
open PySem PySem.Spec PyProof.Rows
theorem itb {b : Bool} {A B : Prop} (h1 : b = true → A) (h2 : b = false → B) : if b = true then A else B := by
  cases b with
  | true => exact iteT (h1 rfl)
  | false => exact iteF (h2 rfl)
theorem itd {c : Prop} [Decidable c] {A B : Prop} (h1 : c → A) (h2 : ¬ c → B) : if decide c = true then A else B :=
  itb (fun h => h1 (of_decide_eq_true h)) (fun h => h2 (of_decide_eq_false h))
theorem itn {c : Prop} [Decidable c] {A B : Prop} (h1 : ¬ c → A) (h2 : c → B) : if (!decide c) = true then A else B :=
  itb (fun h => h1 (of_decide_eq_false (by simpa using h))) (fun h => h2 (of_decide_eq_true (by simpa using h)))
end L2
namespace L2
theorem cpow_small {i j : Int} (h1 : 0 ≤ j) (h2 : j ≤ 1000000) (h3 : i.natAbs < 2 ^ 64) : CPow i j := ⟨h1, h2, h3⟩
end L2
namespace L2
open PySem PySem.Spec PyProof.Rows
theorem cut_ints (ns : List Int) (lo hi : Option Int) : ∃ ms : List Int, cutV (ns.map V.int) lo hi = ms.map V.int ∧ ms.length ≤ ns.length ∧ ∀ m ∈ ms, m ∈ ns := by
  refine ⟨(ns.drop (HT.sIx ns.length 0 lo)).take (HT.sIx ns.length ns.length hi - HT.sIx ns.length 0 lo), ?_, ?_, ?_⟩
  · unfold cutV
    rw [List.length_map, List.map_take, List.map_drop]
  · rw [List.length_take, List.length_drop]
    omega
  · intro m hm
    exact List.mem_of_mem_drop (List.mem_of_mem_take hm)
theorem ints_get {ns : List Int} {i : Nat} {x : V} (h : (ns.map V.int)[i]? = some x) : ∃ z, x = .int z ∧ z ∈ ns ∧ i < ns.length := by
  rw [List.getElem?_map] at h
  cases e : ns[i]? with
  | none =>
    rw [e] at h
    cases h
  | some z =>
    rw [e] at h
    exact ⟨z, (Option.some.inj h).symm, List.mem_of_getElem? e, (List.getElem?_eq_some_iff.mp e).1⟩
end L2
namespace L2
open PySem PySem.Spec PyProof.Rows
theorem upd_keep {H : Hp} {p q : Addr} {o u : HO} (hq : H q = some u) (hp : H p = none) : upd H p o q = some u := by
  rw [upd_ne (ne_of_none hq hp)]
  exact hq
theorem pe_powc {X : Cx} {a b : Int} {j1 j2} {p1 p2 pos : Pos} {v : Int} (h : a ^ b.toNat = v) (hc : CPow a b) : PE X (.BinOp (.Constant (.int a) j1 p1) .Pow (.Constant (.int b) j2 p2) pos) (tC (.int v)) := by
  intro pins s σ H Q I q
  subst h
  exact pe_op op_pow pe_int pe_int pins s σ H Q I ⟨_, _, rfl, rfl, hc, q⟩
end L2

set_option Elab.async false
set_option linter.all false
set_option maxRecDepth 100000
namespace L2
open PySem PySem.Spec PyProof.Rows
/-! errors: an own error that is raised, leaves defs, is caught and asked for its class -/
theorem ObjOk.thing {P : Program} {w : World} {H : Hp} {h : Heap} {a : Addr} {o : HO} (x : ObjOk P w H h a o) : ∃ ob, h.get? a = some ob := by
  cases o with
  | lst xs => obtain ⟨_, _, _, _, e⟩ := x; exact ⟨_, e⟩
  | tup xs => obtain ⟨_, _, _, ob, e, _⟩ := x; exact ⟨_, e⟩
  | dK kvs => obtain ⟨_, _, _, _, ob, _, _, e, _⟩ := x; exact ⟨_, e⟩
  | dT kvs => obtain ⟨_, _, _, _, ob, _, _, e, _⟩ := x; exact ⟨_, e⟩
  | set S n => obtain ⟨ob, _, _, _, e, _⟩ := x; exact ⟨_, e⟩
  | ins C dx fs => obtain ⟨_, _, _, e, _⟩ := x; exact ⟨_, e⟩
  | own y => exact x
  | xd fs => obtain ⟨_, ⟨_, _, _, e, _⟩, _⟩ := x; exact ⟨_, e⟩
  | rng lo hi => obtain ⟨_, _, _, e⟩ := x; exact ⟨_, e⟩
  | frz ob u => obtain ⟨e, _⟩ := x; exact ⟨_, e⟩
  | tbl ps => exact ⟨_, x⟩
  | met f y => exact ⟨_, x⟩
  | ext φ => obtain ⟨_, e, _⟩ := x; exact e
theorem HOk.gone {P : Program} {w : World} {H : Hp} {h : Heap} {a : Addr} (x : HOk P w H h) (e : h.get? a = none) : H a = none := by
  cases q : H a with
  | none => rfl
  | some u =>
    obtain ⟨ob, z⟩ := (x a u q).thing
    rw [e] at z
    cases z
theorem HOk.tracked {P : Program} {w : World} {H : Hp} {h h' : Heap} (x : HOk P w H h) (k : ∀ b u ob, H b = some u → h.get? b = some ob → h'.get? b = some ob) : HOk P w H h' := fun a o e =>
  (x a o e).stay (fun b u z q => by
    rcases z with rfl | z
    · exact k b o u e q
    · exact k b _ u z q) (fun _ q => q) fun _ _ q => q
/-- an error under way behind a call -/
structure Fly (P : Program) (w : World) (outer : List Env) (H : Hp) (s : Shared) (H' : Hp) (a C : Addr) (s' : Shared) : Prop where
  os : s'.os = s.os
  bare : AllBare s'.gens
  un : Un (frs outer) [] H H' s.heap s'.heap
  hok : HOk P w H' s'.heap
  new : H' a = none
  old : s.heap.get? a = none
  fly : ∃ (B : Heap) (a0 : Value), Heap.FlyingW B outer a (.ref C) a0 s'.heap ∧ ∀ b o, s'.heap.get? b = some o → b ∉ frs outer → ((∃ o', s.heap.get? b = some o') ∨ ∃ u, H' b = some u) → B.get? b = some o
def CX1 (P : Program) (w : World) : CXT := fun outer H s E e s' => ∃ a C H', e = .ref a ∧ Fly P w outer H s H' a C s' ∧ E (.ref C) none H'
section
variable {P : Program} {w : World} {K : PySem.W.Frag} {mg : Str → Option Value} {base : Heap} {N : List Str} {qual : Str} {scope : Scope} {f : Addr} {cd : Value} {A : Around} {outer : List Env} {s : Shared} {H : Hp} {E : XK}
abbrev cx1 (P : Program) (w : World) (K : PySem.W.Frag) (mg : Str → Option Value) (base : Heap) (N : List Str) (qual : Str) (scope : Scope) (f : Addr) (cd : Value) (A : Around) (outer : List Env) (s : Shared) (H : Hp) (E : XK) : Cx :=
  cxOf (CX1 P w) P w K mg base N qual scope f cd A outer s H E
theorem frs_cons {e : Env} {l : List Env} {L b : Addr} (hf : e.frame = some L) : b ∈ frs (e :: l) ↔ b = L ∨ b ∈ frs l := by
  unfold frs
  rw [List.filterMap_cons, hf]
  exact List.mem_cons
/-- from the frame of a def to its callers -/
theorem un_leave {pins : List (Addr × Obj)} {σ : St} {H1 H2 : Hp} {s1 : Shared} {h2 : Heap} (I : Inv (cx1 P w K mg base N qual scope f cd A outer s H E) pins σ H1 s1)
    (u : Un (frs (cx1 P w K mg base N qual scope f cd A outer s H E).stack) [] H1 H2 s1.heap h2) : Un (frs outer) [] H H2 s.heap h2 := by
  have lf : (cx1 P w K mg base N qual scope f cd A outer s H E).env.frame = some s.heap.objs.size := rfl
  have st : ∀ b, b ∈ frs (cx1 P w K mg base N qual scope f cd A outer s H E).stack ↔ b = s.heap.objs.size ∨ b ∈ frs outer := fun b => frs_cons lf
  have bas : Un (frs outer) [] H H1 s.heap s1.heap := I.base
  have noL : ∀ b o, s.heap.get? b = some o → b ∉ frs outer → b ∉ frs (cx1 P w K mg base N qual scope f cd A outer s H E).stack := fun b o q hb z => by
    rcases (st b).mp z with z | z
    · exact absurd (Heap.lt_size q) (by rw [z]; exact Nat.lt_irrefl _)
    · exact hb z
  refine ⟨fun b o q n hb hx => ?_, fun b o q n hb hx => ?_, fun b o q n hx => ?_, fun b o q hx => ?_, fun b xs q => u.tups b xs (bas.tups b xs q), fun b o v q => u.frzs b o v (bas.frzs b o v q), fun b ps q => ?_⟩
  · exact u.keep b o (bas.keep b o q n hb hx) (bas.free b o q n hx) (noL b o q hb) hx
  · obtain ⟨sl, e1⟩ := bas.slot b o q n hb hx
    obtain ⟨sl2, e2⟩ := u.slot b _ e1 (bas.free b o q n hx) ((st b).mpr (.inr hb)) hx
    exact ⟨sl2, e2⟩
  · obtain ⟨o', e1⟩ := bas.there b o q hx
    exact u.free b o' e1 (bas.free b o q n hx) hx
  · obtain ⟨o', e1⟩ := bas.there b o q hx
    exact u.there b o' e1 hx
  · obtain ⟨m1, e1⟩ := bas.tbls b ps q
    obtain ⟨m2, e2⟩ := u.tbls b _ e1
    exact ⟨m1 ++ m2, by rw [e2, Array.append_assoc]⟩
/-- what an error's flight writes -/
theorem un_fly {l : List Env} {H1 H2 : Hp} {h1 h2 h3 : Heap} (u : Un (frs l) [] H1 H2 h1 h2) (k : ∀ b o, h2.get? b = some o → b ∉ frs l → ((∃ o', h1.get? b = some o') ∨ ∃ u, H2 b = some u) → h3.get? b = some o)
    (ff : ∀ b, b ∈ frs l → ∃ o, h2.get? b = some o ∧ ∀ vs, o.data ≠ .fields vs) (up : h2.UpToSlots h3) : Un (frs l) [] H1 H2 h1 h3 := by
  have fr : ∀ b o, b ∈ frs l → h2.get? b = some o → ∃ sl, h3.get? b = some { o with slots := sl } := fun b o hb q => by
    obtain ⟨o', e, nf⟩ := ff b hb
    rw [q] at e
    cases e
    exact up b o q nf
  refine ⟨fun b o q n hb hx => k b o (u.keep b o q n hb hx) hb (.inl ⟨o, q⟩), fun b o q n hb hx => ?_, u.free, fun b o q hx => ?_, u.tups, u.frzs, u.tbls⟩
  · obtain ⟨sl, e1⟩ := u.slot b o q n hb hx
    obtain ⟨sl2, e2⟩ := fr b _ hb e1
    exact ⟨sl2, e2⟩
  · obtain ⟨o', e1⟩ := u.there b o q hx
    by_cases hb : b ∈ frs l
    · obtain ⟨sl, e2⟩ := fr b o' hb e1
      exact ⟨_, e2⟩
    · exact ⟨o', k b o' e1 hb (.inl ⟨o, q⟩)⟩
theorem old_of {pins : List (Addr × Obj)} {σ : St} {H1 : Hp} {s1 : Shared} {a : Addr} (I : Inv (cx1 P w K mg base N qual scope f cd A outer s H E) pins σ H1 s1) (e : s1.heap.get? a = none) : s.heap.get? a = none := by
  have bas : Un (frs outer) [] H H1 s.heap s1.heap := I.base
  cases q : s.heap.get? a with
  | none => rfl
  | some o =>
    obtain ⟨o', z⟩ := bas.there a o q (by simp)
    rw [e] at z
    cases z
/-- an error made in a def leaves it -/
theorem leave_made {pins : List (Addr × Obj)} {σ : St} {H1 : Hp} {s1 : Shared} {h' : Heap} {a C : Addr} {args : List Value} (I : Inv (cx1 P w K mg base N qual scope f cd A outer s H E) pins σ H1 s1)
    (hx : Heap.MadeExcOf s1.heap h' a (.ref C) args) (q : E (.ref C) none H1) : (cx1 P w K mg base N qual scope f cd A outer s H E).xe (.ref a) { s1 with heap := h' } := by
  have lf : (cx1 P w K mg base N qual scope f cd A outer s H E).env.frame = some s.heap.objs.size := rfl
  have st : ∀ b, b ∈ frs (cx1 P w K mg base N qual scope f cd A outer s H E).stack ↔ b = s.heap.objs.size ∨ b ∈ frs outer := fun b => frs_cons lf
  have ff := I.stack
  have hin : ∀ env ∈ (cx1 P w K mg base N qual scope f cd A outer s H E).stack, ∀ b, env.frame = some b → b ∈ frs (cx1 P w K mg base N qual scope f cd A outer s H E).stack := fun env he b hb => List.mem_filterMap.mpr ⟨env, he, hb⟩
  have ff2 := PySem.W.funFrames_hide ff hin
  refine wpAny_leaves_madeW (base := PySem.W.hideAll s1.heap (frs (cx1 P w K mg base N qual scope f cd A outer s H E).stack)) (h := s1.heap) I.ok.frames lf (fun b o z => PySem.W.of_hideAll _ z) ff2 hx fun h2 t x1 x2 x3 x4 => ?_
  have inB : ∀ b o, s1.heap.get? b = some o → b ∉ frs (cx1 P w K mg base N qual scope f cd A outer s H E).stack → h2.get? b = some o := fun b o z nb => x1.1 b o (PySem.W.hideAll_get _ z nb)
  have fm : ∀ b, b ∈ frs (cx1 P w K mg base N qual scope f cd A outer s H E).stack → ∃ o, s1.heap.get? b = some o ∧ ∀ vs, o.data ≠ .fields vs := fun b hb => (ff2.mem hb).2
  have up : s1.heap.UpToSlots h2 := (Heap.UpToSlots.of_keeps hx.keeps).trans x4
  have u1 : Un (frs (cx1 P w K mg base N qual scope f cd A outer s H E).stack) [] H1 H1 s1.heap h2 := un_fly Un.refl (fun b o z nb _ => inB b o z nb) fm up
  refine ⟨a, C, H1, rfl, ⟨I.os, I.bare, un_leave I u1, I.hok.tracked fun b u ob z zz => inB b ob zz fun m => ?_, I.hok.gone hx.new, old_of I hx.new, _, _, x1, fun b o z nb hor => ?_⟩, q⟩
  · have := I.stkFree b m
    rw [z] at this
    cases this
  · have hnL : b ∉ frs (cx1 P w K mg base N qual scope f cd A outer s H E).stack := fun m => by
      rcases hor with ⟨o', e⟩ | ⟨u, e⟩
      · rcases (st b).mp m with m | m
        · exact absurd (Heap.lt_size e) (by rw [m]; exact Nat.lt_irrefl _)
        · exact nb m
      · have := I.stkFree b m
        rw [e] at this
        cases this
    have : ∃ o1, s1.heap.get? b = some o1 := by
      rcases hor with ⟨o', e⟩ | ⟨u, e⟩
      · exact Un.there (show Un (frs outer) [] H H1 s.heap s1.heap from I.base) b o' e (by simp)
      · exact (I.hok b u e).thing
    obtain ⟨o1, e1⟩ := this
    have e2 := inB b o1 e1 hnL
    have z' : h2.get? b = some o := z
    rw [e2] at z'
    cases z'
    exact PySem.W.hideAll_get _ e1 hnL
/-- an error of a callee leaves the def, too -/
theorem leave_on {pins : List (Addr × Obj)} {σ : St} {H1 : Hp} {s1 s' : Shared} {e : Value} (I : Inv (cx1 P w K mg base N qual scope f cd A outer s H E) pins σ H1 s1)
    (hc : CX1 P w (cx1 P w K mg base N qual scope f cd A outer s H E).stack H1 s1 E e s') : (cx1 P w K mg base N qual scope f cd A outer s H E).xe e s' := by
  obtain ⟨a, C, H2, rfl, F, q⟩ := hc
  obtain ⟨B, a0, x, kB⟩ := F.fly
  have lf : (cx1 P w K mg base N qual scope f cd A outer s H E).env.frame = some s.heap.objs.size := rfl
  have st : ∀ b, b ∈ frs (cx1 P w K mg base N qual scope f cd A outer s H E).stack ↔ b = s.heap.objs.size ∨ b ∈ frs outer := fun b => frs_cons lf
  refine wpAny_leaves_onW I.ok.frames lf x fun h2 x1 x4 => ?_
  have fm : ∀ b, b ∈ frs (cx1 P w K mg base N qual scope f cd A outer s H E).stack → ∃ o, s'.heap.get? b = some o ∧ ∀ vs, o.data ≠ .fields vs := fun b hb => (x.2.2.1.mem hb).2
  have nofr : ∀ b u, H2 b = some u → b ∉ frs (cx1 P w K mg base N qual scope f cd A outer s H E).stack := fun b u z m => by
    have e1 := I.stkFree b m
    obtain ⟨o, ho, _⟩ := I.stack.mem m |>.2
    rw [F.un.free b o ho e1 (by simp)] at z
    cases z
  have u1 := un_fly F.un (fun b o z nb hor => x1.1 b o (kB b o z nb hor)) fm x4
  refine ⟨a, C, H2, rfl, ⟨F.os.trans I.os, F.bare, un_leave I u1, F.hok.tracked fun b u ob z zz => x1.1 b ob (kB b ob zz (nofr b u z) (.inr ⟨u, z⟩)), F.new, old_of I F.old, B, a0, x1, fun b o z nb hor => ?_⟩, q⟩
  have hnL : b ∉ frs (cx1 P w K mg base N qual scope f cd A outer s H E).stack := fun m => by
    rcases hor with ⟨o', e⟩ | ⟨u, e⟩
    · rcases (st b).mp m with m | m
      · exact absurd (Heap.lt_size e) (by rw [m]; exact Nat.lt_irrefl _)
      · exact nb m
    · exact nofr b u e m
  have hor1 : (∃ o', s1.heap.get? b = some o') ∨ ∃ u, H2 b = some u := by
    rcases hor with ⟨o', e⟩ | z
    · exact .inl (Un.there (show Un (frs outer) [] H H1 s.heap s1.heap from I.base) b o' e (by simp))
    · exact .inr z
  have : ∃ o1, s'.heap.get? b = some o1 := by
    rcases hor1 with ⟨o', e⟩ | ⟨u, e⟩
    · exact F.un.there b o' e (by simp)
    · exact (F.hok b u e).thing
  obtain ⟨o1, e1⟩ := this
  have e3 := kB b o1 e1 hnL hor1
  have e2 := x1.1 b o1 e3
  have z' : h2.get? b = some o := z
  rw [e2] at z'
  cases z'
  exact e3
theorem pass1 : Passes (CX1 P w) (cx1 P w K mg base N qual scope f cd A outer s H E) E := fun _ _ _ _ _ _ I h => leave_on I h
end
end L2

set_option Elab.async false
set_option linter.all false
set_option maxRecDepth 100000
namespace L2
open PySem PySem.Spec PyProof.Rows
abbrev bmV : List Value := [.type "ValueError", .type "Exception", .type "BaseException", .type "object"]
/-- an own class of errors, under ValueError -/
structure Err (K : PySem.W.Frag) (C : Addr) : Prop where
  exc : PySem.W.excIn K C bmV "ValueError.__new__" = true
  ga : PySem.W.findIn K (.ref C) "__getattribute__" = some (some (.builtin "BaseException.__getattribute__"))
  gt : PySem.W.findIn K (.ref C) "__getattr__" = some none
  cl : PySem.W.findIn K (.ref C) "__class__" = some (some (.builtin "object.__class__"))
  ob : PySem.W.mroIn K C (.type "object") = some true
  bs : PySem.W.mroIn K C (.type "BaseException") = some true
theorem exc_obj {K : PySem.W.Frag} {h : Heap} {C : Addr} {bmB : List Value} {newId : String} (X : K.In h) (q : PySem.W.excIn K C bmB newId = true) :
    ∃ bm N nm qn bs hdct sn sub ab col dd k0 k1 k2 k3 k5 mN, h.get? C = some (excClassObj nm qn C N bs bm hdct sn sub ab col dd k0 k1 k2 k3 k5 newId) ∧ h.Ns N mN ∧ mN "__init__" = none ∧ OwnTail h bmB bm := by
  unfold PySem.W.excIn at q
  cases hl : K.lookup C with
  | none => rw [hl] at q; simp at q
  | some o =>
    have ho := X _ _ hl
    obtain ⟨oc, dd, od, sl⟩ := o
    rw [hl] at q
    split at q
    · rename_i dd' cd sl' he
      cases he
      split at q
      · rename_i C' bm k0 k1 k2 k3 n k5 hm hs
        simp only [Bool.and_eq_true, beq_iff_eq, Bool.not_eq_true'] at q
        obtain ⟨⟨⟨⟨⟨q1, q2⟩, q3⟩, q4⟩, q5⟩, q6⟩ := q
        subst q1 q2
        obtain ⟨nm, bs, mro, ns, qn, hd, sn, sub, ab, col, del⟩ := cd
        dsimp only at hm q3 q5 q6
        subst hm q3
        have es : sl = #[k0, k1, k2, k3, some (.builtin n), k5] := by
          cases sl
          dsimp only at hs
          rw [hs]
        subst es
        exact ⟨bm, ns, nm, qn, bs, hd, sn, sub, ab, col, dd, k0, k1, k2, k3, k5, _, ho, Heap.Ns.of_isNs (PySem.W.isNs_of_in X q5), PySem.W.nsMap_none_of_in X q5 q6, PySem.W.tail_of_in X q4⟩
      · cases q
    · cases q
/-! raise -/
def Raiser (X : Cx) (R : Addr → Hp → Prop) : Prop := ∀ (pins : List (Addr × Obj)) (σ : St) (H : Hp) (s : Shared) (h' : Heap) (a C : Addr) (args : List Value), Inv X pins σ H s → Heap.MadeExcOf s.heap h' a (.ref C) args → R C H → X.xe (.ref a) { s with heap := h' }
theorem raiser1 {P : Program} {w : World} {K : PySem.W.Frag} {mg : Str → Option Value} {base : Heap} {N : List Str} {qual : Str} {scope : Scope} {f : Addr} {cd : Value} {A : Around} {outer : List Env} {s : Shared} {H : Hp} {E : XK} :
    Raiser (cx1 P w K mg base N qual scope f cd A outer s H E) (fun C H' => E (.ref C) none H') := fun _ _ _ _ _ _ _ _ I hx q => leave_made I hx q
def tRaise (R : Addr → Hp → Prop) (C : Addr) (t : TA) : TS := fun _ σ H => t σ H fun vs H1 => vs.length ≤ sizeLine ∧ R C H1
section
variable {X : Cx} {x : Str} {C : Addr} {e : Expr} {t : TA} {np cpos pos : Pos} {R : Addr → Hp → Prop}
theorem ps_raise (hR : Raiser X R) (hc : X.calm = true) (hg : Gl X x) (hm : X.mg x = some (.ref C)) (q : Err X.K C) (ha : PA X [e] t) (hs : starEach [e] X.env = [(false, eval e X.env)] := by rfl)
    (hd : (x == ("__debug__" : Str)) = false := by decide) : PS X (.Raise (some (.Call (.Name x np) [e] [] cpos)) none pos) (tRaise R C t) := by
  intro pins s σ H D I h
  obtain ⟨bm, N, nm, qn, bs, hdct, sn, sub, ab, col, dd, k0, k1, k2, k3, k5, mN, hC, hN, hni, T⟩ := exc_obj I.ok.mod.kin q.exc
  refine wpAny_Raise_call_subT (C := C) (bm := bm) (mN := mN) (nm := nm) (q := qn) (N := N) (bs := bs) (hdct := hdct) (sn := sn) (sub := sub) (ab := ab) (col := col) (dd := dd) (k0 := k0) (k1 := k1) (k2 := k2) (k3 := k3) (k5 := k5) (F := PySem.F.excBase_ValueError) (T.hasType PySem.F.excBase_ValueError.hasBase) (I.ok.hd hc) (by rw [hs]; rfl) hni (ld_glob I hg hm ⟨rfl, ?_⟩ hd)
  have h2 := ha cpos pins s σ H _ I h
  rw [hs] at h2 ⊢
  refine Calls.evalArgs_plain (thn h2 fun us s2 z => ?_)
  obtain ⟨vs, H1, I1, r, hl, q1⟩ := z
  refine ⟨rfl, by rw [← r.length]; exact hl, I1.bk _ _ hC, hN.keeps I1.bk, T.keeps I1.bk, fun h' a hx => hR pins σ H1 s2 h' a C _ I1 hx q1⟩
end
theorem PS.nox {X : Cx} {st : Stmt} {t : TS} (h : PS X.nox st t) : PS X st t := fun pins s σ H D I hw =>
  wpAny_mono (h pins s σ H D (I.wish _) hw) (fun _ _ q => q.unwish) fun _ _ z => False.elim z
/-! defs that may raise -/
theorem Fun.okE {P : Program} {w : World} {K : PySem.W.Frag} {mg : Str → Option Value} {base : Heap} {x qual : Str} {st : Stmt} {f : Addr} {fd : FuncData} {N ps : List Str} {k : Nat} {sp : Sp} (F : Fun K x qual st f fd) (S : FnScope N ps (defScope st))
    (len : ∀ vs H Q E, sp vs H Q E → vs.length = ps.length)
    (hb : ∀ (cdv : Value) (A : Around) (outer : List Env) (s : Shared) (H : Hp) (vs : List V) (Q : VK) (E : XK), Room k (A.deeper (envOfC qual (defScope st) s.heap.objs.size f cdv)) → sp vs H Q E →
      ∃ t, PSs (cx1 P w K mg base N qual (defScope st) f cdv A outer s H E) (defBody st) t ∧ t { nx := fun _ H' => Q .non H', rt := Q } (start N vs) H) : FnOk P w K mg base (CX1 P w) (k + 1) f fd ps sp := by
  obtain ⟨oc, od, kV, doc, pm, an, cdv, ct, osl, e, lk, hcd⟩ := F.ex
  subst e
  exact fn_of lk hcd S len fun A outer s H vs Q E hr h => hb cdv A outer s H vs Q E hr h
/-- no error where none is wanted -/
theorem FnOk.noerr {P : Program} {w : World} {K : PySem.W.Frag} {mg : Str → Option Value} {base : Heap} {k : Nat} {f : Addr} {fd : FuncData} {ps : List Str} {sp : Sp} (F : FnOk P w K mg base (CX1 P w) k f fd ps sp) :
    FnOk P w K mg base CX0 k f fd ps (fun vs H Q _ => sp vs H Q E0) :=
  ⟨fun vs H Q E h => F.len vs H Q E0 h, fun A outer s H args us vs Q E hr e0 hb r h => codeAny_mono (F.run A outer s H args us vs Q E0 hr e0 hb r h) fun r s' z => by
    cases r with
    | error e =>
      obtain ⟨_, _, _, _, _, q⟩ := z
      exact q.elim
    | ok fl => cases fl <;> exact z⟩
/-! an expression that may raise -/
def FX (X : Cx) (pins : List (Addr × Obj)) (σ : St) (E : XK) (e : Value) (s' : Shared) : Prop := ∃ H1 s1, Inv X pins σ H1 s1 ∧ CX1 X.prog X.w X.stack H1 s1 E e s'
abbrev TX := St → Hp → VK → XK → Prop
def PX (X : Cx) (e : Expr) (t : TX) : Prop :=
  ∀ (pins : List (Addr × Obj)) (s : Shared) (σ : St) (H : Hp) (Q : VK) (E : XK), Inv X pins σ H s → t σ H Q E → wpAny (model X.prog X.w) X.A (eval e X.env) (EP X pins σ Q) (FX X pins σ E) s
def tCallX (sp : Sp) (t : TA) : TX := fun σ H Q E => t σ H fun vs H1 => sp vs H1 Q E
section
variable {X : Cx} {k : Nat} {f : Addr} {fd : FuncData} {ps : List Str} {sp : Sp} {x : Str} {p pos : Pos} {e : Expr} {es : List Expr} {t : TA}
theorem px_call (F : FnOk X.prog X.w X.K X.mg X.base (CX1 X.prog X.w) k f fd ps sp) (hr : Room k X.A) (hg : Gl X x) (hm : X.mg x = some (.ref f)) (hk : PySem.W.keepIn X.K (.ref f) = true) (hb : Binds X.K fd ps [])
    (ha : PA X.nox (e :: es) t) (hdb : (x == ("__debug__" : Str)) = false := by decide) (he : starEach (e :: es) X.env = (false, eval e X.env) :: starEach es X.env := by rfl) (hpl : (backTo pos (starEach es X.env)).any (·.1) = false := by rfl) :
    PX X (.Call (.Name x p) (e :: es) [] pos) (tCallX sp t) := by
  intro pins s σ H Q E I h
  refine wpAny_Call_Name_kw (ld_glob I hg hm ?_ hdb)
  have h2 := ha pos pins s σ H _ (I.wish _) h
  refine PySem.W.callWith_K (h₀ := X.base) I.ok.mod.kin hk (wpAny_mono h2 (fun us s1 z => ?_) fun _ _ z => False.elim z) he hpl
  obtain ⟨vs, H1, I1', r, q⟩ := z
  have I1 : Inv X pins σ H1 s1 := I1'.unwish
  refine ⟨I1.kIn, ?_⟩
  have hl : us.length = ps.length := by rw [← r.length]; exact F.len _ _ _ _ q
  have hb2 : BindsTo s1 fd ⟨us, []⟩ (ps.zip us) := by
    have := hb s1 us I1.kIn (by rw [List.append_nil]; exact hl)
    rwa [List.append_nil] at this
  refine wpAny_call (codeAny_mono (F.run X.A X.stack s1 H1 ⟨us, []⟩ us vs Q E hr I1.env0 hb2 r q) fun r s' hq => ?_)
  cases r with
  | error e => exact ⟨H1, s1, I1, hq⟩
  | ok fl =>
    cases fl with
    | ret u => exact I1.after hq
    | next => exact False.elim hq
    | brk => exact False.elim hq
    | cont => exact False.elim hq
end
end L2

set_option Elab.async false
set_option linter.all false
set_option maxRecDepth 100000
namespace L2
open PySem PySem.Spec PyProof.Rows
/-- an error that was caught -/
def ErrAt (a C : Addr) (h : Heap) : Prop := ∃ ob vs, h.get? a = some ob ∧ ob.cls = .ref C ∧ ob.data = .fields vs
def errO (a C : Addr) : HO := .ext (ErrAt a C)
section
variable {X : Cx} {pins : List (Addr × Obj)} {σ : St} {H : Hp} {s : Shared}
/-- within the suite of an except -/
abbrev cxSuite (X : Cx) (a : Addr) : Cx := { X with A := X.A.mark (some (.ref a)), calm := false, xe := fun _ _ => False }
theorem Inv.suite (I : Inv X pins σ H s) (a : Addr) : Inv (cxSuite X a) pins σ H s :=
  ⟨⟨I.ok.mod, I.ok.kind, I.ok.glob, I.ok.blt, I.ok.above, I.ok.inj, I.ok.has, I.ok.cab, (fun z => by cases z), I.ok.frames, I.ok.stk, I.ok.exf, I.ok.bs, I.ok.bsz, I.ok.noex, I.ok.exfs, I.ok.funs, I.ok.frf⟩, I.os, I.bare, I.base, I.loc, I.cell, I.free, I.freeC, I.pin, I.hok, I.len⟩
theorem Inv.unsuite {a : Addr} (ok : X.Ok) (I : Inv (cxSuite X a) pins σ H s) : Inv X pins σ H s :=
  ⟨ok, I.os, I.bare, I.base, I.loc, I.cell, I.free, I.freeC, I.pin, I.hok, I.len⟩
/-- a thing that lies in the heap, made since, is taken into the abstract heap -/
theorem Inv.adopt {H1 : Hp} {s1 : Shared} {a : Addr} {φ : Heap → Prop} (I0 : Inv X pins σ H1 s1) (e0 : s1.heap.get? a = none) (I : Inv X pins σ H s) (n : H a = none) (p : φ s.heap) (ho : ∃ o, s.heap.get? a = some o)
    (st : ∀ h1 h2 : Heap, φ h1 → (∀ o, h1.get? a = some o → h2.get? a = some o) → φ h2) : Inv X pins σ (upd H a (.ext φ)) s := by
  have ne : ∀ b o, s1.heap.get? b = some o → b ≠ a := fun b o z e => by rw [e, e0] at z; cases z
  have keepH : ∀ b u, H b = some u → upd H a (.ext φ) b = some u := fun b u z => by rw [upd_ne (ne_of_none z n)]; exact z
  refine ⟨I.ok, I.os, I.bare, ⟨I.base.keep, I.base.slot, fun b o q m hx => ?_, I.base.there, fun b xs q => keepH b _ (I.base.tups b xs q), fun b o v q => keepH b _ (I.base.frzs b o v q), fun b ps q => ?_⟩, I.loc, I.cell, ?_, fun x c e => ?_, fun p hp => ?_, fun b u z => ?_, I.len⟩
  · obtain ⟨o', e1⟩ := I0.base.there b o q hx
    rw [upd_ne (ne b o' e1)]
    exact I.base.free b o q m hx
  · obtain ⟨m1, e1⟩ := I.base.tbls b ps q
    exact ⟨m1, keepH b _ e1⟩
  · obtain ⟨m, hn, _⟩ := I0.loc
    obtain ⟨o, _, _, e1, _⟩ := hn
    rw [upd_ne (ne _ o e1)]
    exact I.free
  · obtain ⟨v, o, e1, _⟩ := I0.cell x c e
    rw [upd_ne (ne _ o e1)]
    exact I.freeC x c e
  · obtain ⟨q1, q2, q3⟩ := I.pin p hp
    refine ⟨q1, ?_, q3⟩
    obtain ⟨z1, _⟩ := I0.pin p hp
    rw [upd_ne (ne _ _ z1)]
    exact q2
  · by_cases hb : b = a
    · subst hb
      rw [upd_same] at z
      cases z
      exact ⟨p, ho, st⟩
    · rw [upd_ne hb] at z
      exact (I.hok b u z).stay (fun _ _ _ q => q) (fun c q => keepH c _ q) fun c xs q => keepH c _ q
/-- a name goes behind the suite -/
theorem name_goes {M : Model} {A : Around} {E : Value → Shared → Prop} {i : Nat} {n : Str} {pos : Pos} {Q : Unit → Shared → Prop} (I : Inv X pins σ H s) (hN : X.N.Nodup) (hi : X.N[i]? = some n) (hl : X.env.scope.names.lookup n = some .local)
    (h : ∀ s', Inv X pins (σ.set i none) H s' → Q () s') : wpAny M A (do bindName X.env n .none; unbindBehindTheSuite X.env n pos) Q E s := by
  obtain ⟨m, hn, hlk⟩ := id I.loc
  have hcls : (X.env.scope.kind == .class || (X.env.scope.kind == .module && X.env.locals != X.env.globals)) = false := by rw [I.ok.kind]; rfl
  have hiσ : i < σ.length := by rw [I.len]; exact (List.getElem?_eq_some_iff.mp hi).1
  have cne := I.cne
  refine wpAny_nameGoes_keeps hl hn hcls fun h' v hn' hs => ?_
  obtain ⟨oL, _, _, hoL, _⟩ := id hn
  have ap : ∀ b o, X.s₀.heap.get? b = some o → b ≠ X.env.locals := fun b o e => Nat.ne_of_lt (Nat.lt_of_lt_of_le (Heap.lt_size e) I.ok.above)
  refine h _ ⟨I.ok, I.os, I.bare, ⟨fun b o e n hb hx => ?_, fun b o e n hb hx => ?_, I.base.free, fun b o e hx => ?_, I.base.tups, I.base.frzs, I.base.tbls⟩, ⟨_, hn', fun j y v' e1 e2 e3 => ?_⟩, fun y c e => ?_, I.free, I.freeC, fun p hp => ?_, ?_, by simpa using I.len⟩
  · exact (hs.2 b (ap b o e)).trans (I.base.keep b o e n hb hx)
  · obtain ⟨sl, e1⟩ := I.base.slot b o e n hb hx
    exact ⟨sl, (hs.2 b (ap b o e)).trans e1⟩
  · obtain ⟨o', e1⟩ := I.base.there b o e hx
    exact ⟨o', (hs.2 b (ap b o e)).trans e1⟩
  · by_cases hj : j = i
    · subst hj
      rw [List.getElem?_set_self hiσ] at e2
      cases e2
    · rw [List.getElem?_set_ne (Ne.symm hj)] at e2
      obtain ⟨u', r', q⟩ := hlk j y v' e1 e2 e3
      refine ⟨u', r', ?_⟩
      rcases q with ⟨k, e⟩ | ⟨k, c, e, z⟩
      · refine .inl ⟨k, ?_⟩
        have : y ≠ n := fun e => hj (nodup_ix hN e1 (e ▸ hi))
        show (if y = n then v else m y) = some u'
        rw [if_neg this]
        exact e
      · exact .inr ⟨k, c, e, z.sameBut hs (cne y c e)⟩
  · obtain ⟨w', z⟩ := I.cell y c e
    exact ⟨w', z.sameBut hs (cne y c e)⟩
  · obtain ⟨e, n1, ne, nf, d⟩ := I.pin p hp
    exact ⟨(hs.2 p.1 ne).trans e, n1, ne, nf, d⟩
  · exact I.hok.tracked fun b u ob z zz => (hs.2 b fun e => by rw [e, I.free] at z; cases z).trans zz
end
/-! except D as n: D the error's class or one above it -/
theorem matches_up {M : Model} {A : Around} {E : Value → Shared → Prop} {K : PySem.W.Frag} {s : Shared} {a C D : Addr} {ob : Obj} {Q : Bool → Shared → Prop} (X : K.In s.heap) (qC : Err K C) (qD : Err K D) (he : s.heap.get? a = some ob) (hcls : ob.cls = .ref C)
    (hsub : PySem.W.mroIn K C (.ref D) = some true) (hq : Q true s) : wpAny M A (excMatches (.ref a) (.ref D)) Q E s := by
  obtain ⟨h, g, d, t, os⟩ := s
  obtain ⟨bm, N, nm, qn, bs, hdct, sn, sub, ab, col, dd, k0, k1, k2, k3, k5, mN, hD, hN, hni, T⟩ := exc_obj X qD.exc
  have L1 := PySem.W.looks_mroIn (M := M) X hsub
  have L2 := PySem.W.looks_mroIn (M := M) X qD.bs
  have f := tc_notTuple
  unfold excMatches
  repeat (first | (with_reducible refine wpAny_loadPart_at he ?_; rw [hcls]) | with_reducible refine wpAny_loadPart_at hD ?_ | exact hq | with_reducible refine L1.at ?_ | with_reducible refine L2.at ?_ | wp_step)
end L2

set_option Elab.async false
set_option linter.all false
set_option maxRecDepth 100000
namespace L2
open PySem PySem.Spec PyProof.Rows
/-- behind the suite the error's name is gone -/
abbrev Ends.past (D : Ends) (i : Nat) : Ends := { nx := fun σ' H' => D.nx (σ'.set i none) H', rt := D.rt, bk := fun σ' H' => D.bk (σ'.set i none) H', ct := fun σ' H' => D.ct (σ'.set i none) H' }
/-- try: e; except D as n: suite -/
def tTry (K : PySem.W.Frag) (i : Nat) (D : Addr) (te : TX) (th : TS) : TS := fun W σ H => te σ H (fun _ H1 => W.nx σ H1) (fun c _ H1 => ∃ C, c = .ref C ∧ Err K C ∧ PySem.W.mroIn K C (.ref D) = some true ∧
  ∀ a, H1 a = none → th (W.past i) (σ.set i (some (.ref a))) (upd H1 a (errO a C)))
theorem Inv.fly {X : Cx} {pins : List (Addr × Obj)} {σ : St} {H1 H2 : Hp} {s1 s2 s3 : Shared} {a C : Addr} {B : Heap} {a0 : Value} (I : Inv X pins σ H1 s1) (F : Fly X.prog X.w X.stack H1 s1 H2 a C s2)
    (kB : ∀ b o, s2.heap.get? b = some o → b ∉ frs X.stack → ((∃ o', s1.heap.get? b = some o') ∨ ∃ u, H2 b = some u) → B.get? b = some o) (x : Heap.FlyingW B X.stack a (.ref C) a0 s2.heap) (x1 : B.StaysIn s3.heap) (up : s2.heap.UpToSlots s3.heap)
    (e1 : s3.os = s2.os) (e2 : s3.gens = s2.gens) : Inv X pins σ H2 s3 := by
  have fm : ∀ b, b ∈ frs X.stack → ∃ o, s2.heap.get? b = some o ∧ ∀ vs, o.data ≠ .fields vs := fun b hb => (x.2.2.1.mem hb).2
  have nofr : ∀ b u, H2 b = some u → b ∉ frs X.stack := fun b u z m => by
    have e1 := I.stkFree b m
    obtain ⟨o, ho, _⟩ := I.stack.mem m |>.2
    rw [F.un.free b o ho e1 (by simp)] at z
    cases z
  refine I.call' (ch := []) (e1.trans F.os) (un_fly F.un (fun b o z nb hor => x1 b o (kB b o z nb hor)) fm up) (F.hok.tracked fun b u ob z zz => x1 b ob (kB b ob zz (nofr b u z) (.inr ⟨u, z⟩))) (by rw [e2]; exact F.bare) fun b hb => absurd hb (by simp)
theorem ps_try {X : Cx} {e : Expr} {n x : Str} {i : Nat} {D : Addr} {b₀ : Stmt} {suite : List Stmt} {te : TX} {th : TS} {p1 p2 np pos : Pos} (hst : X.stack = X.env :: X.outer ∧ X.env.frame = some X.env.locals) (hN : X.N.Nodup) (hi : X.N[i]? = some n)
    (hl : X.env.scope.names.lookup n = some .local) (hg : Gl X x) (hm : X.mg x = some (.ref D)) (qD : Err X.K D) (he : PX X e te) (hs : ∀ a, PSs (cxSuite X a) (b₀ :: suite) th) (hsw : swapsWith e none p1.line X.env = pure false := by rfl)
    (hd : (x == ("__debug__" : Str)) = false := by decide) : PS X (.Try [.Expr e p1] [.ExceptHandler (some (.Name x np)) (some n) (b₀ :: suite) p2] [] [] pos) (tTry X.K i D te th) := by
  intro pins s σ H W I h
  refine wpAny_Try_except (wpAny_execs_cons (wpAny_Expr_any (wpAny_mono (he pins s σ H _ _ I h) (fun v s1 z => ?_) fun ev s1 z => ?_) I.quiet hsw))
  · obtain ⟨y, H1, I1, r1, q1⟩ := z
    exact wpAny_execs_nil (wpAny_execs_nil ⟨σ, H1, I1, q1⟩)
  obtain ⟨H1, s0, I0, a, C, H2, rfl, F, C', hC', qC, hsub, q⟩ := z
  cases hC'
  obtain ⟨B, a0, fx, kB⟩ := F.fly
  have fr : X.A.frames = some (X.env :: X.outer) := by rw [I.ok.frames, hst.1]
  have fx' : Heap.FlyingW B (X.env :: X.outer) a (.ref C) a0 s1.heap := by rw [← hst.1]; exact fx
  refine wpAny_looks_onW fr hst.2 fx' fun h4 y4 u4 => wpAny_landsW y4 fun h5 y5 u5 => ?_
  have I5 : Inv X pins σ H2 { s1 with heap := h5 } := I0.fly F kB fx y5.1 (u4.trans u5) rfl rfl
  obtain ⟨ob, hob, hobc⟩ := y5.there
  refine wpAny_handleBy_cons (codeAny_handlers_test (ld_glob (X := cxSuite X a) (I5.suite a) hg hm ?_ hd)) (by intro z; cases z)
  refine matches_up (K := X.K) I5.kIn qC qD hob hobc hsub (codeAny_handlers_suite_as ?_)
  refine lands_againW y5 fun h6 y6 u6 => ?_
  have I6 : Inv X pins σ H2 { s1 with heap := h6 } := I0.fly F kB fx y6.1 ((u4.trans u5).trans u6) rfl rfl
  obtain ⟨oe, vs, g1, g2, g3, _⟩ := y6.first
  have I7 : Inv X pins σ (upd H2 a (errO a C)) { s1 with heap := h6 } := Inv.adopt I0 F.old I6 F.new ⟨oe, vs, g1, g2, g3⟩ ⟨oe, g1⟩ fun h1 h2 z k => by
    obtain ⟨o1, v1, z1, z2, z3⟩ := z
    exact ⟨o1, v1, k _ z1, z2, z3⟩
  refine store_ok (X := cxSuite X a) (v := .ref a) (I7.suite a) hN hi (.inl hl) rfl (fun s7 I8 => ?_) (.inr hl)
  refine wpAny_mono (hs a pins s7 _ _ _ I8 (q a F.new)) (fun f s8 z => ?_) fun _ _ z => False.elim z
  cases f with
  | next =>
    obtain ⟨σ', H', J, z⟩ := z
    exact name_goes (J.unsuite I.ok) hN hi hl fun s9 J9 => ⟨_, _, J9, z⟩
  | brk =>
    obtain ⟨σ', H', J, z⟩ := z
    exact name_goes (J.unsuite I.ok) hN hi hl fun s9 J9 => ⟨_, _, J9, z⟩
  | cont =>
    obtain ⟨σ', H', J, z⟩ := z
    exact name_goes (J.unsuite I.ok) hN hi hl fun s9 J9 => ⟨_, _, J9, z⟩
  | ret u =>
    obtain ⟨v, σ', H', J, r, z⟩ := z
    exact name_goes (J.unsuite I.ok) hN hi hl fun s9 J9 => ⟨_, _, _, J9, r, z⟩
/-! isinstance of an error -/
section
variable {prog : Program} {w : World} {A : Around} {E : Value → Shared → Prop} {s : Shared} {K : PySem.W.Frag} {a C : Addr}
theorem err_type {M : Model} {h : Heap} (p : ErrAt a C h) : PySem.W.Looks M h (typeOf (.ref a)) (.ref C) := by
  obtain ⟨o, vs, h1, h2, h3⟩ := p
  exact h2 ▸ (PySem.W.Looks.ld h1).andThen .now
theorem err_get {tp : Value} {R : Result → Shared → Prop} (X : K.In s.heap) (p : ErrAt a C s.heap) (q : Err K C) (h : R (.ok (.ret (.ref C))) s) :
    codeAny (model prog w) A (.call (.builtin "getset_descriptor.__get__") ⟨[.builtin "object.__class__", .ref a, tp], []⟩) R s := by
  obtain ⟨hh, g, dr, t, os⟩ := s
  have L0 := err_type (M := model prog w) p
  have L1 := PySem.W.looks_mroIn (M := model prog w) X q.ob
  have ck := PySem.W.KF.slot_gs
  refine codeAny_call_builtin ck.plain PySem.W.KF.entry_gs (ck.check _ _ _ _ _ _ _ _ PySem.W.KF.type_class (PySem.W.KF.args_gs _ _ _) ?_)
  unfold Builtin.«getset_descriptor.__get__»
  unfold Builtin.Getset_descriptor.descrGet
  rw [PySem.W.dga_obj]
  apply wpAny_bind
  apply wpAny_pure
  unfold Builtin.Getset_descriptor.descrGetter
  unfold Builtin.Getset_descriptor.descrCheckInstance
  unfold Builtin.Getset_descriptor.descrNameAndClass
  unfold isInstance
  simp only [PySem.W.KF.owner_class]
  repeat lk
  refine ⟨Code.quiet_builtin _ (by decide +kernel), codeAny_builtin PySem.W.KF.entry_class ?_⟩
  unfold Builtin.«object.__class__»
  unfold shownTypeOf
  repeat lk
  exact h
theorem err_entry {tk : Tok} {Q : Fin → Shared → Prop} (X : K.In s.heap) (p : ErrAt a C s.heap) (q : Err K C) (h : Q (.done (.ret (.ref C))) s) :
    wpAny (model prog w) A (Builtin.«object.__getattribute__» ⟨[.ref a, .str "__class__" tk], []⟩) Q E s := by
  obtain ⟨hh, g, dr, t, os⟩ := s
  have L0 := err_type (M := model prog w) p
  have L1 := PySem.W.looks_findIn (M := model prog w) X q.cl
  have hT5 : (⟨hh, g, dr, t, os⟩ : Shared).TypeIs (.builtin "object.__class__") "getset_descriptor" := F.typeOf_object_class
  have f5 := F.typeOf_object_class
  have f6 := F.slot_gs_get.lookup
  have f7 := F.slot_gs_set.lookup
  repeat (any_goals (first | assumption | with_reducible refine L0.at ?_ | with_reducible refine L1.at ?_ | wp_step))
  refine err_get X p q ?_
  repeat (any_goals (first | assumption | wp_step))
end
end L2

set_option Elab.async false
set_option linter.all false
set_option maxRecDepth 100000
namespace L2
open PySem PySem.Spec PyProof.Rows
section
variable {prog : Program} {w : World} {A : Around} {E : Value → Shared → Prop} {s : Shared} {K : PySem.W.Frag} {a C : Addr}
theorem err_check {M : Model} {nameV : Value} {Q : Unit → Shared → Prop} (X : K.In s.heap) (p : ErrAt a C s.heap) (q : Err K C) (h : Q () s) : wpAny M A (checkBuiltinCall "BaseException.__getattribute__" ⟨[.ref a, nameV], []⟩) Q E s := by
  obtain ⟨hh, g, dr, t, os⟩ := s
  have L0 := err_type (M := M) p
  have L1 := PySem.W.looks_mroIn (M := M) X q.bs
  have k1 : builtinKind "BaseException.__getattribute__" = some .slot := by
    decide +kernel
  have k2 : splitId "BaseException.__getattribute__" = some ("BaseException", "__getattribute__") := by
    decide +kernel
  have k3 := F.args_bexc_ga (.ref a) nameV
  simp only [checkBuiltinCall, k1, k2]
  apply wpAny_bind
  unfold isInstance
  repeat (first | with_reducible refine L0.at ?_ | with_reducible refine L1.at ?_ | wp_step)
  exact h
theorem err_call {tk : Tok} {R : Result → Shared → Prop} (X : K.In s.heap) (p : ErrAt a C s.heap) (q : Err K C) (h : R (.ok (.ret (.ref C))) s) :
    codeAny (model prog w) A (.call (.builtin "BaseException.__getattribute__") ⟨[.ref a, .str "__class__" tk], []⟩) R s :=
  codeAny_call_builtin PySem.F.excAttr_ValueError.ga.plain F.entry_bexc_ga (err_check X p q (err_entry X p q h))
theorem err_by {tk : Tok} {fill expr : Bool} {Q : Value → Shared → Prop} (X : K.In s.heap) (p : ErrAt a C s.heap) (q : Err K C) (h : Q (.ref C) s) : wpAny (model prog w) A (getAttrBy (.ref a) (.str "__class__" tk) fill expr) Q E s := by
  obtain ⟨hh, g, dr, t, os⟩ := s
  have L0 := err_type (M := model prog w) p
  have L1 := PySem.W.looks_findIn (M := model prog w) X q.ga
  have L2 := PySem.W.looks_findIn (M := model prog w) X q.gt
  have f3 := PySem.F.excAttr_ValueError.ga.bind (.ref a)
  have z0 : (expr && onTheHeap (Value.builtin "BaseException.__getattribute__")) = false := by
    cases expr <;> rfl
  have z2 : (Value.builtin "BaseException.__getattribute__" == Value.builtin "object.__getattribute__") = false := by
    decide +kernel
  have z1 : (onTheHeap (Value.ref C) && Value.builtin "BaseException.__getattribute__" == Value.builtin "object.__getattribute__") = false := by
    rw [z2]
    rfl
  repeat (any_goals (first | assumption | with_reducible refine L0.at ?_ | with_reducible refine L1.at ?_ | with_reducible refine L2.at ?_ | wp_step))
  refine err_call X p q ?_
  repeat (any_goals (first | assumption | wp_step))
theorem err_class {Q : Option Value → Shared → Prop} (X : K.In s.heap) (p : ErrAt a C s.heap) (q : Err K C) (h : Q (some (.ref C)) { s with toks := s.toks + 1 }) : wpAny (model prog w) A (getAttr? (.ref a) "__class__") Q E s := by
  obtain ⟨hh, g, dr, t, os⟩ := s
  unfold getAttr?
  unfold getAttrBy?
  refine wpAny_bind (wpAny_mkText (wpAny_bind (wpAny_attempt (err_by (s := ⟨hh, g, dr, t + 1, os⟩) X p q ?_))))
  exact wpAny_pure h
theorem kitx_err (q : Err K C) : PySem.W.KitX K (.ref a) (.ref C) (ErrAt a C) where
  ty := fun M h X p => err_type p
  it := fun M h X p => by
    obtain ⟨bm, N, nm, qn, bs, hdct, sn, sub, ab, col, dd, k0, k1, k2, k3, k5, mN, hC, _⟩ := exc_obj X q.exc
    intro A' Q' E' s' k z
    unfold isType
    unfold loadHead
    exact wpAny_bind (wpAny_loadPart (k _ _ hC) (wpAny_pure z))
  ne := fun h tp dd its n sl X htp => by
    obtain ⟨bm, N, nm, qn, bs, hdct, sn, sub, ab, col, dd', k0, k1, k2, k3, k5, mN, hC, _⟩ := exc_obj X q.exc
    refine Bool.eq_false_iff.mpr fun z => ?_
    have e : C = tp := Value.ref.inj (beq_iff_eq.mp z)
    subst e
    rw [hC] at htp
    have z2 := congrArg Obj.data (Option.some.inj htp)
    exact nomatch z2
  ca := fun X p h => err_class X p q h
end
/-- the class c of isinstance(e, c) -/
inductive ClsV : V → Value → Prop where
  | own (D : Addr) : ClsV (.ref D) (.ref D)
  | ty (n : String) : ClsV (.ty n) (.type n)
theorem call_isErr {X : Cx} : CallR X (.builtin "isinstance") (fun xs H Q => ∃ a C c cv b, xs = [.ref a, c] ∧ H a = some (errO a C) ∧ Err X.K C ∧ ClsV c cv ∧ PySem.W.kitOne X.K (.ref C) cv = some b ∧ Q (.bl b) H) := by
  intro pins s σ H xs us Q I r h
  obtain ⟨a, C, c, cv, b, rfl, ha, q, hc, e, z⟩ := h
  obtain ⟨u1, u2, rfl, r1, r2⟩ := vals2 r
  cases (show u1 = Value.ref a from r1)
  have ec : u2 = cv := by
    cases hc with
    | own D => exact r2
    | ty n => exact r2
  subst ec
  obtain ⟨p, _, _⟩ := (show ObjOk X.prog X.w H s.heap a (.ext (ErrAt a C)) from I.hok a _ ha)
  exact PySem.W.kia_one (kitx_err q) I.kIn p e (fun z => nomatch z) fun tk => ⟨.bl b, H, I.tok _, rfl, z⟩
end L2

set_option Elab.async false
set_option linter.all false
set_option maxRecDepth 100000
namespace L2
open PySem PySem.Spec PyProof.Rows
/-- try: x = e; except D as n: suite -/
def tTryA (K : PySem.W.Frag) (j i : Nat) (D : Addr) (te : TX) (th : TS) : TS := fun W σ H => te σ H (fun v H1 => W.nx (σ.set j (some v)) H1) (fun c _ H1 => ∃ C, c = .ref C ∧ Err K C ∧ PySem.W.mroIn K C (.ref D) = some true ∧
  ∀ a, H1 a = none → th (W.past i) (σ.set i (some (.ref a))) (upd H1 a (errO a C)))
theorem ps_tryA {X : Cx} {e : Expr} {y n x : Str} {j i : Nat} {D : Addr} {b₀ : Stmt} {suite : List Stmt} {te : TX} {th : TS} {p0 p1 p2 np pos : Pos} (hst : X.stack = X.env :: X.outer ∧ X.env.frame = some X.env.locals) (hN : X.N.Nodup) (hj : X.N[j]? = some y) (hy : Loc X.env.scope y) (hi : X.N[i]? = some n)
    (hl : X.env.scope.names.lookup n = some .local) (hg : Gl X x) (hm : X.mg x = some (.ref D)) (qD : Err X.K D) (he : PX X e te) (hs : ∀ a, PSs (cxSuite X a) (b₀ :: suite) th) (hsw : swapsWith e (some (.Name y p0)) p1.line X.env = pure false := by rfl)
    (hd : (x == ("__debug__" : Str)) = false := by decide) (hfn : X.fn y = true ∨ X.env.scope.names.lookup y = some .local := by first | exact .inl rfl | exact .inr rfl | assumption) : PS X (.Try [.Assign [.Name y p0] e p1] [.ExceptHandler (some (.Name x np)) (some n) (b₀ :: suite) p2] [] [] pos) (tTryA X.K j i D te th) := by
  intro pins s σ H W I h
  refine wpAny_Try_except (wpAny_execs_cons (wpAny_Assign_Name (wpAny_mono (he pins s σ H _ _ I h) (fun v s1 z => ?_) fun ev s1 z => ?_) hsw))
  · obtain ⟨u, H1, I1, r1, q1⟩ := z
    exact store_ok I1 hN hj hy r1 (fun s2 I2 => wpAny_execs_nil (wpAny_execs_nil ⟨_, H1, I2, q1⟩)) hfn
  obtain ⟨H1, s0, I0, a, C, H2, rfl, F, C', hC', qC, hsub, q⟩ := z
  cases hC'
  obtain ⟨B, a0, fx, kB⟩ := F.fly
  have fr : X.A.frames = some (X.env :: X.outer) := by rw [I.ok.frames, hst.1]
  have fx' : Heap.FlyingW B (X.env :: X.outer) a (.ref C) a0 s1.heap := by rw [← hst.1]; exact fx
  refine wpAny_looks_onW fr hst.2 fx' fun h4 y4 u4 => wpAny_landsW y4 fun h5 y5 u5 => ?_
  have I5 : Inv X pins σ H2 { s1 with heap := h5 } := I0.fly F kB fx y5.1 (u4.trans u5) rfl rfl
  obtain ⟨ob, hob, hobc⟩ := y5.there
  refine wpAny_handleBy_cons (codeAny_handlers_test (ld_glob (X := cxSuite X a) (I5.suite a) hg hm ?_ hd)) (by intro z; cases z)
  refine matches_up (K := X.K) I5.kIn qC qD hob hobc hsub (codeAny_handlers_suite_as ?_)
  refine lands_againW y5 fun h6 y6 u6 => ?_
  have I6 : Inv X pins σ H2 { s1 with heap := h6 } := I0.fly F kB fx y6.1 ((u4.trans u5).trans u6) rfl rfl
  obtain ⟨oe, vs, g1, g2, g3, _⟩ := y6.first
  have I7 : Inv X pins σ (upd H2 a (errO a C)) { s1 with heap := h6 } := Inv.adopt I0 F.old I6 F.new ⟨oe, vs, g1, g2, g3⟩ ⟨oe, g1⟩ fun h1 h2 z k => by
    obtain ⟨o1, v1, z1, z2, z3⟩ := z
    exact ⟨o1, v1, k _ z1, z2, z3⟩
  refine store_ok (X := cxSuite X a) (v := .ref a) (I7.suite a) hN hi (.inl hl) rfl (fun s7 I8 => ?_) (.inr hl)
  refine wpAny_mono (hs a pins s7 _ _ _ I8 (q a F.new)) (fun f s8 z => ?_) fun _ _ z => False.elim z
  cases f with
  | next =>
    obtain ⟨σ', H', J, z⟩ := z
    exact name_goes (J.unsuite I.ok) hN hi hl fun s9 J9 => ⟨_, _, J9, z⟩
  | brk =>
    obtain ⟨σ', H', J, z⟩ := z
    exact name_goes (J.unsuite I.ok) hN hi hl fun s9 J9 => ⟨_, _, J9, z⟩
  | cont =>
    obtain ⟨σ', H', J, z⟩ := z
    exact name_goes (J.unsuite I.ok) hN hi hl fun s9 J9 => ⟨_, _, J9, z⟩
  | ret u =>
    obtain ⟨v, σ', H', J, r, z⟩ := z
    exact name_goes (J.unsuite I.ok) hN hi hl fun s9 J9 => ⟨_, _, _, J9, r, z⟩
theorem vals_refs : ∀ {cs : List Addr} {us : List Value}, Vals (cs.map V.ref) us → us = cs.map Value.ref
  | [], us, h => by cases h; rfl
  | c :: cs, us, h => by
    cases h with
    | cons r t =>
      cases (show _ = Value.ref c from r)
      rw [vals_refs t]
      rfl
/-- isinstance of an error and a tuple of classes -/
theorem call_isErrT {X : Cx} : CallR X (.builtin "isinstance") (fun xs H Q => ∃ (a C tp : Addr) (cs : List Addr) (b : Bool), xs = [.ref a, .ref tp] ∧ H a = some (errO a C) ∧ Err X.K C ∧ SqT X.K H tp (cs.map V.ref) ∧ PySem.W.kitAny X.K (.ref C) (cs.map Value.ref) = some b ∧ Q (.bl b) H) := by
  intro pins s σ H xs us Q I r h
  obtain ⟨a, C, tp, cs, b, rfl, ha, q, ht, e, z⟩ := h
  obtain ⟨u1, u2, rfl, r1, r2⟩ := vals2 r
  cases (show u1 = Value.ref a from r1)
  cases (show u2 = Value.ref tp from r2)
  obtain ⟨p, _, _⟩ := (show ObjOk X.prog X.w H s.heap a (.ext (ErrAt a C)) from I.hok a _ ha)
  obtain ⟨its, rv, ⟨o, ho, hc, n, hd⟩, _⟩ := I.tuple ht
  have ei := vals_refs rv
  obtain ⟨cls, dd, dt, sl⟩ := o
  cases hc
  cases hd
  exact PySem.W.kia_tup (kitx_err q) I.kIn p ho (by rw [ei]; exact e) (fun z => nomatch z) fun tk => ⟨.bl b, H, I.tok _, rfl, z⟩
end L2

set_option Elab.async false
set_option linter.all false
set_option maxRecDepth 100000
namespace L2
open PySem PySem.Spec PyProof.Rows
/-! a comprehension of one clause -/
def clOf (cells : List (Str × Addr)) : List (Str × NameKind) → List (Str × Addr) → List (Str × Addr)
  | [], acc => acc
  | (n, k) :: r, acc => clOf cells r (if k = .free then (n, (cells.lookup n).getD 0) :: acc else acc)
theorem closure_go {env : Env} : ∀ (l : List (Str × NameKind)) (acc : List (Str × Addr)), (∀ p ∈ l, p.2 = .free → ∃ c, env.cells.lookup p.1 = some c) →
    (forIn l acc fun (x : Str × NameKind) (cs : List (Str × Addr)) => if (x.2 == NameKind.free) = true then (do let c ← cellOf env x.1; pure (ForInStep.yield ((x.1, c) :: cs))) else (pure (ForInStep.yield cs) : Sem _)) = pure (clOf env.cells l acc)
  | [], acc, _ => rfl
  | (n, k) :: r, acc, h => by
    have ih := fun acc => closure_go (env := env) r acc fun p hp => h p (List.mem_cons_of_mem _ hp)
    rw [List.forIn_cons]
    by_cases hk : k = .free
    · obtain ⟨c, hc⟩ := h (n, k) List.mem_cons_self hk
      have hc' : env.cells.lookup n = some c := hc
      have e : cellOf env n = pure c := by unfold cellOf; rw [hc']
      have e2 : (k == NameKind.free) = true := by simp [hk]
      simp only [e2, if_true, e, pure_bind, ih]
      simp only [clOf, hk, if_true, hc', Option.getD_some]
    · have e2 : (k == NameKind.free) = false := by simpa using hk
      simp only [e2, Bool.false_eq_true, if_false, pure_bind, ih]
      simp only [clOf, hk, if_false]
theorem closure_of {scope : Scope} {env : Env} (h : ∀ p ∈ scope.names, p.2 = .free → ∃ c, env.cells.lookup p.1 = some c) : closureFor scope env = pure (clOf env.cells scope.names []) := by
  have := closure_go (env := env) scope.names [] h
  unfold closureFor
  simp only [bind_pure]
  exact this
end L2
namespace L2
open PySem PySem.Spec PyProof.Rows
theorem clOf_sub {cells : List (Str × Addr)} : ∀ (l : List (Str × NameKind)) (acc : List (Str × Addr)), (∀ p ∈ l, p.2 = .free → ∃ c, cells.lookup p.1 = some c) → (∀ y c, acc.lookup y = some c → cells.lookup y = some c) →
    ∀ y c, (clOf cells l acc).lookup y = some c → cells.lookup y = some c
  | [], _, _, ha, y, c, h => ha y c h
  | (n, k) :: r, acc, hl, ha, y, c, h => by
    refine clOf_sub r _ (fun p hp => hl p (List.mem_cons_of_mem _ hp)) (fun z d hz => ?_) y c h
    by_cases hk : k = .free
    · rw [if_pos hk, List.lookup_cons] at hz
      obtain ⟨c', hc'⟩ := hl (n, k) List.mem_cons_self hk
      have hc2 : cells.lookup n = some c' := hc'
      split at hz
      · rename_i e
        have e' : z = n := by simpa using e
        subst e'
        rw [hc2] at hz ⊢
        exact hz
      · exact ha z d hz
    · rw [if_neg hk] at hz
      exact ha z d hz
theorem clOf_mem {cells : List (Str × Addr)} : ∀ (l : List (Str × NameKind)) (acc : List (Str × Addr)) (y : Str), ((acc.lookup y).isSome = true ∨ (y, NameKind.free) ∈ l) → ((clOf cells l acc).lookup y).isSome = true
  | [], _, _, h => h.elim id fun z => nomatch z
  | (n, k) :: r, acc, y, h => by
    refine clOf_mem r _ y ?_
    by_cases hk : k = .free
    · rw [if_pos hk, List.lookup_cons]
      by_cases e : (y == n) = true
      · left; rw [e]; rfl
      · rw [Bool.not_eq_true] at e
        rw [e]
        rcases h with h | h
        · exact .inl h
        · rcases List.mem_cons.mp h with h | h
          · have : y = n := congrArg Prod.fst h
            subst this
            simp at e
          · exact .inr h
    · rw [if_neg hk]
      rcases h with h | h
      · exact .inl h
      · rcases List.mem_cons.mp h with h | h
        · have : NameKind.free = k := congrArg Prod.snd h
          exact absurd this.symm hk
        · exact .inr h
theorem clOf_from {cells : List (Str × Addr)} : ∀ (l : List (Str × NameKind)) (acc : List (Str × Addr)) (y : Str) (c : Addr), (clOf cells l acc).lookup y = some c → (∃ c', acc.lookup y = some c') ∨ (y, NameKind.free) ∈ l
  | [], _, y, c, h => .inl ⟨c, h⟩
  | (n, k) :: r, acc, y, c, h => by
    rcases clOf_from r _ y c h with ⟨c', h'⟩ | h'
    · by_cases hk : k = .free
      · rw [if_pos hk, List.lookup_cons] at h'
        split at h'
        · rename_i e
          have e' : y = n := by simpa using e
          subst e'
          subst hk
          exact .inr List.mem_cons_self
        · exact .inl ⟨c', h'⟩
      · rw [if_neg hk] at h'
        exact .inl ⟨c', h'⟩
    · exact .inr (List.mem_cons_of_mem _ h')
theorem relabel_lookup {env : Env} (hk : env.scope.kind = .function) : ∀ (l : List (Str × NameKind)) (y : Str),
    (l.map fun (n, k) => if (k == NameKind.free && env.scope.kind == .function && env.kindOf n == some .cell) then (n, NameKind.cell) else (n, k)).lookup y = (l.lookup y).map fun k => if (k == NameKind.free && env.kindOf y == some .cell) = true then NameKind.cell else k
  | [], _ => rfl
  | (n, k) :: r, y => by
    have ih := relabel_lookup hk r y
    have hk' : (env.scope.kind == ScopeKind.function) = true := by rw [hk]; rfl
    rw [List.map_cons, List.lookup_cons]
    by_cases e : (y == n) = true
    · have e' : y = n := by simpa using e
      subst e'
      by_cases hc : (k == NameKind.free && env.kindOf y == some .cell) = true
      · have hc2 : (k == NameKind.free && env.scope.kind == .function && env.kindOf y == some .cell) = true := by
          rw [hk', Bool.and_true]; exact hc
        simp only [hc2, if_true, List.lookup_cons, beq_self_eq_true, Option.map_some, hc]
      · have hc2 : ¬ (k == NameKind.free && env.scope.kind == .function && env.kindOf y == some .cell) = true := by
          rw [hk', Bool.and_true]; exact hc
        rw [if_neg hc2]
        simp only [List.lookup_cons, beq_self_eq_true, Option.map_some]
        rw [if_neg hc]
    · rw [Bool.not_eq_true] at e
      by_cases hc2 : (k == NameKind.free && env.scope.kind == .function && env.kindOf n == some .cell) = true
      · simp only [hc2, if_true, e, List.lookup_cons]
        exact ih
      · rw [Bool.not_eq_true] at hc2
        simp only [hc2, Bool.false_eq_true, if_false, e, List.lookup_cons]
        exact ih
/-- the look at a comprehension's names: xs its own, N the def's -/
def compOk (sc xsc : Scope) (N N' xs : List Str) : Bool :=
  sc.kind == .function && xs.all (fun x => sc.names.lookup x == some .local && !N'.contains x) &&
  sc.names.all (fun p => p.2 != .cell && (p.2 != .local || sc.names.lookup p.1 == some .local) && (p.2 != .free || (xsc.names.lookup p.1 == some .cell && sc.names.lookup p.1 == some .free))) &&
  N'.all (fun y => sc.names.lookup y != some .local) && (N.length == N'.length && (N.zip N').all (fun p => p.1 == p.2 || sc.names.lookup p.2 == none))
/-- N' is N, but for names that the comprehension's own hide: these stand there under names that are none -/
structure CompOk (sc xsc : Scope) (N N' xs : List Str) : Prop where
  kind : sc.kind = .function
  own : ∀ x ∈ xs, sc.names.lookup x = some .local ∧ x ∉ N'
  nocell : ∀ p ∈ sc.names, p.2 ≠ .cell
  loc : ∀ p ∈ sc.names, p.2 = .local → sc.names.lookup p.1 = some .local
  free : ∀ p ∈ sc.names, p.2 = .free → xsc.names.lookup p.1 = some .cell ∧ sc.names.lookup p.1 = some .free
  out : ∀ y ∈ N', sc.names.lookup y ≠ some .local
  len : N.length = N'.length
  pair : ∀ (i : Nat) (y : Str), N'[i]? = some y → sc.names.lookup y ≠ none → N[i]? = some y
theorem CompOk.of {sc xsc : Scope} {N N' xs : List Str} (h : compOk sc xsc N N' xs = true) : CompOk sc xsc N N' xs := by
  unfold compOk at h
  simp only [Bool.and_eq_true, List.all_eq_true, Bool.or_eq_true, bne_iff_ne, beq_iff_eq, Bool.not_eq_true', ne_eq] at h
  obtain ⟨⟨⟨⟨h1, h2⟩, h3⟩, h4⟩, h5, h6⟩ := h
  refine ⟨h1, fun x hx => ⟨(h2 x hx).1, fun z => ?_⟩, fun p hp => (h3 p hp).1.1, fun p hp e => ?_, fun p hp e => ?_, h4, h5, fun i y hy hn => ?_⟩
  · have := (h2 x hx).2
    rw [List.contains_eq_mem] at this
    simp [z] at this
  · rcases (h3 p hp).1.2 with z | z
    · exact absurd e z
    · exact z
  · rcases (h3 p hp).2 with z | z
    · exact absurd e z
    · exact z
  · have hi : i < N'.length := (List.getElem?_eq_some_iff.mp hy).1
    have hN : N[i]? = some (N[i]'(by omega)) := List.getElem?_eq_getElem (by omega)
    have hm : (N[i]'(by omega), y) ∈ N.zip N' := by
      refine List.mem_of_getElem? (i := i) ?_
      rw [List.getElem?_zip_eq_some]
      exact ⟨hN, hy⟩
    rcases h6 _ hm with z | z
    · rw [hN]
      exact congrArg some z
    · exact absurd z hn
def cxComp (X : Cx) (scope : Scope) (C : Addr) (xs N' : List Str) (s : Shared) (H : Hp) (fp : List Addr) : Cx :=
  { X with N := xs ++ N', s₀ := s, H₀ := H, env := compEnvC scope (clOf X.env.cells scope.names []) C X.env, outer := X.stack, stack := X.stack, ex := fp, fn := fun y => xs.contains y, pn := [], xe := fun _ _ => False }
section
variable {X : Cx} {pins : List (Addr × Obj)} {σ : St} {H : Hp} {s : Shared} {scope : Scope} {xs N' : List Str} {fp : List Addr}
theorem comp_cells (I : Inv X pins σ H s) (O : CompOk scope X.env.scope X.N N' xs) : ∀ p ∈ scope.names, p.2 = .free → ∃ c, X.env.cells.lookup p.1 = some c := fun p hp e =>
  I.ok.has p.1 (.inl (O.free p hp e).1)
theorem comp_kind (I : Inv X pins σ H s) (O : CompOk scope X.env.scope X.N N' xs) (y : Str) : (relabel scope X.env).names.lookup y = (scope.names.lookup y).map fun k => if k = .free then NameKind.cell else k := by
  unfold relabel
  show (List.map _ scope.names).lookup y = _
  rw [relabel_lookup I.ok.kind]
  cases e : scope.names.lookup y with
  | none => rfl
  | some k =>
    rw [Option.map_some, Option.map_some]
    by_cases hk : k = .free
    · subst hk
      have := (O.free (y, .free) (PySem.mem_of_lookup e) rfl).1
      have h2 : X.env.kindOf y = some .cell := this
      rw [h2]
      rfl
    · rw [if_neg hk, if_neg (by simp [hk])]
theorem inv_comp {h1 : Heap} {tk : Nat} (I : Inv X pins σ H s) (O : CompOk scope X.env.scope X.N N' xs) (hf : ∀ b ∈ fp, FpOk X pins H b) (hlt : ∀ b ∈ fp, b < s.heap.objs.size) {m0 : Str → Option Value}
    (hn : h1.Ns s.heap.objs.size m0) (hk : ∀ b o, s.heap.get? b = some o → h1.get? b = some o) :
    Inv (cxComp X scope s.heap.objs.size xs N' s H fp) [] (xs.map (fun _ => none) ++ σ) H { s with heap := h1, toks := tk } := by
  have hcl := clOf_sub (cells := X.env.cells) scope.names [] (comp_cells I O) (fun y c z => nomatch z)
  refine ⟨⟨I.ok.mod, ?_, I.ok.glob, I.ok.blt, Nat.le_refl _, fun x y c h1 h2 => I.ok.inj x y c (hcl x c h1) (hcl y c h2), fun y hy => ?_, fun y c h1 h2 => ?_, I.ok.hd, I.ok.frames, .inl rfl, fun b hb => ⟨Nat.ne_of_lt (hlt b hb), fun x c e => (hf b hb).2.2.2.2.1 x c (hcl x c e)⟩,
    I.bs, Nat.le_trans I.ok.bsz I.sz, fun b o e hb => ?_, fun b hb z => ?_, I.stack, I.stkFree⟩, rfl, I.bare, Un.kept hk, ⟨m0, hn, fun i y v e1 e2 e3 => ?_⟩, fun y c e => ?_, I.hok.fresh (Nat.le_refl _), fun y c e => I.freeC y c (hcl y c e), fun p hp => absurd (show p ∈ ([] : List (Addr × Obj)) from hp) (by simp), I.hok.kept hk, ?_⟩
  · show scope.kind = _
    exact O.kind
  · have hy' : (relabel scope X.env).names.lookup y = some .cell ∨ (relabel scope X.env).names.lookup y = some .free := hy
    rw [comp_kind I O] at hy'
    have hfree : scope.names.lookup y = some .free := by
      cases e : scope.names.lookup y with
      | none => rw [e] at hy'; rcases hy' with z | z <;> cases z
      | some k =>
        rw [e] at hy'
        by_cases hk : k = .free
        · rw [hk]
        · rw [Option.map_some, if_neg hk] at hy'
          rcases hy' with z | z
          · have : k = .cell := Option.some.inj z
            exact absurd this (O.nocell (y, k) (PySem.mem_of_lookup e))
          · exact absurd (Option.some.inj z) hk
    exact Option.isSome_iff_exists.mp (clOf_mem scope.names [] y (.inr (PySem.mem_of_lookup hfree)))
  · have h2' : (clOf X.env.cells scope.names []).lookup y = some c := h2
    have hy : y ∈ xs := by
      have h1' : xs.contains y = true := h1
      simpa using h1'
    rcases clOf_from scope.names [] y c h2' with ⟨_, z⟩ | z
    · cases z
    · have q1 := (O.free (y, .free) z rfl).2
      rw [(O.own y hy).1] at q1
      cases q1
  · have e' : X.base.get? b = some o := e
    rcases (hf b hb).2.2.2.1 with z | z
    · exact I.ok.noex b o e' z
    · exact absurd (Nat.lt_of_lt_of_le (Heap.lt_size e') (Nat.le_trans I.ok.bsz z)) (Nat.lt_irrefl _)
  · rcases List.mem_cons.mp (I.stkSub b z) with q | q
    · exact (hf b hb).2.1 q
    · exact (hf b hb).2.2.1 q
  · have e1' : (xs ++ N')[i]? = some y := e1
    by_cases hi : i < xs.length
    · rw [List.getElem?_append_left (by simpa using hi), List.getElem?_map] at e2
      cases q : xs[i]? with
      | none => rw [q] at e2; cases e2
      | some z => rw [q] at e2; cases e2
    · rw [List.getElem?_append_right (by simpa using hi)] at e2
      rw [List.getElem?_append_right (by omega)] at e1'
      rw [List.length_map] at e2
      have hyN : y ∈ N' := List.mem_of_getElem? e1'
      have e3' : Vis (relabel scope X.env) y := e3
      unfold Vis at e3'
      rw [comp_kind I O] at e3'
      have hfree : scope.names.lookup y = some .free := by
        cases e : scope.names.lookup y with
        | none => rw [e] at e3'; rcases e3' with z | z | z <;> cases z
        | some k =>
          rw [e] at e3'
          by_cases hk : k = .free
          · rw [hk]
          · rw [Option.map_some, if_neg hk] at e3'
            rcases e3' with z | z | z
            · have : k = .local := Option.some.inj z
              subst this
              exact absurd e (O.out y hyN)
            · have : k = .cell := Option.some.inj z
              exact absurd this (O.nocell (y, k) (PySem.mem_of_lookup e))
            · exact absurd (Option.some.inj z) hk
      have hXc := (O.free (y, .free) (PySem.mem_of_lookup hfree) rfl).1
      obtain ⟨m, hn0, hl⟩ := I.loc
      have e1N := O.pair _ y e1' (by rw [hfree]; simp)
      obtain ⟨u, r, l⟩ := hl _ y v e1N e2 (.inr (.inl hXc))
      refine ⟨u, r, ?_⟩
      rcases l with ⟨l1, _⟩ | ⟨_, c, hc, o, ho, hd⟩
      · have : X.env.scope.names.lookup y = some .local := l1
        rw [hXc] at this
        cases this
      · refine .inr ⟨.inl ?_, c, ?_, o, hk c o ho, hd⟩
        · show (relabel scope X.env).names.lookup y = _
          rw [comp_kind I O, hfree]
          rfl
        · obtain ⟨c', hc'⟩ := Option.isSome_iff_exists.mp (clOf_mem (cells := X.env.cells) scope.names [] y (.inr (PySem.mem_of_lookup hfree)))
          have q := hcl y c' hc'
          rw [hc] at q
          show (clOf X.env.cells scope.names []).lookup y = some c
          rw [hc', ← Option.some.inj q]
  · obtain ⟨v, o, ho, hd⟩ := I.cell y c (hcl y c e)
    exact ⟨v, o, hk c o ho, hd⟩
  · show (xs.map (fun _ => none) ++ σ).length = (xs ++ N').length
    rw [List.length_append, List.length_append, List.length_map, I.len, O.len]
end
end L2
namespace L2
open PySem PySem.Spec PyProof.Rows
def PF (X : Cx) (ifs : List Expr) (t : TT) : Prop :=
  ∀ (pins : List (Addr × Obj)) (s : Shared) (σ : St) (H : Hp) (Q : Bool → Hp → Prop), Inv X pins σ H s → t σ H Q →
    wpAny (model X.prog X.w) X.A (forIn ifs true fun c r => if r = true then do let ok ← isTrue c X.env (eval c X.env); pure (ForInStep.yield ok) else pure (ForInStep.yield r)) (TP X pins σ Q) X.xe s
def tYes : TT := fun _ H Q => Q true H
theorem pf_nil {X : Cx} : PF X [] tYes := fun _ _ _ H _ I h => wpAny_tests_nil ⟨H, I, h⟩
theorem pf_one {X : Cx} {c : Expr} {t : TT} (h : PT X c t) : PF X [c] t := fun pins s σ H Q I q => wpAny_tests_one (h pins s σ H Q I q)
def tComp (k : Nat) (wi : TI) (g : TG) (tc : TT) (te : TE) : TE := fun σ H Q => wi σ H fun J H1 => ∀ D, H1 D = none → ∃ W : Nat → Nat → Hp → Prop, (∃ m, W 0 m (upd H1 D (.lst []))) ∧ ∀ i m H2, W i m H2 →
  (J.stop i H2 ∧ Q (.ref D) H2) ∨ (J.go i H2 ∧ ∀ x H3, J.yld i H2 x H3 → ∀ v0 : List (Option V), v0.length = k → g x (v0 ++ σ) H3 fun σ2 H4 => ∃ v1 : List (Option V), v1.length = k ∧ σ2 = v1 ++ σ ∧
    tc σ2 H4 fun b H5 => if b = true then te σ2 H5 fun y H6 => ∃ ys, H6 D = some (.lst ys) ∧ ys.length < sizeLine ∧ ∃ m', m' < m ∧ W (i + 1) m' (upd H6 D (.lst (ys ++ [y]))) else ∃ m', m' < m ∧ W (i + 1) m' H5)
theorem compLoop_any {prog : Program} {w : World} {A : Around} {R : Result → Shared → Prop} {s : Shared} {elt target iter : Expr} {ifs : List Expr} {scope : Scope} {pos : Pos} {it acc : Value} {env : Env} (I : Nat → Shared → Prop)
    (turn : ∀ n s, I n s → wpAny (model prog w) A (pyNext it) (fun r s₁ => match r with
      | none => R (.ok .next) s₁
      | some v => wpAny (model prog w) A (letOwnedTupleGo target it v) (fun _ s₁' => wpAny (model prog w) A (assign target env v) (fun _ s₂ =>
          wpAny (model prog w) A (forIn ifs true fun c r => if r = true then do let ok ← isTrue c env (eval c env); pure (ForInStep.yield ok) else pure (ForInStep.yield r)) (fun ok s₃ =>
            if ok = true then wpAny (model prog w) A (eval elt env) (fun x s₄ =>
              wpAny (model prog w) A (call (.builtin "list.append") [acc, x]) (fun _ s₅ => ∃ m, m < n ∧ I m s₅) (fun _ _ => False) s₄) (fun _ _ => False) s₃
            else ∃ m, m < n ∧ I m s₃) (fun _ _ => False) s₂) (fun _ _ => False) s₁') (fun _ _ => False) s₁) (fun _ _ => False) s)
    (n : Nat) (h : I n s) :
    codeAny (model prog w) A (.compLoop (.ListComp elt [⟨target, iter, ifs, 0⟩] scope pos) 0 it acc env) R s := by
  refine codeAny_loop rfl I (fun n s hI => ?_) n h
  show wpAny _ A ((compTurn (.ListComp elt [⟨target, iter, ifs, 0⟩] scope pos) 0 it acc env).onRaise (fun x => do noteFrame x env; theTreesLotGoes x)) _ _ s
  refine wpAny_noted ?_
  rw [compTurn_list]
  refine wpAny_bind (wpAny_standAt (wpAny_bind (wpAny_mono (turn n s hI) (fun r s₁ h₁ => ?_) fun _ _ h' => h'.elim)))
  cases r with
  | none => exact wpAny_pure h₁
  | some v =>
    refine wpAny_bind (wpAny_mono h₁ (fun _ s₁' h₁' => ?_) fun _ _ h' => h'.elim)
    refine wpAny_bind (wpAny_mono h₁' (fun _ s₂ h₂ => wpAny_bind (wpAny_mono h₂ (fun ok s₃ h₃ => ?_) fun _ _ h' => h'.elim)) fun _ _ h' => h'.elim)
    cases ok with
    | false => exact wpAny_pure ⟨rfl, h₃⟩
    | true =>
      exact wpAny_bind (wpAny_bind (wpAny_mono h₃ (fun x s₄ h₄ => wpAny_bind (wpAny_mono h₄ (fun _ s₅ h₅ => wpAny_pure (wpAny_pure ⟨rfl, h₅⟩)) fun _ _ h' => h'.elim)) fun _ _ h' => h'.elim))
section
variable {X : Cx}
/-- the block, up to its end: R is asked at the last state -/
theorem comp_block {tg iter elt : Expr} {ifs : List Expr} {scope : Scope} {xs N' : List Str} {pos : Pos} {g : TG} {tc : TT} {te : TE} (hc : X.calm = true) (O : CompOk scope X.env.scope X.N N' xs)
    (hg : ∀ C s0 H0 fp, PG (cxComp X scope C xs N' s0 H0 fp) tg g) (hf : ∀ C s0 H0 fp, PF (cxComp X scope C xs N' s0 H0 fp) ifs tc) (he : ∀ C s0 H0 fp, PE (cxComp X scope C xs N' s0 H0 fp) elt te)
    {pins : List (Addr × Obj)} {σ : St} {H1 : Hp} {s2 : Shared} {it : Addr} {fp : List Addr} {tn : Nat → Heap → Prop} {J : It} {Q : VK} {E : Value → Shared → Prop} {RR : Value → Addr → Result → Shared → Prop}
    (I2 : Inv X pins σ H1 s2) (T : Turn X.prog X.w X.K tg J fp it tn) (st2 : tn 0 s2.heap) (f2 : ∀ b ∈ fp, FpOk X pins H1 b)
    (h : ∀ D, H1 D = none → ∃ W : Nat → Nat → Hp → Prop, (∃ m, W 0 m (upd H1 D (.lst []))) ∧ ∀ i m H2, W i m H2 →
      (J.stop i H2 ∧ Q (.ref D) H2) ∨ (J.go i H2 ∧ ∀ x H3, J.yld i H2 x H3 → ∀ v0 : List (Option V), v0.length = xs.length → g x (v0 ++ σ) H3 fun σ2 H4 => ∃ v1 : List (Option V), v1.length = xs.length ∧ σ2 = v1 ++ σ ∧
        tc σ2 H4 fun b H5 => if b = true then te σ2 H5 fun y H6 => ∃ ys, H6 D = some (.lst ys) ∧ ys.length < sizeLine ∧ ∃ m', m' < m ∧ W (i + 1) m' (upd H6 D (.lst (ys ++ [y]))) else ∃ m', m' < m ∧ W (i + 1) m' H5))
    (hRR : ∀ D C s' H', (∃ m, s'.heap.Ns C m) → (∀ h', Heap.SameBut C s'.heap h' → Inv X pins σ H' { s' with heap := h' }) → s2.heap.objs.size ≤ D → s2.heap.objs.size ≤ C → Q (.ref D) H' → RR (.ref D) C (.ok .next) s') :
    wpAny (model X.prog X.w) X.A (newList []) (fun acc s₃ => wpAny (model X.prog X.w) X.A (newFunctionEnv scope X.env.globals (clOf X.env.cells scope.names []) [] X.env.qual none .none (some X.env)) (fun cenv s₄ =>
      codeAny (model X.prog X.w) X.A (.compStart (.ListComp elt [⟨tg, iter, ifs, 0⟩] scope pos) 0 (.ref it) acc { cenv with scope := relabel scope X.env }) (RR acc cenv.locals) s₄) E s₃) E s2 := by
  refine wpAny_newObj_type (wpAny_newFunctionEnv O.nocell (by intro y hy; simp at hy) (fun h₁ hns₁ hsb₁ => ?_) O.kind)
  dsimp only at hns₁ hsb₁ ⊢
  have hD : H1 s2.heap.objs.size = none := I2.hok.fresh (Nat.le_refl _)
  obtain ⟨W, ⟨m0, w0⟩, turn⟩ := h s2.heap.objs.size hD
  have I3 : Inv X pins σ (upd H1 s2.heap.objs.size (.lst [])) { s2 with heap := s2.heap.push { cls := .type "list", dict := none, data := .seq ([] : List Value).toArray } } :=
    I2.laid (t' := s2.toks) (fun b u e => Heap.get?_push_of_some _ e) (Nat.le_refl _) ⟨Nat.zero_le _, [], 0, .nil, Heap.get?_push_size _ rfl⟩
  have lt2 : ∀ b ∈ fp, b < s2.heap.objs.size := fun b hb => by
    obtain ⟨o, e, _⟩ := T.obj _ _ st2 b hb
    exact Heap.lt_size e
  have f3 : ∀ b ∈ fp, FpOk X pins (upd H1 s2.heap.objs.size (.lst [])) b := fun b hb => by
    obtain ⟨q0, q⟩ := f2 b hb
    exact ⟨by rw [upd_ne (Nat.ne_of_lt (lt2 b hb))]; exact q0, q⟩
  generalize hs3 : ({ s2 with heap := s2.heap.push { cls := .type "list", dict := none, data := .seq ([] : List Value).toArray } } : Shared) = s3 at I3
  have hheap : s3.heap = s2.heap.push { cls := .type "list", dict := none, data := .seq ([] : List Value).toArray } := by rw [← hs3]
  have hsz : s3.heap.objs.size = s2.heap.objs.size + 1 := by rw [hheap, Heap.size_push]
  have old : ∀ b o, s3.heap.get? b = some o → h₁.get? b = some o := fun b o e =>
    hsb₁.extBut b o (by rw [← hheap]; exact Nat.ne_of_lt (Heap.lt_size e)) (Heap.get?_push_of_some _ (by rw [← hheap]; exact e))
  have J4 : Inv (cxComp X scope s3.heap.objs.size xs N' s3 (upd H1 s2.heap.objs.size (.lst [])) fp) [] (xs.map (fun _ => none) ++ σ) (upd H1 s2.heap.objs.size (.lst [])) { s3 with heap := h₁, toks := s2.toks + ([] : List (Str × Value)).length } :=
    inv_comp I3 O f3 (fun b hb => by rw [hsz]; exact Nat.lt_succ_of_lt (lt2 b hb)) (by rw [hheap]; exact hns₁) old
  have es4 : ({ s3 with heap := h₁, toks := s2.toks + ([] : List (Str × Value)).length } : Shared) = { s2 with heap := h₁, toks := s2.toks + ([] : List (Str × Value)).length } := by rw [← hs3]
  rw [es4] at J4
  have st4 : tn 0 h₁ := T.keep _ _ _ st2 fun b hb o e => old b o (by rw [hheap]; exact Heap.get?_push_of_some _ e)
  have hC : (s2.heap.push { cls := .type "list", dict := none, data := .seq ([] : List Value).toArray }).objs.size = s3.heap.objs.size := by rw [hheap]
  -- the iterator's objects, in the block's context
  have fpC : ∀ {H' : Hp}, (∀ b ∈ fp, H' b = none) → ∀ b ∈ fp, FpOk (cxComp X scope s3.heap.objs.size xs N' s3 (upd H1 s2.heap.objs.size (.lst [])) fp) [] H' b := fun hn b hb =>
    ⟨hn b hb, Nat.ne_of_lt (by rw [hsz]; exact Nat.lt_succ_of_lt (lt2 b hb)), J4.ok.exfs b hb, .inl hb, fun x c e => ((J4.ok.exf b hb).2 x c e), fun p hp => absurd (show p ∈ ([] : List (Addr × Obj)) from hp) (by simp)⟩
  have loop : codeAny (model X.prog X.w) X.A (.compLoop (.ListComp elt [⟨tg, iter, ifs, 0⟩] scope pos) 0 (.ref it) (.ref s2.heap.objs.size) (compEnvC scope (clOf X.env.cells scope.names []) s3.heap.objs.size X.env))
      (RR (.ref s2.heap.objs.size) s3.heap.objs.size) { s2 with heap := h₁, toks := s2.toks + ([] : List (Str × Value)).length } := by
    refine compLoop_any (fun n s' => ∃ (i : Nat) (v0 : List (Option V)) (H' : Hp), v0.length = xs.length ∧ Inv (cxComp X scope s3.heap.objs.size xs N' s3 (upd H1 s2.heap.objs.size (.lst [])) fp) [] (v0 ++ σ) H' s' ∧ tn i s'.heap ∧ (∀ b ∈ fp, H' b = none) ∧ W i n H') ?_ m0
      ⟨0, xs.map (fun _ => none), _, List.length_map _, J4, st4, fun b hb => (f3 b hb).1, w0⟩
    rintro n s5 ⟨i, v0, H5, hv0, I5, st5, fr5, w5⟩
    rcases turn i n H5 w5 with ⟨stop, qn⟩ | ⟨go, step⟩
    · refine thn (T.done (cxComp X scope s3.heap.objs.size xs N' s3 (upd H1 s2.heap.objs.size (.lst [])) fp) rfl rfl rfl hc i [] s5 (v0 ++ σ) H5 _ I5 (fpC fr5) st5 stop) fun r s6 ⟨hr, I6⟩ => ?_
      subst hr
      obtain ⟨m, hnm, _⟩ := I6.loc
      refine hRR _ _ s6 H5 ⟨m, hnm⟩ (fun h' hsb => ?_) (Nat.le_refl _) (by rw [hsz]; exact Nat.le_succ _) qn
      have ltC : ∀ b o, s3.heap.get? b = some o → b ≠ s3.heap.objs.size := fun b o e => Nat.ne_of_lt (Heap.lt_size e)
      have u := I6.base
      have I3' := I3.call' (s' := { s6 with heap := h' }) (H' := H5) (ch := fp) I6.os ⟨fun b o e n hb hx => hsb.extBut b _ (ltC b o e) (u.keep b o e n hb hx), fun b o e n hb hx => by
          obtain ⟨sl, q⟩ := u.slot b o e n hb hx
          exact ⟨sl, hsb.extBut b _ (ltC b o e) q⟩, u.free, fun b o e hx => by
          obtain ⟨o', q⟩ := u.there b o e hx
          exact ⟨o', hsb.extBut b _ (ltC b o e) q⟩, u.tups, u.frzs, u.tbls⟩ (fun a o e => ?_) I6.bare (fun b hb => ?_)
      · exact I3'
      · have hnC : ∀ b u, H5 b = some u → b ≠ s3.heap.objs.size := fun b u e z => by
          subst z
          have := I6.free
          have e2 : H5 s3.heap.objs.size = none := this
          rw [e2] at e
          cases e
        refine (I6.hok a o e).stay (fun b u hb q => hsb.extBut b u ?_ q) (fun _ q => q) fun _ _ q => q
        rcases hb with rfl | hb
        · exact hnC _ _ e
        · exact hnC _ _ hb
      · obtain ⟨q0, q1, q2, q3, q4, q5⟩ := f3 b hb
        exact ⟨q3, q1, q4, q5⟩
    · refine thn (T.item (cxComp X scope s3.heap.objs.size xs N' s3 (upd H1 s2.heap.objs.size (.lst [])) fp) rfl rfl rfl hc i [] s5 (v0 ++ σ) H5 _ I5 (fpC fr5) st5 go) fun r s6 ⟨u, hr, h6⟩ => ?_
      subst hr
      refine thn h6 fun _ s7 ⟨x, H7, I7, r7, y7, st7, fr7⟩ => ?_
      have I7' := I7.pinned (fpC fr7) (T.obj _ _ st7)
      refine thn (hg _ _ _ _ _ s7 (v0 ++ σ) H7 x u _ I7' r7 (step x H7 y7 v0 hv0)) fun _ s8 ⟨σ8, H8, I8, v1, hv1, e8, q8⟩ => ?_
      subst e8
      have fin : ∀ {s9 : Shared} {H9 : Hp}, Inv (cxComp X scope s3.heap.objs.size xs N' s3 (upd H1 s2.heap.objs.size (.lst [])) fp) ([] ++ pinsAt fp s7.heap) (v1 ++ σ) H9 s9 → (∃ m', m' < n ∧ W (i + 1) m' H9) →
          ∃ m, m < n ∧ ∃ (i : Nat) (v0 : List (Option V)) (H' : Hp), v0.length = xs.length ∧ Inv (cxComp X scope s3.heap.objs.size xs N' s3 (upd H1 s2.heap.objs.size (.lst [])) fp) [] (v0 ++ σ) H' s9 ∧ tn i s9.heap ∧ (∀ b ∈ fp, H' b = none) ∧ W i m H' := fun {s9 H9} I9 ⟨m', hm, w9⟩ => by
        refine ⟨m', hm, i + 1, v1, H9, hv1, I9.unpinned, T.keep _ _ _ st7 fun b hb o e => (I9.pin (b, o) (List.mem_append_right _ (List.mem_append_right _ (mem_pinsAt hb e)))).1, fun b hb => ?_, w9⟩
        obtain ⟨o, e, d⟩ := T.obj _ _ st7 b hb
        exact (I9.pin (b, o) (List.mem_append_right _ (List.mem_append_right _ (mem_pinsAt hb e)))).2.1
      refine thn (hf _ _ _ _ _ s8 (v1 ++ σ) H8 _ I8 q8) fun ok s9 ⟨H9, I9, q9⟩ => ?_
      cases ok with
      | false => exact fin I9 q9
      | true =>
        show wpAny _ _ _ _ _ _
        refine thn (he _ _ _ _ _ s9 (v1 ++ σ) H9 _ I9 q9) fun y s10 ⟨vy, H10, I10, r10, ys, hys, hl, q10⟩ => ?_
        refine thn (mt_append (X := cxComp X scope s3.heap.objs.size xs N' s3 (upd H1 s2.heap.objs.size (.lst [])) fp) _ s10 (v1 ++ σ) H10 (.ref s2.heap.objs.size) [vy] _ [y] (fun _ H' => ∃ m', m' < n ∧ W (i + 1) m' H') I10 rfl (.cons r10 .nil) ⟨_, ys, vy, rfl, rfl, hys, hl, q10⟩) fun _ s11 ⟨_, H11, I11, _, q11⟩ => ?_
        exact fin I11 q11
  rw [hC]
  exact codeAny_compStart_list loop (T.self X.A 0 _ _ _ st4 loop)
theorem pe_comp {tg iter elt : Expr} {ifs : List Expr} {scope : Scope} (xs N' : List Str) {pos : Pos} {wi : TI} {g : TG} {tc : TT} {te : TE} (hc : X.calm = true) (ho : compOk scope X.env.scope X.N N' xs = true) (hi : PI X tg iter wi)
    (hg : ∀ C s0 H0 fp, PG (cxComp X scope C xs N' s0 H0 fp) tg g) (hf : ∀ C s0 H0 fp, PF (cxComp X scope C xs N' s0 H0 fp) ifs tc) (he : ∀ C s0 H0 fp, PE (cxComp X scope C xs N' s0 H0 fp) elt te)
    (hs : ∀ z, foldedSetIterable iter X.env z = pure z := by intro _; rfl) : PE X (.ListComp elt [⟨tg, iter, ifs, 0⟩] scope pos) (tComp xs.length wi g tc te) := by
  intro pins s σ H Q I h
  have O := CompOk.of ho
  rw [eval_ListComp]
  refine wpAny_comprehension_free (use := none) rfl hs (closure_of (comp_cells I O)) O.kind O.loc (thn (hi pins s σ H _ I h) fun v s1 h1 => thn h1 fun itv s2 h2 => ?_)
  obtain ⟨it, fp, tn, J, H2, e, I2, T, st2, f2, hq⟩ := h2
  subst e
  refine comp_block (RR := fun acc C => compPost (model X.prog X.w) X.A X.xe none (EP X pins σ Q) acc C) hc O hg hf he I2 T st2 f2 hq ?_
  intro D C s' H' ⟨m, hm⟩ hI _ _ q
  exact ⟨m, hm, fun h' hsb => ⟨.ref D, H', hI h' hsb, rfl, q⟩⟩
end
end L2
namespace L2
open PySem PySem.Spec PyProof.Rows
/-! readings of a comprehension -/
def CNext (D : Addr) (n i : Nat) (Pv : Nat → List V → Hp → Prop) (y : V) (H6 : Hp) : Prop :=
  ∃ ys, H6 D = some (.lst ys) ∧ ys.length < sizeLine ∧ ∃ m', m' < n - i ∧ (m' = n - (i + 1) ∧ i + 1 ≤ n ∧ ∃ zs, Pv (i + 1) zs (upd H6 D (.lst (ys ++ [y]))))
theorem cnext {D : Addr} {n i : Nat} {Pv : Nat → List V → Hp → Prop} {y : V} {H6 : Hp} {ys zs : List V} (hi : i < n) (h1 : H6 D = some (.lst ys)) (h2 : ys.length < sizeLine) (h3 : Pv (i + 1) zs (upd H6 D (.lst (ys ++ [y])))) : CNext D n i Pv y H6 :=
  ⟨ys, h1, h2, n - (i + 1), by omega, rfl, hi, zs, h3⟩
theorem comp_list {K : PySem.W.Frag} {a D : Addr} {xs : List V} {te : TE} {σ : St} {H1 : Hp} {R : Hp → Prop} (Pv : Nat → List V → Hp → Prop) (h0 : Pv 0 [] (upd H1 D (.lst []))) (hl : ∀ i ys H, Pv i ys H → SqL K H a xs)
    (hs : ∀ i x ys H, xs[i]? = some x → Pv i ys H → te (some x :: σ) H (CNext D xs.length i Pv)) (hd : ∀ ys H, Pv xs.length ys H → R H) :
    ∃ W : Nat → Nat → Hp → Prop, (∃ m, W 0 m (upd H1 D (.lst []))) ∧ ∀ i m H2, W i m H2 →
      ((Itl K a).stop i H2 ∧ R H2) ∨ ((Itl K a).go i H2 ∧ ∀ x H3, (Itl K a).yld i H2 x H3 → ∀ v0 : List (Option V), v0.length = 1 → gName 0 x (v0 ++ σ) H3 fun σ2 H4 => ∃ v1 : List (Option V), v1.length = 1 ∧ σ2 = v1 ++ σ ∧
        tYes σ2 H4 fun b H5 => if b = true then te σ2 H5 fun y H6 => ∃ ys, H6 D = some (.lst ys) ∧ ys.length < sizeLine ∧ ∃ m', m' < m ∧ W (i + 1) m' (upd H6 D (.lst (ys ++ [y]))) else ∃ m', m' < m ∧ W (i + 1) m' H5) := by
  refine ⟨fun i m H => m = xs.length - i ∧ i ≤ xs.length ∧ ∃ ys, Pv i ys H, ⟨xs.length, by simp, Nat.zero_le _, [], h0⟩, ?_⟩
  rintro i m H ⟨rfl, hi, ys, p⟩
  have q := hl i ys H p
  by_cases hlt : i < xs.length
  · refine .inr ⟨⟨xs, xs[i], q, by simp [hlt]⟩, fun x H' y v0 hv0 => ?_⟩
    obtain ⟨e, y⟩ := y
    subst e
    match v0, hv0 with
    | [_], _ => exact ⟨[some x], rfl, rfl, hs i x ys _ (y xs q) p⟩
  · have e : i = xs.length := by omega
    subst e
    exact .inl ⟨⟨xs, q, Nat.le_refl _⟩, hd ys H p⟩
theorem comp_tup {K : PySem.W.Frag} {a D : Addr} {xs : List V} {te : TE} {σ : St} {H1 : Hp} {R : Hp → Prop} (Pv : Nat → List V → Hp → Prop) (h0 : Pv 0 [] (upd H1 D (.lst []))) (hl : ∀ i ys H, Pv i ys H → SqT K H a xs)
    (hs : ∀ i x ys H, xs[i]? = some x → Pv i ys H → te (some x :: σ) H (CNext D xs.length i Pv)) (hd : ∀ ys H, Pv xs.length ys H → R H) :
    ∃ W : Nat → Nat → Hp → Prop, (∃ m, W 0 m (upd H1 D (.lst []))) ∧ ∀ i m H2, W i m H2 →
      ((Itt K a).stop i H2 ∧ R H2) ∨ ((Itt K a).go i H2 ∧ ∀ x H3, (Itt K a).yld i H2 x H3 → ∀ v0 : List (Option V), v0.length = 1 → gName 0 x (v0 ++ σ) H3 fun σ2 H4 => ∃ v1 : List (Option V), v1.length = 1 ∧ σ2 = v1 ++ σ ∧
        tYes σ2 H4 fun b H5 => if b = true then te σ2 H5 fun y H6 => ∃ ys, H6 D = some (.lst ys) ∧ ys.length < sizeLine ∧ ∃ m', m' < m ∧ W (i + 1) m' (upd H6 D (.lst (ys ++ [y]))) else ∃ m', m' < m ∧ W (i + 1) m' H5) := by
  refine ⟨fun i m H => m = xs.length - i ∧ i ≤ xs.length ∧ ∃ ys, Pv i ys H, ⟨xs.length, by simp, Nat.zero_le _, [], h0⟩, ?_⟩
  rintro i m H ⟨rfl, hi, ys, p⟩
  have q := hl i ys H p
  by_cases hlt : i < xs.length
  · refine .inr ⟨⟨xs, xs[i], q, by simp [hlt]⟩, fun x H' y v0 hv0 => ?_⟩
    obtain ⟨e, y⟩ := y
    subst e
    match v0, hv0 with
    | [_], _ => exact ⟨[some x], rfl, rfl, hs i x ys _ (y xs q) p⟩
  · have e : i = xs.length := by omega
    subst e
    exact .inl ⟨⟨xs, q, Nat.le_refl _⟩, hd ys H p⟩
theorem comp_range {lo : Int} {n : Nat} {D : Addr} {te : TE} {σ : St} {H1 : Hp} {R : Hp → Prop} (Pv : Nat → List V → Hp → Prop) (h0 : Pv 0 [] (upd H1 D (.lst [])))
    (hs : ∀ i ys H, i < n → Pv i ys H → te (some (.int (lo + i)) :: σ) H (CNext D n i Pv)) (hd : ∀ ys H, Pv n ys H → R H) :
    ∃ W : Nat → Nat → Hp → Prop, (∃ m, W 0 m (upd H1 D (.lst []))) ∧ ∀ i m H2, W i m H2 →
      ((Itr lo n).stop i H2 ∧ R H2) ∨ ((Itr lo n).go i H2 ∧ ∀ x H3, (Itr lo n).yld i H2 x H3 → ∀ v0 : List (Option V), v0.length = 1 → gName 0 x (v0 ++ σ) H3 fun σ2 H4 => ∃ v1 : List (Option V), v1.length = 1 ∧ σ2 = v1 ++ σ ∧
        tYes σ2 H4 fun b H5 => if b = true then te σ2 H5 fun y H6 => ∃ ys, H6 D = some (.lst ys) ∧ ys.length < sizeLine ∧ ∃ m', m' < m ∧ W (i + 1) m' (upd H6 D (.lst (ys ++ [y]))) else ∃ m', m' < m ∧ W (i + 1) m' H5) := by
  refine ⟨fun i m H => m = n - i ∧ i ≤ n ∧ ∃ ys, Pv i ys H, ⟨n, by simp, Nat.zero_le _, [], h0⟩, ?_⟩
  rintro i m H ⟨rfl, hi, ys, p⟩
  by_cases hlt : i < n
  · refine .inr ⟨hlt, fun x H' y v0 hv0 => ?_⟩
    obtain ⟨e, y⟩ := y
    subst e y
    match v0, hv0 with
    | [_], _ => exact ⟨[some (.int (lo + i))], rfl, rfl, hs i ys _ hlt p⟩
  · have e : i = n := by omega
    subst e
    exact .inl ⟨Nat.le_refl _, hd ys H p⟩
theorem bools_get {bs : List Bool} : ∀ {us : List Value}, Vals (bs.map V.bl) us → us = bs.map Value.bool := by
  induction bs with
  | nil => intro us r; rw [List.map_nil] at r; cases r; rfl
  | cons b bs ih =>
    intro us r
    rw [List.map_cons] at r
    cases r with
    | cons r1 r2 =>
      have e : _ = Value.bool b := r1
      rw [e, ih r2]
      rfl
theorem range_all2 (bs : List Bool) : ((List.range bs.length).all fun i => (bs[i]?).getD true) = bs.all id := by
  rw [Bool.eq_iff_iff, List.all_eq_true, List.all_eq_true]
  constructor
  · intro h b hb
    obtain ⟨i, hi, rfl⟩ := List.getElem_of_mem hb
    have := h i (List.mem_range.mpr hi)
    simp only [List.getElem?_eq_getElem hi, Option.getD_some] at this
    exact this
  · intro h i hi
    have hi' := List.mem_range.mp hi
    simp only [List.getElem?_eq_getElem hi', Option.getD_some]
    exact h _ (List.getElem_mem hi')
section
variable {X : Cx}
theorem call_sumI (hc : X.calm = true) : CallR X (.builtin "sum") (fun xs H Q => ∃ (p : Addr) (ns : List Int), xs = [.ref p] ∧ SqL X.K H p (ns.map V.int) ∧ Q (.int ns.sum) H) := by
  intro pins s σ H xs us Q I r h
  obtain ⟨p, ns, rfl, hS, q⟩ := h
  obtain ⟨u, rfl, ru⟩ := Vals.one r
  cases (show u = Value.ref p from ru)
  obtain ⟨its, rv, pl, _⟩ := I.list hS
  have hi := intsAre_of rv
  obtain ⟨xs, hx⟩ := hi.allInts.items
  have hl' : s.heap.IsList p (intItems xs) := hx ▸ pl.isList
  refine sum_intListG (I.ok.hd hc) hl' fun h' tk t' hk => ?_
  have e1 : ns = xs.toList.map (·.1) := by
    rw [← nums_intItems, ← hx]
    exact (show numsOf its.toArray.toList = ns from hi.numsOf).symm
  have e2 : preSum (numAt xs) xs.size = ns.sum := by
    rw [preSum_eq, List.take_of_length_le (by simp), e1]
  rw [e2]
  exact ⟨.int ns.sum, H, I.kept hk, ⟨_, rfl⟩, q⟩
theorem call_allB (hc : X.calm = true) : CallR X (.builtin "all") (fun xs H Q => ∃ (p : Addr) (bs : List Bool), xs = [.ref p] ∧ SqL X.K H p (bs.map V.bl) ∧ Q (.bl (bs.all id)) H) := by
  intro pins s σ H xs us Q I r h
  obtain ⟨p, bs, rfl, hS, q⟩ := h
  obtain ⟨u, rfl, ru⟩ := Vals.one r
  cases (show u = Value.ref p from ru)
  obtain ⟨its, rv, pl, _⟩ := I.list hS
  have hb := bools_get rv
  have hl := pl.isList
  have hlt : p < s.heap.objs.size := by obtain ⟨_, e, _⟩ := hl; exact Heap.lt_size e
  refine call_all_walk (wpAny_pyIter_list hl ?_)
  refine ⟨s.heap.objs.size, [s.heap.objs.size, p], [s.heap.objs.size], its.toArray.size, _, _, fun i => (bs[i]?).getD true, rfl, Walks.list (A := X.A.in1) (I.ok.hd hc) _ p (Nat.ne_of_lt hlt) its.toArray,
    ⟨⟨_, Heap.get?_push_size _ rfl, rfl, rfl⟩, hl.push _⟩, fun i v s' Q' E' hP hQ => ?_, fun h' tk hk => ?_⟩
  · have hv : its[i]? = some v := by simpa using hP
    rw [hb, List.getElem?_map] at hv
    cases e : bs[i]? with
    | none => rw [e] at hv; cases hv
    | some b =>
      rw [e] at hv
      simp only [e, Option.getD_some] at hQ
      have : v = Value.bool b := (Option.some.inj hv).symm
      subst this
      exact wpAny_truthy_bool hQ
  · have e : ((List.range its.toArray.size).all fun i => (bs[i]?).getD true) = bs.all id := by
      have el : its.toArray.size = bs.length := by rw [List.size_toArray, hb, List.length_map]
      rw [el]
      exact range_all2 bs
    rw [e]
    exact ⟨.bl _, H, I.kept fun b o z => hk b o (fun hm => by rw [List.mem_singleton.mp hm] at z; exact Nat.lt_irrefl _ (Heap.lt_size z)) (Heap.get?_push_of_some _ z), rfl, q⟩
end
end L2

set_option Elab.async false
set_option linter.all false
set_option maxRecDepth 100000
namespace L2
open PySem PySem.Spec PyProof.Rows
/-! further rules: equality of lists and tuples of ints, bit_length, count, ranges by steps, names of the top -/
theorem tup_shaped (ns : List Int) : SeqAt.shaped (.tuple (ns.map PyData.int)) = true := by
  simp [SeqAt.shaped, PyData.canLay0, PyData.depth, PySem.W.ke_canLayAll0, PySem.W.ke_depthAll]
theorem tup_same (ns ms : List Int) : PySem.Spec.same (.tuple (ns.map PyData.int)) (.tuple (ms.map PyData.int)) = decide (ns = ms) := by
  simp only [PySem.Spec.same]; exact PySem.W.ke_sameAll ns ms
section
variable {X : Cx}
def rEqTI (K : PySem.W.Frag) : R2 := fun x y H Q => ∃ (p p' : Addr) (ns ms : List Int), x = .ref p ∧ y = .ref p' ∧ SqT K H p (ns.map V.int) ∧ SqT K H p' (ms.map V.int) ∧ Q (.bl (decide (ns = ms))) H
def rNeTI (K : PySem.W.Frag) : R2 := fun x y H Q => ∃ (p p' : Addr) (ns ms : List Int), x = .ref p ∧ y = .ref p' ∧ SqT K H p (ns.map V.int) ∧ SqT K H p' (ms.map V.int) ∧ Q (.bl (!decide (ns = ms))) H
theorem op_eqTI (hu : X.A.units + 64 < cLine) : OpR X (compareOp .Eq) (rEqTI X.K) := by
  intro pins s σ H x y v u Q I rx ry h
  obtain ⟨p, p', ns, ms, rfl, rfl, h1, h2, q⟩ := h
  cases (show v = Value.ref p from rx)
  cases (show u = Value.ref p' from ry)
  obtain ⟨its, r1, t1, _⟩ := I.tuple h1
  obtain ⟨its2, r2, t2, _⟩ := I.tuple h2
  refine eq_dataH_same (reads_newDataT t1 (PySem.W.ke_carried (intsAre_of r1))) (reads_newDataT t2 (PySem.W.ke_carried (intsAre_of r2))) (tup_shaped _) (tup_shaped _) hu (SeqAt.noMix_of_shape (.tuples .int) rfl _ _ (tuples_map_has fun _ => rfl) (tuples_map_has fun _ => rfl)) ?_
  rw [tup_same]
  exact ⟨.bl _, H, I, rfl, q⟩
theorem op_neTI (hu : X.A.units + 64 < cLine) : OpR X (compareOp .NotEq) (rNeTI X.K) := by
  intro pins s σ H x y v u Q I rx ry h
  obtain ⟨p, p', ns, ms, rfl, rfl, h1, h2, q⟩ := h
  cases (show v = Value.ref p from rx)
  cases (show u = Value.ref p' from ry)
  obtain ⟨its, r1, t1, _⟩ := I.tuple h1
  obtain ⟨its2, r2, t2, _⟩ := I.tuple h2
  refine ne_dataH_same (reads_newDataT t1 (PySem.W.ke_carried (intsAre_of r1))) (reads_newDataT t2 (PySem.W.ke_carried (intsAre_of r2))) (tup_shaped _) (tup_shaped _) hu (SeqAt.noMix_of_shape (.tuples .int) rfl _ _ (tuples_map_has fun _ => rfl) (tuples_map_has fun _ => rfl)) ?_
  rw [tup_same]
  exact ⟨.bl _, H, I, rfl, q⟩
theorem mt_bits : MtR X "int.bit_length" (fun x xs H Q => ∃ i : Int, x = .int i ∧ xs = [] ∧ Q (.int (Builtin.Int.intBits i : Nat)) H) := by
  intro pins s σ H x xs v us Q I rx rv h
  obtain ⟨i, rfl, rfl, q⟩ := h
  obtain ⟨t, rfl⟩ := rx
  cases rv
  exact call_gives F.slot_int_bit_length (typeIs_int s i t) F.entry_int_bit_length (F.args_int_bit_length_1 _) (PySem.AutoIntG2.int_bit_length_int_0 i t) (show EP X pins σ Q (.int _ _) _ from ⟨.int _, H, I.tok _, ⟨_, rfl⟩, q⟩)
theorem pe_globx {x : Str} {v : V} {pos : Pos} (hg : Gl X x) (hm : ∃ u, X.mg x = some u ∧ RelV v u) (hd : (x == ("__debug__" : Str)) = false := by decide) : PE X (.Name x pos) (tC v) := by
  obtain ⟨u, h1, h2⟩ := hm
  exact pe_glob hg h1 h2 hd
theorem vals_bools {bs : List Bool} : ∀ {us : List Value}, Vals (bs.map V.bl) us → ∀ h : Heap, ReadsAll h us (bs.map PyData.bool) [] := by
  induction bs with
  | nil => intro us r h; rw [List.map_nil] at r; cases r; exact .nil
  | cons b bs ih =>
    intro us r h
    rw [List.map_cons] at r
    cases r with
    | cons r1 r2 =>
      cases (show _ = Value.bool b from r1)
      exact .cons (as := []) (bs := []) (.bool b) (ih r2 h)
theorem mt_countB : MtR X "list.count" (fun x xs H Q => ∃ (p : Addr) (bs : List Bool) (k : Bool), x = .ref p ∧ xs = [.bl k] ∧ SqL X.K H p (bs.map V.bl) ∧ Q (.int (countIn (.bool k) (bs.map PyData.bool))) H) := by
  intro pins s σ H x xs v us Q I rx rv h
  obtain ⟨p, bs, k, rfl, rfl, hS, q⟩ := h
  cases (show v = Value.ref p from rx)
  obtain ⟨u, rfl, ru⟩ := Vals.one rv
  cases (show u = Value.bool k from ru)
  obtain ⟨its, r1, pl, _⟩ := I.list hS
  refine count_list_bools (hp := s.heap) pl.isList (vals_bools r1 s.heap) (by rw [List.all_map]; exact List.all_eq_true.mpr fun _ _ => rfl) ⟨.int _, H, I.tok _, ⟨_, rfl⟩, q⟩
/-! a range by a step -/
def Its (lo st : Int) (n : Nat) : It := ⟨fun i _ => i < n, fun i H x H' => H' = H ∧ x = .int (lo + i * st), fun i _ => n ≤ i⟩
theorem turn_rangeS {P : Program} {w : World} {K : PySem.W.Frag} {tg : Expr} (it : Addr) (lo st : Int) (n : Nat) : Turn P w K tg (Its lo st n) [it] it (fun i h => IsRangeIter h it (lo + (i : Nat) * st) ((n : Int) - (i : Nat)) st) where
  mem := by simp
  obj := fun i h st b hb => by
    have e : b = it := by simpa using hb
    subst e
    exact ⟨_, st, fun v z => by
      have z' : Data.fields _ = Data.cell v := z
      cases z'⟩
  keep := fun i h h' st k => k it (by simp) _ st
  item := by
    intro X hP hw hK hc i pins s σ H E I hf sti hg
    subst hP hw hK
    obtain ⟨f0, f1, f2, f3, f4, f5⟩ := hf it (by simp)
    have W := Walks.range (prog := X.prog) (w := X.w) (I.ok.hd hc) it lo st n
    refine W.item i s _ _ hg sti fun v h' tk hv st' kk => ?_
    obtain ⟨t, rfl⟩ := hv
    have I1 : Inv X pins σ H { s with heap := h', toks := tk } := I.turned (fun b o hb e => kk b o (by simpa using hb) e) f0 f1 f3 f4 f5
    exact ⟨_, rfl, go_of (s := { s with heap := h', toks := tk }) (n := "range_iterator") st' rfl rfl (by decide) ⟨.int (lo + i * st), H, I1, ⟨t, rfl⟩, ⟨rfl, rfl⟩, st', fun b hb => (hf b hb).1⟩⟩
  done := by
    intro X hP hw hK hc i pins s σ H E I hf sti hg
    subst hP hw hK
    obtain ⟨f0, f1, f2, f3, f4, f5⟩ := hf it (by simp)
    exact wpAny_pyNext_range_end (I.ok.hd hc) sti (by have : n ≤ i := hg; omega) fun h' eb => ⟨rfl, I.turned (t' := s.toks) (fun b o hb e => eb b o hb e) f0 f1 f3 f4 f5⟩
  self := fun _ _ _ _ _ st h => wpAny_pyIter_rangeiter st h
theorem rangeS_it {tg : Expr} {pins : List (Addr × Obj)} {σ : St} {H : Hp} {s : Shared} {R : It → Hp → Prop} {E : Value → Shared → Prop} {lo hi st : Int} {n : Nat} {t u v : Tok} {tk : Nat} (I : Inv X pins σ H s) (hs : Builtin.Range.small lo hi st = true) (hn : Builtin.Range.rangeSize lo hi st = (n : Int))
    (q : R (Its lo st n) H) : wpAny (model X.prog X.w) X.A (pyIter (.ref s.heap.objs.size)) (PIE X pins σ tg R) E { s with heap := s.heap.push { cls := .type "range", data := .fields #[.int lo t, .int hi u, .int st v] }, toks := tk } := by
  refine wpAny_pyIter_range (IsRange.new ..) hs ?_
  have I1 : Inv X pins σ H { s with heap := s.heap.push { cls := .type "range", data := .fields #[.int lo t, .int hi u, .int st v] }, toks := tk } := I.kept fun b o e => Heap.get?_push_of_some _ e
  refine ⟨(s.heap.push { cls := .type "range", data := .fields #[.int lo t, .int hi u, .int st v] }).objs.size, [(s.heap.push { cls := .type "range", data := .fields #[.int lo t, .int hi u, .int st v] }).objs.size], _, _, H, rfl,
    I1.kept (t' := tk) fun b o e => Heap.get?_push_of_some _ e, turn_rangeS _ lo st n, ?_, fun b hb => ?_, q⟩
  · have e1 : lo + ((0 : Nat) : Int) * st = lo := by simp
    have e2 : (n : Int) - ((0 : Nat) : Int) = Builtin.Range.rangeSize lo hi st := by rw [hn]; simp
    show IsRangeIter _ _ (lo + ((0 : Nat) : Int) * st) ((n : Int) - ((0 : Nat) : Int)) st
    rw [e1, e2]
    exact Heap.get?_push_size _ rfl
  · have e : b = (s.heap.push { cls := .type "range", data := .fields #[.int lo t, .int hi u, .int st v] }).objs.size := by simpa using hb
    subst e
    exact I1.fpOk (Nat.le_refl _) (I1.hok.fresh (Nat.le_refl _))
def iRng3 (ta : TA) : TI := fun σ H R => ta σ H fun vs H1 => ∃ (i j k : Int) (n : Nat), vs = [.int i, .int j, .int k] ∧ (k ≠ 0 ∧ k.natAbs < 1073741824 ∧ Builtin.Range.small i j k = true ∧ Builtin.Range.rangeSize i j k = (n : Int)) ∧ R (Its i k n) H1
theorem pi_range3 {tg a b c : Expr} {ta : TA} {p pos : Pos} (hg : Gl X "range") (hm : X.mg "range" = none) (ha : PA X [a, b, c] ta) (hs : starEach [a, b, c] X.env = [(false, eval a X.env), (false, eval b X.env), (false, eval c X.env)] := by rfl) (hs2 : starEach [b, c] X.env = [(false, eval b X.env), (false, eval c X.env)] := by rfl) :
    PI X tg (.Call (.Name "range" p) [a, b, c] [] pos) (iRng3 ta) := by
  intro pins s σ H R I h
  refine Call_ (ld_blt I hg hm boot_range (PyProof.Rows.callWith_type1 (thn (ha pos pins s σ H _ I h) fun us s1 ⟨vs, H1, I1, r1, q1⟩ => ?_) (by rw [hs, hs2]) (by rw [hs2]; rfl)))
  obtain ⟨i, j, k, n, e, ⟨q1, q2, q3, q4⟩, q⟩ := q1
  subst e
  cases r1 with
  | cons r rr =>
    cases rr with
    | cons r' rr =>
      cases rr with
      | cons r'' rr =>
        cases rr
        obtain ⟨t, rfl⟩ := r
        obtain ⟨t', rfl⟩ := r'
        obtain ⟨t'', rfl⟩ := r''
        exact call_range_3 q1 (rangeS_it I1 q3 q4 q) (.inl (PyProof.noPylong_small q2))
theorem for_rangeS {lo st : Int} {n : Nat} {g : TG} {tb : TS} {D : Ends} {σ : St} {H : Hp} (Pv : Nat → St → Hp → Prop) (h0 : Pv 0 σ H)
    (hs : ∀ i σ H, i < n → Pv i σ H → g (.int (lo + i * st)) σ H fun σ2 H2 => tb { D with nx := Pv (i + 1), ct := Pv (i + 1), bk := D.nx } σ2 H2) (hd : ∀ σ H, Pv n σ H → D.nx σ H) :
    ∃ W : Nat → Nat → St → Hp → Prop, (∃ m, W 0 m σ H) ∧ ∀ i m σ H, W i m σ H →
      ((Its lo st n).stop i H ∧ D.nx σ H) ∨ ((Its lo st n).go i H ∧ ∃ N : St → Hp → Prop, (∀ σ' H', N σ' H' → ∃ m', m' < m ∧ W (i + 1) m' σ' H') ∧ ∀ x H', (Its lo st n).yld i H x H' → g x σ H' fun σ2 H2 => tb { D with nx := N, ct := N, bk := D.nx } σ2 H2) := by
  refine ⟨fun i m σ H => m = n - i ∧ i ≤ n ∧ Pv i σ H, ⟨n, by simp, Nat.zero_le _, h0⟩, ?_⟩
  rintro i m σ H ⟨rfl, hi, p⟩
  by_cases hlt : i < n
  · refine .inr ⟨hlt, Pv (i + 1), fun σ' H' p' => ⟨n - (i + 1), by omega, rfl, hlt, p'⟩, fun x H' y => ?_⟩
    obtain ⟨e, y⟩ := y
    subst e y
    exact hs i σ _ hlt p
  · have e : i = n := by omega
    subst e
    exact .inl ⟨Nat.le_refl _, hd σ H p⟩
end
end L2
namespace L2
open PySem
theorem Same.get {H H' : Hp} {p : Addr} {o : HO} (s : Same H H') (h : H p = some o) : H' p = some o := s _ _ h
end L2

set_option Elab.async false
set_option linter.all false
set_option maxRecDepth 100000
namespace L2
open PySem PySem.Spec PyProof.Rows
/-! == and != of any data: lists and tuples within one another, of ints, bools, texts and None -/
/-- x is the data d wherever the heap H is held -/
def Dt (X : Cx) (H : Hp) (x : V) (d : PyData) : Prop :=
  ∀ (pins : List (Addr × Obj)) (σ : St) (s : Shared) (u : Value), Inv X pins σ H s → RelV x u → ∃ as, Reads s.heap u d as
section
variable {X : Cx} {H : Hp}
theorem dt_int (i : Int) : Dt X H (.int i) (.int i) := fun _ _ s u _ r => by
  obtain ⟨t, rfl⟩ := r
  exact ⟨_, .int i t⟩
theorem dt_bl (b : Bool) : Dt X H (.bl b) (.bool b) := fun _ _ s u _ r => by
  cases (show u = Value.bool b from r)
  exact ⟨_, .bool b⟩
theorem dt_str (x : Str) : Dt X H (.str x) (.str x) := fun _ _ s u _ r => by
  obtain ⟨t, rfl⟩ := r
  exact ⟨_, .str x t⟩
theorem dt_non : Dt X H .non .none := fun _ _ s u _ r => by
  cases (show u = Value.none from r)
  exact ⟨_, .none⟩
theorem dt_all {pins : List (Addr × Obj)} {σ : St} {s : Shared} (I : Inv X pins σ H s) : ∀ {xs : List V} {ds : List PyData} {us : List Value}, Paired (Dt X H) xs ds → Vals xs us → ∃ as, ReadsAll s.heap us ds as
  | _, _, _, .nil, .nil => ⟨_, .nil⟩
  | _, _, _, .cons h t, .cons r rr => by
    obtain ⟨as, q⟩ := h _ _ _ _ I r
    obtain ⟨bs, q2⟩ := dt_all I t rr
    exact ⟨_, .cons q q2⟩
theorem dt_lst {a : Addr} {xs : List V} {ds : List PyData} (h : SqL X.K H a xs) (hall : Paired (Dt X H) xs ds) : Dt X H (.ref a) (.list ds) := fun _ _ s u I r => by
  cases (show u = Value.ref a from r)
  obtain ⟨its, rv, pl, _⟩ := I.list h
  obtain ⟨as, q⟩ := dt_all I hall rv
  obtain ⟨o, ho, hc, n, hd⟩ := pl.isList
  exact ⟨_, .list ho hc hd (by simpa using q)⟩
theorem dt_tup {a : Addr} {xs : List V} {ds : List PyData} (h : SqT X.K H a xs) (hall : Paired (Dt X H) xs ds) : Dt X H (.ref a) (.tuple ds) := fun _ _ s u I r => by
  cases (show u = Value.ref a from r)
  obtain ⟨its, rv, ht, _⟩ := I.tuple h
  obtain ⟨as, q⟩ := dt_all I hall rv
  obtain ⟨o, ho, hc, n, hd⟩ := ht
  exact ⟨_, .tuple ho hc hd (by simpa using q)⟩
theorem dt_ints : ∀ ns : List Int, Paired (Dt X H) (ns.map V.int) (ns.map PyData.int)
  | [] => .nil
  | n :: r => .cons (dt_int n) (dt_ints r)
def rEqD (X : Cx) : R2 := fun x y H Q => ∃ dx dy, Dt X H x dx ∧ Dt X H y dy ∧ (SeqAt.shaped dx = true ∧ SeqAt.shaped dy = true ∧ SeqAt.noMix dx dy = true) ∧ Q (.bl (PySem.Spec.same dx dy)) H
def rNeD (X : Cx) : R2 := fun x y H Q => ∃ dx dy, Dt X H x dx ∧ Dt X H y dy ∧ (SeqAt.shaped dx = true ∧ SeqAt.shaped dy = true ∧ SeqAt.noMix dx dy = true) ∧ Q (.bl (!PySem.Spec.same dx dy)) H
theorem op_eqD (hu : X.A.units + 64 < cLine) : OpR X (compareOp .Eq) (rEqD X) := by
  intro pins s σ H x y v u Q I rx ry h
  obtain ⟨dx, dy, h1, h2, ⟨q1, q2, q3⟩, q⟩ := h
  obtain ⟨as, r1⟩ := h1 _ _ _ _ I rx
  obtain ⟨bs, r2⟩ := h2 _ _ _ _ I ry
  exact eq_dataH_same r1 r2 q1 q2 hu q3 ⟨.bl _, H, I, rfl, q⟩
theorem op_neD (hu : X.A.units + 64 < cLine) : OpR X (compareOp .NotEq) (rNeD X) := by
  intro pins s σ H x y v u Q I rx ry h
  obtain ⟨dx, dy, h1, h2, ⟨q1, q2, q3⟩, q⟩ := h
  obtain ⟨as, r1⟩ := h1 _ _ _ _ I rx
  obtain ⟨bs, r2⟩ := h2 _ _ _ _ I ry
  exact ne_dataH_same r1 r2 q1 q2 hu q3 ⟨.bl _, H, I, rfl, q⟩
/-- lists of ints -/
def rEqLI (K : PySem.W.Frag) : R2 := fun x y H Q => ∃ (p p' : Addr) (ns ms : List Int), x = .ref p ∧ y = .ref p' ∧ SqL K H p (ns.map V.int) ∧ SqL K H p' (ms.map V.int) ∧ Q (.bl (decide (ns = ms))) H
def rNeLI (K : PySem.W.Frag) : R2 := fun x y H Q => ∃ (p p' : Addr) (ns ms : List Int), x = .ref p ∧ y = .ref p' ∧ SqL K H p (ns.map V.int) ∧ SqL K H p' (ms.map V.int) ∧ Q (.bl (!decide (ns = ms))) H
theorem op_eqLI (hu : X.A.units + 64 < cLine) : OpR X (compareOp .Eq) (rEqLI X.K) := by
  intro pins s σ H x y v u Q I rx ry h
  obtain ⟨p, p', ns, ms, rfl, rfl, h1, h2, q⟩ := h
  refine op_eqD hu pins s σ H _ _ v u Q I rx ry ⟨_, _, dt_lst h1 (dt_ints ns), dt_lst h2 (dt_ints ms), ⟨PySem.W.ke_shaped_ints _, PySem.W.ke_shaped_ints _, SeqAt.noMix_of_shape (.list .int) rfl _ _ (list_map_has fun _ => rfl) (list_map_has fun _ => rfl)⟩, ?_⟩
  rw [PySem.W.ke_same]
  exact q
theorem op_neLI (hu : X.A.units + 64 < cLine) : OpR X (compareOp .NotEq) (rNeLI X.K) := by
  intro pins s σ H x y v u Q I rx ry h
  obtain ⟨p, p', ns, ms, rfl, rfl, h1, h2, q⟩ := h
  refine op_neD hu pins s σ H _ _ v u Q I rx ry ⟨_, _, dt_lst h1 (dt_ints ns), dt_lst h2 (dt_ints ms), ⟨PySem.W.ke_shaped_ints _, PySem.W.ke_shaped_ints _, SeqAt.noMix_of_shape (.list .int) rfl _ _ (list_map_has fun _ => rfl) (list_map_has fun _ => rfl)⟩, ?_⟩
  rw [PySem.W.ke_same]
  exact q
end
end L2

set_option Elab.async false
set_option linter.all false
set_option maxRecDepth 100000
namespace L2
open PySem PySem.Spec PyProof.Rows
/-! enumerate(list) with a pair of targets -/
def Ite (K : PySem.W.Frag) (a : Addr) : It := ⟨fun i H => ∃ xs x, SqL K H a xs ∧ xs[i]? = some x, fun i H x H' => ∃ p y, H p = none ∧ x = .ref p ∧ H' = upd H p (.tup [.int i, y]) ∧ ∀ xs, SqL K H a xs → xs[i]? = some y, fun i H => ∃ xs, SqL K H a xs ∧ xs.length = i⟩
/-- records have turned and a tuple has come -/
theorem Inv.tuned {X : Cx} {pins : List (Addr × Obj)} {σ : St} {H : Hp} {s : Shared} {h' : Heap} {t' : Nat} {ch : List Addr} {p : Addr} {xs : List V} (I : Inv X pins σ H s) (hf : ∀ b ∈ ch, FpOk X pins H b)
    (k : ∀ b o, b ∉ ch → s.heap.get? b = some o → h'.get? b = some o) (hp : s.heap.objs.size ≤ p) (new : ObjOk X.prog X.w (upd H p (.tup xs)) h' p (.tup xs)) (ht : ∀ b ∈ ch, ∃ o, h'.get? b = some o) : Inv X pins σ (upd H p (.tup xs)) { s with heap := h', toks := t' } := by
  have hn : H p = none := I.hok.fresh hp
  have nch : ∀ b u, H b = some u → b ∉ ch := fun b u e z => by rw [(hf b z).1] at e; cases e
  have nep : ∀ b o, s.heap.get? b = some o → b ≠ p := fun b o e z => absurd (Nat.lt_of_lt_of_le (Heap.lt_size e) hp) (by rw [z]; exact Nat.lt_irrefl _)
  refine I.step (g' := s.gens) (d' := s.drawn) (ch := ch) (fun b hb => ?_) (fun b o _ _ hc e _ => k b o hc e) (fun b o _ _ hc e _ => ⟨o.slots, k b o hc e⟩) (fun b o _ e n => by rw [upd_ne (nep b o e)]; exact n)
    (fun b o hc e => ⟨o, k b o hc e⟩) (fun b ys e => by rw [upd_ne (ne_of_none e hn)]; exact e) (fun b o u e => by rw [upd_ne (ne_of_none e hn)]; exact e) (fun b ps e => ⟨#[], by rw [upd_ne (ne_of_none e hn), e]; simp⟩) (fun m hm => ?_) (fun b u e => ?_) I.bare
  · obtain ⟨f0, f1, f2, f3, f4, f5⟩ := hf b hb
    exact ⟨f3, f1, f4, f5⟩
  · obtain ⟨o, es, ep, ho, r⟩ := hm
    exact ⟨o, es, ep, k _ o (fun z => (hf _ z).2.1 rfl) ho, r⟩
  · by_cases hb : b = p
    · subst hb
      rw [upd_same] at e
      cases e
      exact new
    · rw [upd_ne hb] at e
      refine (I.hok b u e).stay (fun c v hc q => k c v ?_ q) (fun c q => by rw [upd_ne (ne_of_none q hn)]; exact q) fun c ys q => by rw [upd_ne (ne_of_none q hn)]; exact q
      rcases hc with z | z
      · rw [z]; exact nch b u e
      · exact nch c _ z
theorem turn_enum {P : Program} {w : World} {K : PySem.W.Frag} {elts : List Expr} {kk : Nat} {pos : Pos} (a e it : Addr) (hei : e ≠ it) :
    Turn P w K (.Tuple elts kk pos) (Ite K a) [e, it] e (fun i h => (∃ old, IsEnum h e it i old) ∧ h.IsListIter it a i) where
  mem := by simp
  obj := fun i h st b hb => by
    obtain ⟨⟨old, he⟩, o, ho, c, d⟩ := st
    rcases List.mem_cons.mp hb with z | z
    · subst z
      exact ⟨_, he, fun v z => by cases z⟩
    · rw [List.mem_singleton.mp z]
      exact ⟨o, ho, fun v z => by rw [d] at z; cases z⟩
  keep := fun i h h' st k => by
    obtain ⟨⟨old, he⟩, hl⟩ := st
    exact ⟨⟨old, k e (by simp) _ he⟩, hl.at fun o x => k it (by simp) o x⟩
  item := by
    intro X hP hw hK hc i pins s σ H E I hf st hg
    subst hP hw hK
    obtain ⟨xs, x, hq, hx⟩ := hg
    obtain ⟨its, rv, p, hz⟩ := I.list hq
    obtain ⟨u, hu, ru⟩ := rv.get hx
    obtain ⟨⟨old, he⟩, hl⟩ := st
    have hit := hf it (by simp)
    have hee := hf e (by simp)
    have hai : a ≠ it := fun z => by
      obtain ⟨o, ho, c, d⟩ := hl
      obtain ⟨o', ho', c', _⟩ := p.isList
      rw [z, ho] at ho'
      cases ho'
      rw [c] at c'
      exact absurd c' (by decide)
    have hae : a ≠ e := fun z => by
      obtain ⟨o', ho', c', _⟩ := p.isList
      have he' : s.heap.get? e = some _ := he
      rw [z, he'] at ho'
      cases ho'
      exact absurd (show Value.type "enumerate" = Value.type "list" from c') (by decide)
    have D := Draws.list (prog := X.prog) (w := X.w) (A := X.A.in1) (I.ok.hd hc) it a hai its.toArray
    have W := WalksT.enumerateD D e hei (by simp [hei, hae.symm]) (by simp)
    have hlt : i < its.toArray.size := by
      have := (List.getElem?_eq_some_iff.mp hu).1
      simpa using this
    refine W.item i s _ _ hlt ⟨⟨old, he⟩, hl, p.isList⟩ fun T vals h' tk hPt hT hTup hMid hk => ?_
    obtain ⟨t, y, hy, rfl⟩ := hPt
    have hyu : y = u := by
      have : its[i]? = some y := by simpa using hy
      rw [hu] at this
      exact (Option.some.inj this).symm
    subst hyu
    refine ⟨.ref T, rfl, W.go elts kk pos i T _ _ _ hMid fun h'' hst hk2 => ?_⟩
    have hTe : T ∉ [e, it] := W.apart i T h' hMid
    obtain ⟨⟨old', he'⟩, hl', _⟩ := hst
    have hTup2 : IsTup h'' T #[.int i t, y] := by
      obtain ⟨o, ho, c⟩ := hTup
      exact ⟨o, hk2 T o hTe ho, c⟩
    have obj : ObjOk X.prog X.w (upd H T (.tup [.int i, x])) h'' T (.tup [.int i, x]) := ⟨small_len (by show 2 ≤ 100000; decide), [.int i t, y], .cons ⟨t, rfl⟩ (.cons ru .nil), hTup2⟩
    have I2 := I.tuned (t' := tk) (ch := [e, it]) hf (fun b o hb eo => hk2 b o hb (hk b o hb eo)) hT obj (fun b hb => by
      rcases List.mem_cons.mp hb with z | z
      · rw [z]; exact ⟨_, he'⟩
      · rw [List.mem_singleton.mp z]
        obtain ⟨o, ho, _⟩ := hl'
        exact ⟨o, ho⟩)
    refine ⟨.ref T, upd H T (.tup [.int i, x]), I2, rfl, ⟨T, x, I.hok.fresh hT, rfl, rfl, fun ys hy => by rw [I.list_inj hy hq]; exact hx⟩, ⟨⟨old', he'⟩, hl'⟩, fun b hb => ?_⟩
    rw [upd_ne (show b ≠ T from fun z => hTe (by rw [← z]; exact hb))]
    exact (hf b hb).1
  done := by
    intro X hP hw hK hc i pins s σ H E I hf st hg
    subst hP hw hK
    obtain ⟨xs, hq, hx⟩ := hg
    obtain ⟨its, rv, p, hz⟩ := I.list hq
    obtain ⟨⟨old, he⟩, hl⟩ := st
    obtain ⟨f0, f1, f2, f3, f4, f5⟩ := hf it (by simp)
    have hai : a ≠ it := fun z => by
      obtain ⟨o, ho, c, d⟩ := hl
      obtain ⟨o', ho', c', _⟩ := p.isList
      rw [z, ho] at ho'
      cases ho'
      rw [c] at c'
      exact absurd c' (by decide)
    have D := Draws.list (prog := X.prog) (w := X.w) (A := X.A.in1) (I.ok.hd hc) it a hai its.toArray
    have hn : its.toArray.size = i := by
      rw [List.size_toArray, ← rv.length]
      exact hx
    exact wpAny_pyNext_enum_endD D he ⟨by rw [hn]; exact hl, p.isList⟩ fun h' eb => ⟨rfl, I.turned (t' := s.toks) (fun b o hb x => eb b o hb x) f0 f1 f3 f4 f5⟩
  self := fun _ _ _ _ _ st h => by
    obtain ⟨⟨old, he⟩, _⟩ := st
    exact wpAny_pyIter_enum he h
section
variable {X : Cx}
def iEnum (K : PySem.W.Frag) (ta : TA) : TI := fun σ H R => ta σ H fun vs H1 => ∃ a, vs = [.ref a] ∧ (∃ xs, SqL K H1 a xs) ∧ R (Ite K a) H1
theorem pi_enum {a : Expr} {ta : TA} {elts : List Expr} {kk : Nat} {tp p pos : Pos} (hg : Gl X "enumerate") (hm : X.mg "enumerate" = none) (ha : PA X [a] ta) (hv : bootBuiltins "enumerate" = some (.type "enumerate") := by rfl) (hs : starEach [a] X.env = [(false, eval a X.env)] := by rfl) :
    PI X (.Tuple elts kk tp) (.Call (.Name "enumerate" p) [a] [] pos) (iEnum X.K ta) := by
  intro pins s σ H R I h
  refine Call_ (ld_blt I hg hm hv (PyProof.Rows.callWith_type1 (thn (ha pos pins s σ H _ I h) fun us s1 ⟨vs, H1, I1, r1, q1⟩ => ?_) hs rfl))
  obtain ⟨l, e, ⟨xs, hq⟩, q⟩ := q1
  subst e
  obtain ⟨u, rfl, ru⟩ := Vals.one r1
  cases (show u = Value.ref l from ru)
  obtain ⟨its, rv, pl, _⟩ := I1.list hq
  refine call_enumerate_list pl.isList fun h' he hl hsz hk => ?_
  refine wpAny_pyIter_enum he ?_
  have I2 : Inv X pins σ H1 { s1 with heap := h' } := I1.kept (t' := s1.toks) hk
  refine ⟨s1.heap.objs.size + 1, [s1.heap.objs.size + 1, s1.heap.objs.size], _, _, H1, rfl, I2, turn_enum l (s1.heap.objs.size + 1) s1.heap.objs.size (Nat.succ_ne_self _), ⟨⟨_, he⟩, hl⟩, fun b hb => ?_, q⟩
  rcases List.mem_cons.mp hb with z | z
  · rw [z]; exact I1.fpOk (by omega) (I1.hok.fresh (by omega))
  · rw [List.mem_singleton.mp z]; exact I1.fpOk (Nat.le_refl _) (I1.hok.fresh (Nat.le_refl _))
/-- over enumerate(xs), the list as it is -/
theorem for_enum {K : PySem.W.Frag} {a : Addr} {xs : List V} {g : TG} {tb : TS} {D : Ends} {σ : St} {H : Hp} (Pv : Nat → St → Hp → Prop) (h0 : Pv 0 σ H) (hl : ∀ i σ H, i ≤ xs.length → Pv i σ H → SqL K H a xs)
    (hs : ∀ i y p σ H, xs[i]? = some y → Pv i σ H → H p = none → g (.ref p) σ (upd H p (.tup [.int i, y])) fun σ2 H2 => tb { D with nx := Pv (i + 1), ct := Pv (i + 1), bk := D.nx } σ2 H2) (hd : ∀ σ H, Pv xs.length σ H → D.nx σ H) :
    ∃ W : Nat → Nat → St → Hp → Prop, (∃ m, W 0 m σ H) ∧ ∀ i m σ H, W i m σ H →
      ((Ite K a).stop i H ∧ D.nx σ H) ∨ ((Ite K a).go i H ∧ ∃ N : St → Hp → Prop, (∀ σ' H', N σ' H' → ∃ m', m' < m ∧ W (i + 1) m' σ' H') ∧ ∀ x H', (Ite K a).yld i H x H' → g x σ H' fun σ2 H2 => tb { D with nx := N, ct := N, bk := D.nx } σ2 H2) := by
  refine ⟨fun i m σ H => m = xs.length - i ∧ i ≤ xs.length ∧ Pv i σ H, ⟨xs.length, by simp, Nat.zero_le _, h0⟩, ?_⟩
  rintro i m σ H ⟨rfl, hi, p⟩
  have q := hl i σ H hi p
  by_cases hlt : i < xs.length
  · refine .inr ⟨⟨xs, xs[i], q, by simp [hlt]⟩, Pv (i + 1), fun σ' H' p' => ⟨xs.length - (i + 1), by omega, rfl, hlt, p'⟩, fun x H' y => ?_⟩
    obtain ⟨r, y, hr, rfl, rfl, hy⟩ := y
    exact hs i y r σ H (hy xs q) p hr
  · have e : i = xs.length := by omega
    subst e
    exact .inl ⟨⟨xs, q, rfl⟩, hd σ H p⟩
end
end L2

set_option linter.all false
set_option maxRecDepth 100000
namespace L2
open PySem
variable {r : List Expr} {env : Env} {pos : Pos}
theorem star_tup {es : List Expr} {k : Nat} : starEach (.Tuple es k pos :: r) env = (false, eval (.Tuple es k pos) env) :: starEach r env := rfl
theorem star_lst {es : List Expr} : starEach (.List es pos :: r) env = (false, eval (.List es pos) env) :: starEach r env := rfl
end L2
namespace L2
open PySem
/-- a list display of pairs of written ints -/
inductive TupC : List Expr → List (Int × Int) → Prop where
  | nil : TupC [] []
  | cons {a b : Int} {j1 j2 k : Nat} {p1 p2 pos : Pos} {es : List Expr} {qs : List (Int × Int)} (h : TupC es qs) : TupC (.Tuple [.Constant (.int a) j1 p1, .Constant (.int b) j2 p2] k pos :: es) ((a, b) :: qs)
def tTups : List (Int × Int) → TA
  | [] => tNil
  | q :: r => tCons (tTup (tCons (tC (.int q.1)) (tCons (tC (.int q.2)) tNil))) (tTups r)
theorem pa_tups {X : Cx} {es : List Expr} {qs : List (Int × Int)} (h : TupC es qs) : PA X es (tTups qs) := by
  induction h with
  | nil => exact pa_nil
  | cons h ih => exact pa_cons (pe_tup (pa_cons pe_int (pa_cons pe_int pa_nil))) ih star_tup
theorem pe_lstT {X : Cx} {es : List Expr} {qs : List (Int × Int)} {pos : Pos} (h : TupC es qs) : PE X (.List es pos) (tLst (tTups qs)) := pe_lst (pa_tups h)
end L2
namespace L2
open PySem
theorem ps_pick {X : Cx} {tg ie : Expr} {es : List Expr} {qs : List (Int × Int)} {ti : TE} {g : TG} {p1 p2 pos : Pos} (h : TupC es qs) (hi : PE X ie ti) (hs : PlainIx ie) (hg : PG X tg g) (h1 : (assignEach [tg] X.env).map (·.2) = [assign tg X.env])
    (hw : swappedStores [tg] (.Subscript (.List es p1) ie p2) X.env = pure none) : PS X (.Assign [tg] (.Subscript (.List es p1) ie p2) pos) (tAsg (tOp (rIxL X.K) (tLst (tTups qs)) ti) g) :=
  ps_asg (pe_ix ix_list (pe_lstT h) hi hs) hg rfl hw h1
end L2

set_option Elab.async false
set_option linter.all false
set_option maxRecDepth 100000
namespace L2
open PySem PySem.Spec PyProof.Rows
/-! == of lists of truths -/
theorem lay_bools : ∀ bs : List Bool, PyData.canLayAll0 (bs.map PyData.bool) = true
  | [] => rfl
  | b :: r => by
    rw [List.map_cons]
    simp [PyData.canLayAll0, PyData.canLay0, lay_bools r]
theorem deep_bools : ∀ bs : List Bool, PyData.depthAll (bs.map PyData.bool) = 0
  | [] => rfl
  | b :: r => by
    rw [List.map_cons]
    simp [PyData.depthAll, PyData.depth, deep_bools r]
theorem same_bools : ∀ bs cs : List Bool, PySem.Spec.sameAll (bs.map PyData.bool) (cs.map PyData.bool) = decide (bs = cs)
  | [], [] => by simp [sameAll]
  | [], _ :: _ => by simp [sameAll]
  | _ :: _, [] => by simp [sameAll]
  | b :: r, c :: t => by
    have ih := same_bools r t
    simp only [List.map_cons, sameAll, ih, PySem.Spec.same]
    by_cases h : b = c
    · subst h; simp
    · simp [h]
theorem shaped_bools (bs : List Bool) : SeqAt.shaped (.list (bs.map PyData.bool)) = true := by
  unfold SeqAt.shaped
  simp [PyData.canLay0, PyData.depth, lay_bools, deep_bools]
section
variable {X : Cx} {H : Hp}
theorem dt_bools : ∀ bs : List Bool, Paired (Dt X H) (bs.map V.bl) (bs.map PyData.bool)
  | [] => .nil
  | n :: r => .cons (dt_bl n) (dt_bools r)
def rEqLB (K : PySem.W.Frag) : R2 := fun x y H Q => ∃ (p p' : Addr) (ns ms : List Bool), x = .ref p ∧ y = .ref p' ∧ SqL K H p (ns.map V.bl) ∧ SqL K H p' (ms.map V.bl) ∧ Q (.bl (decide (ns = ms))) H
theorem op_eqLB (hu : X.A.units + 64 < cLine) : OpR X (compareOp .Eq) (rEqLB X.K) := by
  intro pins s σ H x y v u Q I rx ry h
  obtain ⟨p, p', ns, ms, rfl, rfl, h1, h2, q⟩ := h
  have nm : SeqAt.noMix (.list (ns.map PyData.bool)) (.list (ms.map PyData.bool)) = true := SeqAt.noMix_of_shape (.list .bool) rfl _ _ (list_map_has fun _ => rfl) (list_map_has fun _ => rfl)
  refine op_eqD hu pins s σ H _ _ v u Q I rx ry ⟨_, _, dt_lst h1 (dt_bools ns), dt_lst h2 (dt_bools ms), ⟨shaped_bools _, shaped_bools _, nm⟩, ?_⟩
  have e : PySem.Spec.same (.list (ns.map PyData.bool)) (.list (ms.map PyData.bool)) = decide (ns = ms) := by
    simp only [PySem.Spec.same]
    exact same_bools ns ms
  rw [e]
  exact q
end
end L2
namespace L2
open PySem PySem.Spec PyProof.Rows
theorem ix_listK {X : Cx} {K : PySem.W.Frag} (h : X.K = K) : IxR X (rIxL K) := h ▸ ix_list
theorem ix_tupK {X : Cx} {K : PySem.W.Frag} (h : X.K = K) : IxR X (rIxT K) := h ▸ ix_tup
theorem sl_listK {X : Cx} {K : PySem.W.Frag} (h : X.K = K) : SlR X (rSlL K) := h ▸ sl_list
end L2

set_option Elab.async false
set_option linter.all false
set_option maxRecDepth 100000
namespace L2
open PySem PySem.Spec PyProof.Rows
/-! == of trees of ints: lists and tuples within one another -/
mutual
def treeI : PyData → Bool
  | .int _ => true
  | .list xs => treesI xs
  | .tuple xs => treesI xs
  | .none => false
  | .bool _ => false
  | .str _ => false
  | .dict _ => false
def treesI : List PyData → Bool
  | [] => true
  | x :: xs => treeI x && treesI xs
end
mutual
theorem tree_lay : ∀ d : PyData, treeI d = true → d.canLay0 = true
  | .int _, _ => by simp [PyData.canLay0]
  | .list xs, h => by rw [treeI] at h; rw [PyData.canLay0]; exact trees_lay xs h
  | .tuple xs, h => by rw [treeI] at h; rw [PyData.canLay0]; exact trees_lay xs h
  | .none, h => by simp [treeI] at h
  | .bool _, h => by simp [treeI] at h
  | .str _, h => by simp [treeI] at h
  | .dict _, h => by simp [treeI] at h
theorem trees_lay : ∀ xs : List PyData, treesI xs = true → PyData.canLayAll0 xs = true
  | [], _ => by simp [PyData.canLayAll0]
  | x :: xs, h => by
    rw [treesI, Bool.and_eq_true] at h
    rw [PyData.canLayAll0, tree_lay x h.1, trees_lay xs h.2]
    rfl
end
mutual
theorem tree_mix : ∀ d e : PyData, treeI d = true → treeI e = true → SeqAt.noMix d e = true
  | .int _, .int _, _, _ => by simp [SeqAt.noMix]
  | .int _, .list _, _, _ => by simp [SeqAt.noMix]
  | .int _, .tuple _, _, _ => by simp [SeqAt.noMix]
  | .list _, .int _, _, _ => by simp [SeqAt.noMix]
  | .list _, .tuple _, _, _ => by simp [SeqAt.noMix]
  | .tuple _, .int _, _, _ => by simp [SeqAt.noMix]
  | .tuple _, .list _, _, _ => by simp [SeqAt.noMix]
  | .list xs, .list ys, h, h2 => by rw [treeI] at h h2; rw [SeqAt.noMix]; exact trees_mix xs ys h h2
  | .tuple xs, .tuple ys, h, h2 => by rw [treeI] at h h2; rw [SeqAt.noMix]; exact trees_mix xs ys h h2
  | .none, _, h, _ => by simp [treeI] at h
  | .bool _, _, h, _ => by simp [treeI] at h
  | .str _, _, h, _ => by simp [treeI] at h
  | .dict _, _, h, _ => by simp [treeI] at h
  | .int _, .none, _, h => by simp [treeI] at h
  | .int _, .bool _, _, h => by simp [treeI] at h
  | .int _, .str _, _, h => by simp [treeI] at h
  | .int _, .dict _, _, h => by simp [treeI] at h
  | .list _, .none, _, h => by simp [treeI] at h
  | .list _, .bool _, _, h => by simp [treeI] at h
  | .list _, .str _, _, h => by simp [treeI] at h
  | .list _, .dict _, _, h => by simp [treeI] at h
  | .tuple _, .none, _, h => by simp [treeI] at h
  | .tuple _, .bool _, _, h => by simp [treeI] at h
  | .tuple _, .str _, _, h => by simp [treeI] at h
  | .tuple _, .dict _, _, h => by simp [treeI] at h
theorem trees_mix : ∀ xs ys : List PyData, treesI xs = true → treesI ys = true → SeqAt.noMixAll xs ys = true
  | [], [], _, _ => by simp [SeqAt.noMixAll]
  | [], _ :: _, _, _ => by simp [SeqAt.noMixAll]
  | _ :: _, [], _, _ => by simp [SeqAt.noMixAll]
  | x :: xs, y :: ys, h, h2 => by
    rw [treesI, Bool.and_eq_true] at h h2
    rw [SeqAt.noMixAll, tree_mix x y h.1 h2.1, trees_mix xs ys h.2 h2.2]
    rfl
end
mutual
theorem tree_same : ∀ d e : PyData, treeI d = true → treeI e = true → (same d e = true ↔ d = e)
  | .int a, .int b, _, _ => by simp [same]
  | .int _, .list _, _, _ => by simp [same]
  | .int _, .tuple _, _, _ => by simp [same]
  | .list _, .int _, _, _ => by simp [same]
  | .list _, .tuple _, _, _ => by simp [same]
  | .tuple _, .int _, _, _ => by simp [same]
  | .tuple _, .list _, _, _ => by simp [same]
  | .list xs, .list ys, h, h2 => by rw [treeI] at h h2; rw [same, trees_same xs ys h h2, PyData.list.injEq]
  | .tuple xs, .tuple ys, h, h2 => by rw [treeI] at h h2; rw [same, trees_same xs ys h h2, PyData.tuple.injEq]
  | .none, _, h, _ => by simp [treeI] at h
  | .bool _, _, h, _ => by simp [treeI] at h
  | .str _, _, h, _ => by simp [treeI] at h
  | .dict _, _, h, _ => by simp [treeI] at h
  | .int _, .none, _, h => by simp [treeI] at h
  | .int _, .bool _, _, h => by simp [treeI] at h
  | .int _, .str _, _, h => by simp [treeI] at h
  | .int _, .dict _, _, h => by simp [treeI] at h
  | .list _, .none, _, h => by simp [treeI] at h
  | .list _, .bool _, _, h => by simp [treeI] at h
  | .list _, .str _, _, h => by simp [treeI] at h
  | .list _, .dict _, _, h => by simp [treeI] at h
  | .tuple _, .none, _, h => by simp [treeI] at h
  | .tuple _, .bool _, _, h => by simp [treeI] at h
  | .tuple _, .str _, _, h => by simp [treeI] at h
  | .tuple _, .dict _, _, h => by simp [treeI] at h
theorem trees_same : ∀ xs ys : List PyData, treesI xs = true → treesI ys = true → (sameAll xs ys = true ↔ xs = ys)
  | [], [], _, _ => by simp [sameAll]
  | [], _ :: _, _, _ => by simp [sameAll]
  | _ :: _, [], _, _ => by simp [sameAll]
  | x :: xs, y :: ys, h, h2 => by
    rw [treesI, Bool.and_eq_true] at h h2
    rw [sameAll, Bool.and_eq_true, tree_same x y h.1 h2.1, trees_same xs ys h.2 h2.2, List.cons.injEq]
end
/-- a tree of ints, not deep -/
def TreeI (d : PyData) : Prop := treeI d = true ∧ d.depth ≤ 64
theorem TreeI.shaped {d : PyData} (h : TreeI d) : SeqAt.shaped d = true := by
  unfold SeqAt.shaped
  rw [tree_lay d h.1, decide_eq_true h.2]
  rfl
section
variable {X : Cx}
def rEqT (X : Cx) : R2 := fun x y H Q => ∃ dx dy, Dt X H x dx ∧ Dt X H y dy ∧ (TreeI dx ∧ TreeI dy) ∧ ∀ b : Bool, (b = true ↔ dx = dy) → Q (.bl b) H
def rNeT (X : Cx) : R2 := fun x y H Q => ∃ dx dy, Dt X H x dx ∧ Dt X H y dy ∧ (TreeI dx ∧ TreeI dy) ∧ ∀ b : Bool, (b = true ↔ dx = dy) → Q (.bl (!b)) H
theorem op_eqT (hu : X.A.units + 64 < cLine) : OpR X (compareOp .Eq) (rEqT X) := by
  intro pins s σ H x y v u Q I rx ry h
  obtain ⟨dx, dy, h1, h2, ⟨q1, q2⟩, q⟩ := h
  exact op_eqD hu pins s σ H x y v u Q I rx ry ⟨dx, dy, h1, h2, ⟨q1.shaped, q2.shaped, tree_mix dx dy q1.1 q2.1⟩, q _ (tree_same dx dy q1.1 q2.1)⟩
theorem op_neT (hu : X.A.units + 64 < cLine) : OpR X (compareOp .NotEq) (rNeT X) := by
  intro pins s σ H x y v u Q I rx ry h
  obtain ⟨dx, dy, h1, h2, ⟨q1, q2⟩, q⟩ := h
  exact op_neD hu pins s σ H x y v u Q I rx ry ⟨dx, dy, h1, h2, ⟨q1.shaped, q2.shaped, tree_mix dx dy q1.1 q2.1⟩, q _ (tree_same dx dy q1.1 q2.1)⟩
end
theorem treesI_of {xs : List PyData} (h : ∀ x ∈ xs, treeI x = true) : treesI xs = true := by
  induction xs with
  | nil => rfl
  | cons x xs ih =>
    rw [treesI, h x (List.mem_cons_self ..), ih fun y hy => h y (List.mem_cons_of_mem _ hy)]
    rfl
theorem deepI_of {xs : List PyData} {n : Nat} (h : ∀ x ∈ xs, x.depth ≤ n) : PyData.depthAll xs ≤ n := by
  induction xs with
  | nil => simp [PyData.depthAll]
  | cons x xs ih =>
    rw [PyData.depthAll]
    have := h x (List.mem_cons_self ..)
    have := ih fun y hy => h y (List.mem_cons_of_mem _ hy)
    omega
/-- a list of ints; a list of such things -/
def dInts (ns : List Int) : PyData := .list (ns.map PyData.int)
theorem tr_ints (ns : List Int) : treeI (dInts ns) = true ∧ (dInts ns).depth ≤ 1 := by
  constructor
  · show treesI _ = true
    exact treesI_of fun x hx => by
      obtain ⟨n, _, rfl⟩ := List.mem_map.mp hx
      rfl
  · show PyData.depthAll _ + 1 ≤ 1
    rw [PySem.W.ke_depthAll]
    exact Nat.le_refl _
theorem tr_list {xs : List PyData} {n : Nat} (h : ∀ x ∈ xs, treeI x = true ∧ x.depth ≤ n) : treeI (.list xs) = true ∧ (PyData.list xs).depth ≤ n + 1 :=
  ⟨treesI_of fun x hx => (h x hx).1, Nat.succ_le_succ (deepI_of fun x hx => (h x hx).2)⟩
theorem tr_tup {xs : List PyData} {n : Nat} (h : ∀ x ∈ xs, treeI x = true ∧ x.depth ≤ n) : treeI (.tuple xs) = true ∧ (PyData.tuple xs).depth ≤ n + 1 :=
  ⟨treesI_of fun x hx => (h x hx).1, Nat.succ_le_succ (deepI_of fun x hx => (h x hx).2)⟩
end L2

set_option linter.all false
namespace Num
theorem gcd_step (a b q : Int) : Int.gcd b (a - q * b) = Int.gcd a b := by
  apply Nat.dvd_antisymm
  · apply Int.dvd_gcd
    · have h1 : ((Int.gcd b (a - q * b) : Nat) : Int) ∣ b := Int.gcd_dvd_left ..
      have h2 : ((Int.gcd b (a - q * b) : Nat) : Int) ∣ (a - q * b) := Int.gcd_dvd_right ..
      have h3 := Int.dvd_add h2 (Int.dvd_mul_of_dvd_right h1 : _ ∣ q * b)
      have e : a - q * b + q * b = a := by omega
      rw [e] at h3
      exact h3
    · exact Int.gcd_dvd_left ..
  · apply Int.dvd_gcd
    · exact Int.gcd_dvd_right ..
    · exact Int.dvd_sub (Int.gcd_dvd_left ..) (Int.dvd_mul_of_dvd_right (Int.gcd_dvd_right ..))
/-- floor division -/
theorem fl (a b : Int) (hb : b ≠ 0) : (0 < b → 0 ≤ a - a.fdiv b * b ∧ a - a.fdiv b * b < b) ∧ (b < 0 → b < a - a.fdiv b * b ∧ a - a.fdiv b * b ≤ 0) := by
  have e := Int.mul_ediv_add_emod a b
  have h0 := Int.emod_nonneg a hb
  have h1 : a % b < (b.natAbs : Int) := by
    rcases Int.lt_or_le 0 b with z | z
    · have := Int.emod_lt_of_pos a z
      omega
    · have := Int.emod_lt_of_pos a (show 0 < -b by omega)
      rw [Int.emod_neg] at this
      omega
  rw [Int.fdiv_eq_ediv]
  have eb : b * (a / b) = (a / b) * b := Int.mul_comm _ _
  constructor
  · intro h
    rw [if_pos (Or.inl (by omega)), Int.sub_zero]
    omega
  · intro h
    split
    · rename_i hd
      have hz : a % b = 0 := Int.emod_eq_zero_of_dvd (by omega)
      rw [Int.sub_zero]
      omega
    · rename_i hd
      have hz : a % b ≠ 0 := fun z => hd (.inr (Int.dvd_of_emod_eq_zero z))
      have : (a / b - 1) * b = a / b * b - b := by rw [Int.sub_mul]; omega
      omega
theorem fl_abs (a b : Int) (hb : b ≠ 0) : (a - a.fdiv b * b).natAbs < b.natAbs := by
  have := fl a b hb
  omega
theorem fmod_eq (a b : Int) : a.fmod b = a - a.fdiv b * b := by
  have := Int.mul_fdiv_add_fmod a b
  have : b * a.fdiv b = a.fdiv b * b := Int.mul_comm _ _
  omega
theorem q_abs (a b : Int) (hb : b ≠ 0) : (a.fdiv b).natAbs * b.natAbs ≤ a.natAbs + b.natAbs := by
  have h := fl_abs a b hb
  rw [← Int.natAbs_mul]
  omega
theorem q_le (a b : Int) (hb : b ≠ 0) : (a.fdiv b).natAbs ≤ a.natAbs + b.natAbs := by
  have h := q_abs a b hb
  have : (a.fdiv b).natAbs * 1 ≤ (a.fdiv b).natAbs * b.natAbs := Nat.mul_le_mul_left _ (by omega)
  omega
def Sg (x y : Int) : Prop := (0 < x ∧ 0 ≤ y) ∨ (x < 0 ∧ y ≤ 0)
theorem sg_next (x y : Int) (hy : y ≠ 0) : Sg y (x - x.fdiv y * y) := by
  have h := fl x y hy
  unfold Sg
  omega
theorem sg_eq {x y : Int} (h : Sg x y) (hy : y ≠ 0) : x.natAbs = (x.fdiv y).natAbs * y.natAbs + (x - x.fdiv y * y).natAbs := by
  have hf := fl x y hy
  rw [← Int.natAbs_mul]
  generalize hq : x.fdiv y = q at hf ⊢
  have hq0 : 0 ≤ q := by
    rcases Int.lt_or_le q 0 with z | z
    · exfalso
      rcases h with ⟨h1, h2⟩ | ⟨h1, h2⟩
      · have hy' : 0 < y := by omega
        have := Int.mul_le_mul_of_nonneg_right (show q ≤ -1 by omega) (show 0 ≤ y by omega)
        have := hf.1 hy'
        omega
      · have hy' : y < 0 := by omega
        have := Int.mul_le_mul_of_nonneg_right (show q ≤ -1 by omega) (show 0 ≤ -y by omega)
        have e : q * -y = -(q * y) := Int.mul_neg _ _
        have := hf.2 hy'
        omega
    · exact z
  rcases h with ⟨h1, h2⟩ | ⟨h1, h2⟩
  · have := Int.mul_nonneg hq0 (show 0 ≤ y by omega)
    have := hf.1 (by omega)
    omega
  · have := Int.mul_nonneg hq0 (show 0 ≤ -y by omega)
    have e : q * -y = -(q * y) := Int.mul_neg _ _
    have := hf.2 (by omega)
    omega
def Ib (n : Nat) (x y u u2 : Int) : Prop := u2.natAbs * x.natAbs + u.natAbs * y.natAbs ≤ 3 * 2 ^ n
theorem ib_next {n : Nat} {x y u u2 : Int} (h : Ib n x y u u2) (hs : Sg x y) (hy : y ≠ 0) : Ib n y (x - x.fdiv y * y) u2 (u - x.fdiv y * u2) := by
  have e := sg_eq hs hy
  unfold Ib at h ⊢
  have h1 : (u - x.fdiv y * u2).natAbs ≤ u.natAbs + (x.fdiv y).natAbs * u2.natAbs := by
    rw [← Int.natAbs_mul]
    omega
  generalize (x - x.fdiv y * y).natAbs = r at e ⊢
  generalize (x.fdiv y).natAbs = q at e h1
  generalize (u - x.fdiv y * u2).natAbs = w at h1 ⊢
  generalize u.natAbs = U at *
  generalize u2.natAbs = U2 at *
  generalize y.natAbs = Y at *
  generalize x.natAbs = X at *
  subst e
  have h2 : w * Y ≤ (U + q * U2) * Y := Nat.mul_le_mul_right _ h1
  have h3 : (U + q * U2) * Y + U2 * r = U2 * (q * Y + r) + U * Y := by grind
  omega
theorem ib_bound {n : Nat} {x y u u2 : Int} (h : Ib n x y u u2) (hs : Sg x y) : u2.natAbs < 2 ^ (n + 2) := by
  unfold Ib at h
  have hx : 1 ≤ x.natAbs := by unfold Sg at hs; omega
  have : u2.natAbs * 1 ≤ u2.natAbs * x.natAbs := Nat.mul_le_mul_left _ hx
  have e : 2 ^ (n + 2) = 4 * 2 ^ n := by rw [Nat.pow_add]; omega
  have : 0 < 2 ^ n := Nat.pow_pos (by decide)
  omega
end Num

set_option linter.all false
namespace Num
theorem dz (r : Rat) : (r.den : Int) ≠ 0 := by have := r.den_nz; omega
theorem dpos (r : Rat) : (0 : Int) < r.den := by have := r.den_pos; omega
theorem rat_of {n : Int} {d : Nat} {r : Rat} (hd : d ≠ 0) (hc : Nat.gcd n.natAbs d = 1) (h : n * r.den = r.num * d) : r.num = n ∧ (r.den : Int) = d := by
  have e : r = ⟨n, d, hd, hc⟩ := by
    rw [← Rat.num_divInt_den r, Rat.mk_eq_divInt, Rat.divInt_eq_divInt_iff (dz r) (by omega)]
    exact h.symm
  rw [e]
  exact ⟨rfl, rfl⟩
theorem rat_add_cross (a b : Rat) : (a + b).num * (a.den * b.den : Int) = (a.num * b.den + b.num * a.den) * (a + b).den := by
  have h2 : a + b = Rat.divInt (a.num * b.den + b.num * a.den) (a.den * b.den) := by
    conv => lhs; rw [← Rat.num_divInt_den a, ← Rat.num_divInt_den b]
    exact Rat.divInt_add_divInt _ _ (dz a) (dz b)
  exact (Rat.divInt_eq_divInt_iff (dz _) (Int.mul_ne_zero (dz a) (dz b))).mp ((Rat.num_divInt_den (a + b)).trans h2)
theorem rat_mul_cross (a b : Rat) : (a * b).num * (a.den * b.den : Int) = (a.num * b.num) * (a * b).den := by
  have h2 : a * b = Rat.divInt (a.num * b.num) (a.den * b.den) := by
    conv => lhs; rw [← Rat.num_divInt_den a, ← Rat.num_divInt_den b]
    exact Rat.divInt_mul_divInt _ _
  exact (Rat.divInt_eq_divInt_iff (dz _) (Int.mul_ne_zero (dz a) (dz b))).mp ((Rat.num_divInt_den (a * b)).trans h2)
theorem cop_add (x y m : Int) : Int.gcd (x + y * m) m = Int.gcd x m := by
  have h := gcd_step x m (-y)
  have e : x - -y * m = x + y * m := by rw [Int.neg_mul]; omega
  rw [e] at h
  rw [Int.gcd_comm, h]
theorem cop_mul {x y m : Int} (h1 : Int.gcd x m = 1) (h2 : Int.gcd y m = 1) : Int.gcd (x * y) m = 1 := by
  unfold Int.gcd at *
  rw [Int.natAbs_mul]
  exact Nat.Coprime.mul_left h1 h2
theorem cop_mulR {x y m : Int} (h1 : Int.gcd m x = 1) (h2 : Int.gcd m y = 1) : Int.gcd m (x * y) = 1 := by
  rw [Int.gcd_comm] at *
  exact cop_mul h1 h2
theorem cop_dvd {x y m : Int} (h : Int.gcd x m = 1) (hd : y ∣ m) : Int.gcd x y = 1 := by
  unfold Int.gcd at *
  exact Nat.Coprime.coprime_dvd_right (Int.natAbs_dvd_natAbs.mpr hd) h
theorem cop_dvdL {x y m : Int} (h : Int.gcd m x = 1) (hd : y ∣ m) : Int.gcd y x = 1 := by
  rw [Int.gcd_comm] at *
  exact cop_dvd h hd
theorem red (r : Rat) : Int.gcd r.num r.den = 1 := r.reduced
/-- a positive common divisor taken out -/
theorem gcd_out (x y : Int) (h : y ≠ 0) : ∃ x' y' : Int, x = (Int.gcd x y : Nat) * x' ∧ y = (Int.gcd x y : Nat) * y' ∧ Int.gcd x' y' = 1 ∧ 0 < ((Int.gcd x y : Nat) : Int) := by
  have hg : 0 < Int.gcd x y := Int.gcd_pos_of_ne_zero_right _ h
  obtain ⟨x', hx⟩ : ((Int.gcd x y : Nat) : Int) ∣ x := Int.gcd_dvd_left ..
  obtain ⟨y', hy⟩ : ((Int.gcd x y : Nat) : Int) ∣ y := Int.gcd_dvd_right ..
  refine ⟨x', y', hx, hy, ?_, by omega⟩
  have e : Int.gcd ((Int.gcd x y : Nat) * x') ((Int.gcd x y : Nat) * y') = Int.gcd x y * Int.gcd x' y' := by
    rw [Int.gcd_mul_left]
    rfl
  rw [← hx, ← hy] at e
  have : Int.gcd x y * 1 = Int.gcd x y * Int.gcd x' y' := by omega
  exact (Nat.eq_of_mul_eq_mul_left hg this).symm
theorem div_out {g x x' : Int} (h : x = g * x') (hg : 0 < g) : x / g = x' := by
  rw [h]
  exact Int.mul_ediv_cancel_left _ (by omega)
theorem pos_of {g y y' : Int} (h : y = g * y') (hg : 0 < g) (hy : 0 < y) : 0 < y' := by
  rcases Int.lt_or_le 0 y' with z | z
  · exact z
  · have := Int.mul_nonpos_of_nonneg_of_nonpos (Int.le_of_lt hg) z
    omega
theorem rat_set {n d : Int} {r : Rat} (hd : 0 < d) (hc : Int.gcd n d = 1) (h : n * r.den = r.num * d) : r.num = n ∧ (r.den : Int) = d := by
  have e : ((d.toNat : Nat) : Int) = d := by omega
  have := rat_of (n := n) (d := d.toNat) (r := r) (by omega) (by unfold Int.gcd at hc; rw [show d.toNat = d.natAbs by omega]; exact hc) (by rw [e]; exact h)
  rw [e] at this
  exact this
/-- a sum, by way of the bottoms' divisor -/
theorem sum_out (a b : Rat) : ∃ A B : Int, (a.den : Int) / (Int.gcd a.den b.den : Nat) = A ∧ (b.den : Int) / (Int.gcd a.den b.den : Nat) = B ∧
    0 < ((Int.gcd a.den b.den : Nat) : Int) ∧ 0 < A ∧ 0 < B ∧ A ≤ a.den ∧ B ≤ b.den ∧ 0 < ((Int.gcd (a.num * B + b.num * A) (Int.gcd a.den b.den : Nat) : Nat) : Int) ∧
    (a + b).num = (a.num * B + b.num * A) / (Int.gcd (a.num * B + b.num * A) (Int.gcd a.den b.den : Nat) : Nat) ∧
    ((a + b).den : Int) = A * ((b.den : Int) / (Int.gcd (a.num * B + b.num * A) (Int.gcd a.den b.den : Nat) : Nat)) := by
  obtain ⟨A, B, hA, hB, hAB, hg⟩ := gcd_out a.den b.den (dz b)
  generalize ((Int.gcd a.den b.den : Nat) : Int) = g at *
  have pA := pos_of hA hg (dpos a)
  have pB := pos_of hB hg (dpos b)
  have gz : g ≠ 0 := by omega
  obtain ⟨t, h, ht, hh, hth, hl⟩ := gcd_out (a.num * B + b.num * A) g gz
  generalize hT : a.num * B + b.num * A = T at *
  generalize hL : ((Int.gcd T g : Nat) : Int) = l at *
  have ph := pos_of hh hl hg
  have eb : (b.den : Int) = l * (B * h) := by rw [hB, hh]; grind
  have c1 : Int.gcd T A = 1 := by
    rw [← hT, cop_add]
    exact cop_mul (cop_dvd (red a) ⟨g, by rw [hA]; grind⟩) (by rw [Int.gcd_comm]; exact hAB)
  have c2 : Int.gcd T B = 1 := by
    rw [← hT, Int.add_comm, cop_add]
    exact cop_mul (cop_dvd (red b) ⟨g, by rw [hB]; grind⟩) hAB
  have tT : t ∣ T := ⟨l, by rw [ht]; grind⟩
  have cop : Int.gcd t (A * (B * h)) = 1 := cop_mulR (cop_dvdL c1 tT) (cop_mulR (cop_dvdL c2 tT) hth)
  have cross : t * (a + b).den = (a + b).num * (A * (B * h)) := by
    have hc := rat_add_cross a b
    have e1 : (a.den * b.den : Int) = (l * l * h) * (A * (B * h)) := by rw [eb, hA, hh]; grind
    have e2 : (a.num * b.den + b.num * a.den : Int) = (l * l * h) * t := by
      have : (a.num * b.den + b.num * a.den : Int) = g * T := by rw [← hT, hB, hA]; grind
      rw [this, ht, hh]; grind
    rw [e1, e2] at hc
    have nz : l * l * h ≠ 0 := Int.mul_ne_zero (Int.mul_ne_zero (by omega) (by omega)) (by omega)
    have : (l * l * h) * ((a + b).num * (A * (B * h))) = (l * l * h) * (t * (a + b).den) := by grind
    exact (Int.eq_of_mul_eq_mul_left nz this).symm
  have fin := rat_set (r := a + b) (Int.mul_pos pA (Int.mul_pos pB ph)) cop cross
  have lA : A ≤ a.den := by
    have := Int.mul_le_mul_of_nonneg_right (show 1 ≤ g by omega) (Int.le_of_lt pA)
    omega
  have lB : B ≤ b.den := by
    have := Int.mul_le_mul_of_nonneg_right (show 1 ≤ g by omega) (Int.le_of_lt pB)
    omega
  refine ⟨A, B, div_out hA hg, div_out hB hg, hg, pA, pB, lA, lB, ?_⟩
  rw [hT, hL]
  refine ⟨hl, ?_, ?_⟩
  · rw [fin.1, div_out ht hl]
  · rw [fin.2, div_out eb hl]
theorem sum_one (a b : Rat) (h : Int.gcd a.den b.den = 1) : (a + b).num = a.num * b.den + b.num * a.den ∧ ((a + b).den : Int) = a.den * b.den := by
  refine rat_set (Int.mul_pos (dpos a) (dpos b)) (cop_mulR ?_ ?_) ?_
  · rw [cop_add]
    exact cop_mul (red a) (by rw [Int.gcd_comm]; exact h)
  · rw [Int.add_comm, cop_add]
    exact cop_mul (red b) h
  · have := rat_add_cross a b
    grind
theorem prod_out (a b : Rat) : 0 < ((Int.gcd a.num b.den : Nat) : Int) ∧ 0 < ((Int.gcd b.num a.den : Nat) : Int) ∧
    (a * b).num = a.num / (Int.gcd a.num b.den : Nat) * (b.num / (Int.gcd b.num a.den : Nat)) ∧ ((a * b).den : Int) = (a.den : Int) / (Int.gcd b.num a.den : Nat) * ((b.den : Int) / (Int.gcd a.num b.den : Nat)) := by
  obtain ⟨x, y, hx, hy, hxy, hf⟩ := gcd_out a.num b.den (dz b)
  obtain ⟨z, w, hz, hw, hzw, hs⟩ := gcd_out b.num a.den (dz a)
  generalize ((Int.gcd a.num b.den : Nat) : Int) = f at *
  generalize ((Int.gcd b.num a.den : Nat) : Int) = s at *
  have py := pos_of hy hf (dpos b)
  have pw := pos_of hw hs (dpos a)
  have cop : Int.gcd (x * z) (w * y) = 1 := by
    have c1 : Int.gcd x w = 1 := cop_dvd (cop_dvdL (red a) ⟨f, by rw [hx]; grind⟩) ⟨s, by rw [hw]; grind⟩
    have c2 : Int.gcd z y = 1 := cop_dvd (cop_dvdL (red b) ⟨s, by rw [hz]; grind⟩) ⟨f, by rw [hy]; grind⟩
    exact cop_mulR (cop_mul c1 hzw) (cop_mul hxy c2)
  have cross : x * z * (a * b).den = (a * b).num * (w * y) := by
    have hc := rat_mul_cross a b
    have e1 : (a.den * b.den : Int) = (f * s) * (w * y) := by rw [hw, hy]; grind
    have e2 : a.num * b.num = (f * s) * (x * z) := by rw [hx, hz]; grind
    rw [e1, e2] at hc
    have nz : f * s ≠ 0 := Int.mul_ne_zero (by omega) (by omega)
    have : (f * s) * ((a * b).num * (w * y)) = (f * s) * (x * z * (a * b).den) := by grind
    exact (Int.eq_of_mul_eq_mul_left nz this).symm
  have fin := rat_set (r := a * b) (Int.mul_pos pw py) cop cross
  refine ⟨hf, hs, ?_, ?_⟩
  · rw [fin.1, div_out hx hf, div_out hz hs]
  · rw [fin.2, div_out hw hs, div_out hy hf]
theorem inv_pos (b : Rat) (h : 0 < b.num) : b⁻¹.num = b.den ∧ (b⁻¹.den : Int) = b.num := by
  refine rat_set h (by rw [Int.gcd_comm]; exact red b) ?_
  have := (Rat.divInt_eq_divInt_iff (dz b⁻¹) (show b.num ≠ 0 by omega)).mp ((Rat.num_divInt_den b⁻¹).trans (Rat.inv_def b))
  grind
theorem inv_neg (b : Rat) (h : b.num < 0) : b⁻¹.num = -b.den ∧ (b⁻¹.den : Int) = -b.num := by
  refine rat_set (by omega) ?_ ?_
  · rw [Int.gcd_neg, Int.neg_gcd, Int.gcd_comm]
    exact red b
  · have := (Rat.divInt_eq_divInt_iff (dz b⁻¹) (show b.num ≠ 0 by omega)).mp ((Rat.num_divInt_den b⁻¹).trans (Rat.inv_def b))
    grind
def Bd (n : Nat) (r : Rat) : Prop := r.num.natAbs < 2 ^ n ∧ r.den < 2 ^ n
theorem low_out (t b : Int) (hb : 0 < b) : ∃ r : Rat, 0 < ((Int.gcd t b : Nat) : Int) ∧ r.num = t / (Int.gcd t b : Nat) ∧ (r.den : Int) = b / (Int.gcd t b : Nat) ∧ r.num.natAbs ≤ t.natAbs ∧ (r.den : Int) ≤ b := by
  obtain ⟨x, y, hx, hy, hxy, hg⟩ := gcd_out t b (by omega)
  generalize ((Int.gcd t b : Nat) : Int) = g at *
  have py := pos_of hy hg hb
  refine ⟨⟨x, y.toNat, by omega, by unfold Int.gcd at hxy; rw [show y.toNat = y.natAbs by omega]; exact hxy⟩, hg, ?_, ?_, ?_, ?_⟩
  · show x = _
    rw [div_out hx hg]
  · show ((y.toNat : Nat) : Int) = _
    rw [div_out hy hg]
    omega
  · show x.natAbs ≤ _
    rw [hx, Int.natAbs_mul]
    exact Nat.le_mul_of_pos_left _ (by omega)
  · show ((y.toNat : Nat) : Int) ≤ _
    have := Int.mul_le_mul_of_nonneg_right (show 1 ≤ g by omega) (Int.le_of_lt py)
    omega
theorem mk_out {n : Int} {d : Nat} (hd : d ≠ 0) : (mkRat n d).num.natAbs ≤ n.natAbs ∧ (mkRat n d).den ≤ d := by
  obtain ⟨m, hm, h1, h2⟩ := Rat.mkRat_num_den hd (show mkRat n d = ⟨(mkRat n d).num, (mkRat n d).den, (mkRat n d).den_nz, (mkRat n d).reduced⟩ from rfl)
  constructor
  · have : n.natAbs = (mkRat n d).num.natAbs * m := by
      conv => lhs; rw [h1]
      rw [Int.natAbs_mul, Int.natAbs_natCast]
    rw [this]
    exact Nat.le_mul_of_pos_right _ (by omega)
  · conv => rhs; rw [h2]
    exact Nat.le_mul_of_pos_right _ (by omega)
theorem lt_mul {x y n m : Nat} (h1 : x < 2 ^ n) (h2 : y < 2 ^ m) : x * y < 2 ^ (n + m) := by
  rw [Nat.pow_add]
  rcases Nat.eq_zero_or_pos y with z | z
  · subst z
    have := Nat.mul_pos (Nat.pow_pos (n := n) (show 0 < 2 by decide)) (Nat.pow_pos (n := m) (show 0 < 2 by decide))
    omega
  · exact Nat.lt_of_lt_of_le (Nat.mul_lt_mul_of_pos_right h1 z) (Nat.mul_le_mul_left _ (Nat.le_of_lt h2))
theorem bd_add {n m : Nat} {a b : Rat} (h1 : Bd n a) (h2 : Bd m b) : Bd (n + m + 1) (a + b) := by
  have q := mk_out (n := a.num * b.den + b.num * a.den) (d := a.den * b.den) (Nat.mul_ne_zero a.den_nz b.den_nz)
  rw [← Rat.add_def'] at q
  have e : 2 ^ (n + m + 1) = 2 * 2 ^ (n + m) := by rw [Nat.pow_succ]; omega
  have l1 : a.num.natAbs * b.den < 2 ^ (n + m) := lt_mul h1.1 h2.2
  have l2 : b.num.natAbs * a.den < 2 ^ (n + m) := by rw [Nat.mul_comm]; exact lt_mul h1.2 h2.1
  have l3 := lt_mul h1.2 h2.2
  have e1 : (a.num * b.den).natAbs = a.num.natAbs * b.den := by rw [Int.natAbs_mul, Int.natAbs_natCast]
  have e2 : (b.num * a.den).natAbs = b.num.natAbs * a.den := by rw [Int.natAbs_mul, Int.natAbs_natCast]
  exact ⟨by omega, by omega⟩
theorem bd_mul {n m : Nat} {a b : Rat} (h1 : Bd n a) (h2 : Bd m b) : Bd (n + m) (a * b) := by
  have q := mk_out (n := a.num * b.num) (d := a.den * b.den) (Nat.mul_ne_zero a.den_nz b.den_nz)
  rw [← Rat.mul_def'] at q
  have l1 := lt_mul h1.1 h2.1
  have l3 := lt_mul h1.2 h2.2
  rw [Int.natAbs_mul] at q
  exact ⟨by omega, by omega⟩
theorem bd_neg {n : Nat} {a : Rat} (h : Bd n a) : Bd n (-a) := ⟨by rw [Rat.neg_num, Int.natAbs_neg]; exact h.1, by rw [Rat.neg_den]; exact h.2⟩
theorem bd_up {n m : Nat} {a : Rat} (h : Bd n a) (hm : n ≤ m) : Bd m a := ⟨Nat.lt_of_lt_of_le h.1 (Nat.pow_le_pow_right (by decide) hm), Nat.lt_of_lt_of_le h.2 (Nat.pow_le_pow_right (by decide) hm)⟩
theorem bd_inv {n : Nat} {a : Rat} (h : Bd n a) (hz : a.num ≠ 0) : Bd n a⁻¹ := by
  obtain ⟨h1, h2⟩ := h
  rcases Int.lt_or_le 0 a.num with z | z
  · obtain ⟨e1, e2⟩ := inv_pos a z
    exact ⟨by rw [e1]; omega, by omega⟩
  · obtain ⟨e1, e2⟩ := inv_neg a (by omega)
    exact ⟨by rw [e1]; omega, by omega⟩
end Num

set_option linter.all false
namespace Num
/-- a fraction made of any two -/
theorem frac_out (t b : Int) (hb : b ≠ 0) : ((if b < 0 then -((Int.gcd t b : Nat) : Int) else ((Int.gcd t b : Nat) : Int)) ≠ 0) ∧ (Rat.divInt t b).num = t.fdiv (if b < 0 then -((Int.gcd t b : Nat) : Int) else ((Int.gcd t b : Nat) : Int)) ∧
    ((Rat.divInt t b).den : Int) = b.fdiv (if b < 0 then -((Int.gcd t b : Nat) : Int) else ((Int.gcd t b : Nat) : Int)) := by
  obtain ⟨x, y, hx, hy, hxy, hg⟩ := gcd_out t b hb
  have cross := (Rat.divInt_eq_divInt_iff (dz (Rat.divInt t b)) hb).mp (Rat.num_divInt_den (Rat.divInt t b))
  generalize ((Int.gcd t b : Nat) : Int) = g at *
  generalize Rat.divInt t b = r at *
  have gz : g ≠ 0 := by omega
  have c2 : x * r.den = r.num * y := by
    rw [hx, hy] at cross
    have : g * (x * r.den) = g * (r.num * y) := by grind
    exact Int.eq_of_mul_eq_mul_left gz this
  rcases Int.lt_or_le b 0 with z | z
  · rw [if_pos z]
    have py : 0 < -y := by
      rcases Int.lt_or_le 0 (-y) with q | q
      · exact q
      · have := Int.mul_nonneg (Int.le_of_lt hg) (show 0 ≤ y by omega)
        omega
    have fin := rat_set (n := -x) (d := -y) (r := r) py (by rw [Int.gcd_neg, Int.neg_gcd]; exact hxy) (by grind)
    have ng : -g ≠ 0 := by omega
    refine ⟨ng, ?_, ?_⟩
    · rw [fin.1, hx, show g * x = -g * -x by grind, Int.mul_fdiv_cancel_left _ ng]
    · rw [fin.2, hy, show g * y = -g * -y by grind, Int.mul_fdiv_cancel_left _ ng]
  · rw [if_neg (by omega)]
    have py := pos_of hy hg (by omega)
    have fin := rat_set (r := r) py hxy c2
    refine ⟨gz, ?_, ?_⟩
    · rw [fin.1, hx, Int.mul_fdiv_cancel_left _ gz]
    · rw [fin.2, hy, Int.mul_fdiv_cancel_left _ gz]
theorem frac_cross (t b : Int) (hb : b ≠ 0) : (Rat.divInt t b).num * b = t * (Rat.divInt t b).den := (Rat.divInt_eq_divInt_iff (dz _) hb).mp (Rat.num_divInt_den _)
theorem frac_bd (t b : Int) (hb : b ≠ 0) : (Rat.divInt t b).num.natAbs ≤ t.natAbs ∧ (Rat.divInt t b).den ≤ b.natAbs := by
  have c := frac_cross t b hb
  generalize Rat.divInt t b = r at *
  have hN : r.num.natAbs * b.natAbs = t.natAbs * r.den := by
    have := congrArg Int.natAbs c
    rw [Int.natAbs_mul, Int.natAbs_mul, Int.natAbs_natCast] at this
    exact this
  have cop : Nat.Coprime r.num.natAbs r.den := r.reduced
  have hb' : 0 < b.natAbs := by omega
  have d1 : r.den ∣ b.natAbs := cop.symm.dvd_of_dvd_mul_left ⟨t.natAbs, by rw [hN, Nat.mul_comm]⟩
  have d2 : r.num.natAbs ∣ t.natAbs := cop.dvd_of_dvd_mul_right ⟨b.natAbs, hN.symm⟩
  refine ⟨?_, Nat.le_of_dvd hb' d1⟩
  rcases Nat.eq_zero_or_pos t.natAbs with z | z
  · rw [z, Nat.zero_mul] at hN
    rcases Nat.mul_eq_zero.mp hN with q | q
    · omega
    · omega
  · exact Nat.le_of_dvd z d2
end Num
namespace Num
theorem rat_sub_cross (a b : Rat) : (a - b).num * (a.den * b.den : Int) = (a.num * b.den - b.num * a.den) * (a - b).den := by
  have h := rat_add_cross a (-b)
  rw [← Rat.sub_eq_add_neg, Rat.neg_num, Rat.neg_den] at h
  rw [h]
  grind
theorem rat_div_cross (a b : Rat) (h : b.num ≠ 0) : (a * b⁻¹).num * (a.den * b.num : Int) = (a.num * b.den) * (a * b⁻¹).den := by
  have c := rat_mul_cross a b⁻¹
  rcases Int.lt_or_le 0 b.num with z | z
  · obtain ⟨e1, e2⟩ := inv_pos b z
    rw [e1, e2] at c
    exact c
  · obtain ⟨e1, e2⟩ := inv_neg b (by omega)
    rw [e1, e2] at c
    grind
end Num

set_option linter.all false
namespace Num
/-! values of rows -/
def ev (x : Rat) : List Rat → Rat
  | [] => 0
  | r :: rs => r + x * ev x rs
theorem ev_append (x : Rat) : ∀ (rs : List Rat) (r : Rat), ev x (rs ++ [r]) = ev x rs + r * x ^ rs.length
  | [], r => by
    show r + x * 0 = 0 + r * x ^ 0
    rw [Rat.pow_zero]
    grind
  | a :: rs, r => by
    show a + x * ev x (rs ++ [r]) = a + x * ev x rs + r * x ^ (rs.length + 1)
    rw [ev_append x rs r, Rat.pow_succ]
    grind
def wv (t b : Int) : List Int → Int
  | [] => 0
  | x :: s => wv t b s * t + x * b ^ s.length
theorem bd_zero (n : Nat) (h : 0 < n) : Bd n 0 := ⟨Nat.pow_pos (by decide), Nat.one_lt_two_pow (by omega)⟩
theorem bd_one (n : Nat) (h : 0 < n) : Bd n 1 := ⟨Nat.one_lt_two_pow (by omega), Nat.one_lt_two_pow (by omega)⟩
theorem bd_ev {n : Nat} {x : Rat} (hx : Bd n x) : ∀ rs : List Rat, (∀ r ∈ rs, Bd n r) → Bd (rs.length * (2 * n + 1) + 1) (ev x rs)
  | [], _ => bd_zero _ (by omega)
  | r :: rs, h => by
    have ih := bd_ev hx rs fun y hy => h y (List.mem_cons_of_mem _ hy)
    refine bd_up (bd_add (h r (List.mem_cons_self ..)) (bd_mul hx ih)) ?_
    rw [List.length_cons, Nat.add_mul]
    omega
theorem bd_pow {n : Nat} {x : Rat} (hx : Bd n x) : ∀ k : Nat, Bd (k * n + 1) (x ^ k)
  | 0 => by rw [Rat.pow_zero]; exact bd_one _ (by omega)
  | k + 1 => by
    rw [Rat.pow_succ]
    refine bd_up (bd_mul (bd_pow hx k) hx) ?_
    rw [Nat.add_mul]
    omega
theorem wv_bd {t b : Int} {m n : Nat} (ht : t.natAbs < 2 ^ n) (hb : b.natAbs < 2 ^ n) : ∀ ns : List Int, (∀ x ∈ ns, x.natAbs < 2 ^ m) → (wv t b ns).natAbs < 2 ^ (m + (n + 1) * ns.length)
  | [], _ => by
    show 0 < _
    exact Nat.pow_pos (by decide)
  | x :: s, h => by
    have ih := wv_bd ht hb s fun y hy => h y (List.mem_cons_of_mem _ hy)
    have hx := h x (List.mem_cons_self ..)
    have hp : (b ^ s.length).natAbs ≤ 2 ^ (n * s.length) := by
      rw [Int.natAbs_pow, Nat.pow_mul]
      exact Nat.pow_le_pow_left (Nat.le_of_lt hb) _
    have e1 : (wv t b s * t).natAbs < 2 ^ (m + (n + 1) * s.length + n) := by
      rw [Int.natAbs_mul]
      exact lt_mul ih ht
    have e2 : (x * b ^ s.length).natAbs ≤ 2 ^ (m + (n + 1) * s.length + n) := by
      rw [Int.natAbs_mul]
      refine Nat.le_trans (Nat.mul_le_mul (Nat.le_of_lt hx) hp) ?_
      rw [← Nat.pow_add]
      refine Nat.pow_le_pow_right (by decide) ?_
      rw [Nat.add_mul]
      omega
    have e3 : 2 ^ (m + (n + 1) * (s.length + 1)) = 2 * 2 ^ (m + (n + 1) * s.length + n) := by
      rw [Nat.mul_add, ← Nat.add_assoc, Nat.mul_one, ← Nat.add_assoc, Nat.pow_succ]
      omega
    show (wv t b s * t + x * b ^ s.length).natAbs < 2 ^ (m + (n + 1) * (s.length + 1))
    rw [e3]
    omega
theorem wv_ev {t b : Int} {B : Rat} {x : Rat} (hb : (b : Rat) ≠ 0) (hx : x * b = t) (hB : B ≠ 0) : ∀ (ns : List Int) (rs : List Rat), ns.length = rs.length → (∀ i, i < ns.length → (ns.getD i 0 : Rat) = rs.getD i 0 * B) → ((wv t b ns : Int) : Rat) * b = (b : Rat) ^ ns.length * ev x rs * B
  | [], [], _, _ => by
    show ((0 : Int) : Rat) * b = _ * 0 * B
    grind
  | n :: ns, r :: rs, hl, h => by
    have ih := wv_ev hb hx hB ns rs (by simpa using hl) fun i hi => by
      have := h (i + 1) (by simpa using hi)
      simpa using this
    have h0 : (n : Rat) = r * B := by simpa using h 0 (by simp)
    show ((wv t b ns * t + n * b ^ ns.length : Int) : Rat) * b = (b : Rat) ^ (ns.length + 1) * (r + x * ev x rs) * B
    rw [Rat.intCast_add, Rat.intCast_mul, Rat.intCast_mul, Rat.intCast_pow, Rat.pow_succ, h0]
    have : (wv t b ns : Rat) * t * b = (wv t b ns : Rat) * b * (x * b) := by rw [hx]; grind
    grind
  | [], _ :: _, hl, _ => by simp at hl
  | _ :: _, [], hl, _ => by simp at hl
end Num
namespace Num
theorem num_den (x : Rat) : x * ((x.den : Int) : Rat) = ((x.num : Int) : Rat) := by
  have h := Rat.num_divInt_den x
  rw [Rat.divInt_eq_div] at h
  have : ((x.den : Int) : Rat) ≠ 0 := fun z => by
    have := Rat.intCast_inj.mp (z.trans (show (0 : Rat) = ((0 : Int) : Rat) from rfl))
    have := x.den_nz
    omega
  grind
theorem int_ne {b : Int} (h : b ≠ 0) : (b : Rat) ≠ 0 := fun z => h (Rat.intCast_inj.mp (z.trans (show (0 : Rat) = ((0 : Int) : Rat) from rfl)))
theorem clear_one {x : Rat} {B : Int} (h : (x.den : Int) ∣ B) : ((x.num * (B / x.den) : Int) : Rat) = x * B := by
  obtain ⟨k, hk⟩ := h
  have e : B / (x.den : Int) = k := by rw [hk]; exact Int.mul_ediv_cancel_left _ (dz x)
  rw [e, hk, Rat.intCast_mul, Rat.intCast_mul, ← num_den x]
  grind
theorem val_out {t b B : Int} {x : Rat} (hb : b ≠ 0) (hx : x * b = t) (hB : B ≠ 0) (ns : List Int) (rs : List Rat) (hl : ns.length = rs.length) (h0 : 0 < ns.length) (h : ∀ i, i < ns.length → (ns.getD i 0 : Rat) = rs.getD i 0 * B) :
    Rat.divInt (wv t b ns) (B * b ^ (ns.length - 1)) = ev x rs := by
  have hb' := int_ne hb
  have hB' := int_ne hB
  have e := wv_ev hb' hx hB' ns rs hl h
  obtain ⟨k, hk⟩ : ∃ k, ns.length = k + 1 := ⟨ns.length - 1, by omega⟩
  rw [hk, Rat.pow_succ] at e
  rw [hk, Nat.add_sub_cancel, Rat.divInt_eq_div]
  have hp : (b : Rat) ^ k ≠ 0 := by
    have := int_ne (Int.pow_ne_zero (m := k) hb)
    rw [Rat.intCast_pow] at this
    exact this
  rw [Rat.intCast_mul, Rat.intCast_pow]
  have e2 : (wv t b ns : Rat) = (b : Rat) ^ k * ev x rs * B := by
    have : (wv t b ns : Rat) * b = ((b : Rat) ^ k * ev x rs * B) * b := by rw [e]; grind
    grind
  rw [e2]
  grind
end Num

set_option linter.all false
namespace Num
/-! rows by a prime: products by places, rows without noughts at their end -/
def cf (as bs : List Int) : Nat → Nat → Int
  | 0, _ => 0
  | i + 1, k => cf as bs i k + as.getD i 0 * (if i ≤ k then bs.getD (k - i) 0 else 0)
/-- the place k behind i whole turns and j inner ones -/
def cfp (as bs : List Int) (i j k : Nat) : Int := cf as bs i k + (if i ≤ k ∧ k < i + j then as.getD i 0 * bs.getD (k - i) 0 else 0)
theorem cfp_zero (as bs : List Int) (i k : Nat) : cfp as bs i 0 k = cf as bs i k := by
  unfold cfp
  rw [if_neg (by omega)]
  omega
theorem cfp_full (as bs : List Int) (i k : Nat) : cfp as bs i bs.length k = cf as bs (i + 1) k := by
  unfold cfp
  rw [cf]
  by_cases h : i ≤ k
  · by_cases h2 : k < i + bs.length
    · rw [if_pos ⟨h, h2⟩, if_pos h]
    · have e : bs.getD (k - i) 0 = 0 := by
        rw [List.getD_eq_getElem?_getD, List.getElem?_eq_none (by omega)]
        rfl
      rw [if_neg (by omega), if_pos h, e, Int.mul_zero]
  · rw [if_neg (by omega), if_neg h, Int.mul_zero]
theorem cfp_step (as bs : List Int) (i j k : Nat) : cfp as bs i (j + 1) k = cfp as bs i j k + (if k = i + j then as.getD i 0 * bs.getD j 0 else 0) := by
  unfold cfp
  by_cases h : k = i + j
  · subst h
    rw [if_pos (by omega), if_neg (by omega), if_pos rfl, Nat.add_sub_cancel_left]
    omega
  · rw [if_neg h]
    by_cases h2 : i ≤ k ∧ k < i + j
    · rw [if_pos (by omega), if_pos h2]
      omega
    · rw [if_neg (by omega), if_neg h2]
      omega
theorem cf_zero {as bs : List Int} {i : Nat} (h : as.getD i 0 = 0) (k : Nat) : cf as bs (i + 1) k = cf as bs i k := by
  rw [cf, h, Int.zero_mul, Int.add_zero]
/-- the last place -/
theorem cf_below (as bs : List Int) (k : Nat) : ∀ i, i + bs.length ≤ k + 1 → cf as bs i k = 0
  | 0, _ => rfl
  | i + 1, h => by
    rw [cf, cf_below as bs k i (by omega)]
    have e : bs.getD (k - i) 0 = 0 := by
      rw [List.getD_eq_getElem?_getD, List.getElem?_eq_none (by omega)]
      rfl
    rw [if_pos (by omega), e, Int.mul_zero]
    rfl
theorem cf_last (as bs : List Int) (ha : 0 < as.length) (hb : 0 < bs.length) : cf as bs as.length (as.length + bs.length - 2) = as.getD (as.length - 1) 0 * bs.getD (bs.length - 1) 0 := by
  obtain ⟨m, hm⟩ : ∃ m, as.length = m + 1 := ⟨as.length - 1, by omega⟩
  rw [hm, cf, cf_below as bs _ m (by omega), if_pos (by omega), Int.zero_add]
  congr 2 <;> omega
/-- a row without noughts at its end -/
def IsTrim (ns ms : List Int) : Prop := ∃ k, k ≤ ns.length ∧ ms = ns.take k ∧ (∀ j, k ≤ j → j < ns.length → ns.getD j 0 = 0) ∧ (k = 0 ∨ ns.getD (k - 1) 0 ≠ 0)
theorem IsTrim.unique {ns ms ms' : List Int} (h : IsTrim ns ms) (h' : IsTrim ns ms') : ms = ms' := by
  obtain ⟨k, k1, rfl, k2, k3⟩ := h
  obtain ⟨l, l1, rfl, l2, l3⟩ := h'
  have e : k = l := by
    rcases Nat.lt_trichotomy k l with z | z | z
    · rcases l3 with q | q
      · omega
      · exact absurd (k2 (l - 1) (by omega) (by omega)) q
    · exact z
    · rcases k3 with q | q
      · omega
      · exact absurd (l2 (k - 1) (by omega) (by omega)) q
  rw [e]
theorem IsTrim.self {ns : List Int} (h : ns = [] ∨ ns.getD (ns.length - 1) 0 ≠ 0) : IsTrim ns ns := by
  refine ⟨ns.length, Nat.le_refl _, (List.take_length).symm, fun j h1 h2 => by omega, ?_⟩
  rcases h with h | h
  · left; rw [h]; rfl
  · exact .inr h
theorem IsTrim.last {ns ms : List Int} (h : IsTrim ns ms) : ms = [] ∨ ms.getD (ms.length - 1) 0 ≠ 0 := by
  obtain ⟨k, k1, rfl, k2, k3⟩ := h
  rcases k3 with q | q
  · left; rw [q]; rfl
  · by_cases hk : k = 0
    · left; rw [hk]; rfl
    · right
      rw [List.length_take, Nat.min_eq_left k1, List.getD_eq_getElem?_getD, List.getElem?_take_of_lt (by omega), ← List.getD_eq_getElem?_getD]
      exact q
theorem IsTrim.mem {ns ms : List Int} (h : IsTrim ns ms) : ∀ m ∈ ms, m ∈ ns := by
  obtain ⟨k, _, rfl, _⟩ := h
  exact fun m hm => List.mem_of_mem_take hm
def PrimeI (p : Int) : Prop := 2 ≤ p ∧ ∀ d : Int, 2 ≤ d → d * d ≤ p → p % d ≠ 0
/-- a prime without small divisors has none -/
theorem prime_coprime {p x : Int} (hp : PrimeI p) (h0 : 0 < x) (h1 : x < p) : Int.gcd p x = 1 := by
  obtain ⟨h2, hd⟩ := hp
  have hg : 0 < Int.gcd p x := Int.gcd_pos_of_ne_zero_left _ (by omega)
  obtain ⟨q, hq⟩ : ((Int.gcd p x : Nat) : Int) ∣ p := Int.gcd_dvd_left ..
  have hgx : ((Int.gcd p x : Nat) : Int) ≤ x := Int.le_of_dvd h0 (Int.gcd_dvd_right ..)
  generalize hG : ((Int.gcd p x : Nat) : Int) = g at *
  have g1 : 1 ≤ g := by omega
  rcases Int.lt_or_le 1 g with hgt | hle
  · exfalso
    have q1 : 2 ≤ q := by
      rcases Int.lt_or_le q 2 with z | z
      · have : q ≤ 1 := by omega
        have := Int.mul_le_mul_of_nonneg_left this (show 0 ≤ g by omega)
        omega
      · exact z
    rcases Int.le_total g q with z | z
    · have : g * g ≤ g * q := Int.mul_le_mul_of_nonneg_left z (by omega)
      exact hd g (by omega) (by omega) (Int.emod_eq_zero_of_dvd ⟨q, hq⟩)
    · have : q * q ≤ g * q := Int.mul_le_mul_of_nonneg_right z (by omega)
      exact hd q q1 (by omega) (Int.emod_eq_zero_of_dvd ⟨g, by rw [hq, Int.mul_comm]⟩)
  · omega
theorem prime_mul {p x y : Int} (hp : PrimeI p) (hx : 0 < x) (hx1 : x < p) (hy : 0 < y) (hy1 : y < p) : x * y % p ≠ 0 := by
  intro h
  have hd : p ∣ x * y := Int.dvd_of_emod_eq_zero h
  have c := prime_coprime hp hx hx1
  have hn : p.natAbs ∣ x.natAbs * y.natAbs := by rw [← Int.natAbs_mul]; exact Int.natAbs_dvd_natAbs.mpr hd
  have c' : Nat.Coprime p.natAbs x.natAbs := c
  have := Nat.Coprime.dvd_of_dvd_mul_left c' hn
  have := Nat.le_of_dvd (by omega) this
  omega
end Num

set_option linter.all false
namespace Num
/-- a sum by places -/
def sm (f : Nat → Int) : Nat → Int
  | 0 => 0
  | n + 1 => sm f n + f n
theorem sm_ext {f g : Nat → Int} : ∀ n, (∀ i, i < n → f i = g i) → sm f n = sm g n
  | 0, _ => rfl
  | n + 1, h => by rw [sm, sm, sm_ext n fun i hi => h i (by omega), h n (by omega)]
theorem sm_head (f : Nat → Int) : ∀ n, sm f (n + 1) = f 0 + sm (fun i => f (i + 1)) n
  | 0 => by rw [sm, sm, sm]; omega
  | n + 1 => by rw [sm, sm_head f n, sm]; omega
theorem sm_rev (f : Nat → Int) : ∀ n, sm (fun i => f (n - i)) (n + 1) = sm f (n + 1)
  | 0 => rfl
  | n + 1 => by
    rw [sm_head, sm_ext (g := fun i => f (n - i)) (n + 1) fun i hi => by congr 1; omega, sm_rev f n]
    rw [sm, sm, sm]
    show f (n + 1 - 0) + (sm f n + f n) = _
    rw [Nat.sub_zero]
    omega
theorem sm_zero {f : Nat → Int} {m : Nat} : ∀ n, m ≤ n → (∀ i, m ≤ i → i < n → f i = 0) → sm f n = sm f m
  | 0, h, _ => by
    have : m = 0 := by omega
    rw [this]
  | n + 1, h, z => by
    by_cases e : m = n + 1
    · rw [e]
    · rw [sm, sm_zero n (by omega) (fun i h1 h2 => z i h1 (by omega)), z n (by omega) (by omega), Int.add_zero]
theorem cf_sm (as bs : List Int) (k : Nat) : ∀ n, cf as bs n k = sm (fun i => as.getD i 0 * (if i ≤ k then bs.getD (k - i) 0 else 0)) n
  | 0 => rfl
  | n + 1 => by rw [cf, cf_sm as bs k n, sm]
theorem cf_conv (as bs : List Int) (k : Nat) : cf as bs as.length k = sm (fun i => as.getD i 0 * bs.getD (k - i) 0) (k + 1) := by
  rw [cf_sm]
  have out : ∀ i, as.length ≤ i → as.getD i 0 = 0 := fun i h => by
    rw [List.getD_eq_getElem?_getD, List.getElem?_eq_none h]
    rfl
  rcases Nat.le_total as.length (k + 1) with h | h
  · rw [← sm_zero (k + 1) h fun i h1 _ => by rw [out i h1, Int.zero_mul]]
    exact sm_ext _ fun i hi => by rw [if_pos (by omega)]
  · rw [sm_zero as.length h fun i h1 _ => by rw [if_neg (by omega), Int.mul_zero]]
    exact sm_ext _ fun i hi => by rw [if_pos (by omega)]
theorem cf_comm (as bs : List Int) (k : Nat) : cf as bs as.length k = cf bs as bs.length k := by
  rw [cf_conv, cf_conv, ← sm_rev]
  refine sm_ext _ fun i hi => ?_
  show as.getD (k - i) 0 * bs.getD (k - (k - i)) 0 = _
  rw [show k - (k - i) = i by omega, Int.mul_comm]
end Num

set_option linter.all false
namespace Num
/-! rows of fractions: sums and products by places, rows without noughts at their end -/
def tabQ (n : Nat) (f : Nat → Rat) : List Rat := (List.range n).map f
theorem tabQ_len (n : Nat) (f : Nat → Rat) : (tabQ n f).length = n := by unfold tabQ; simp
theorem tabQ_at {n : Nat} {f : Nat → Rat} {k : Nat} (h : k < n) : (tabQ n f)[k]? = some (f k) := by
  unfold tabQ
  rw [List.getElem?_map, List.getElem?_range h]
  rfl
theorem tabQ_ext {n : Nat} {f g : Nat → Rat} (h : ∀ j, j < n → f j = g j) : tabQ n f = tabQ n g := by
  unfold tabQ
  exact List.map_congr_left fun j hj => h j (List.mem_range.mp hj)
theorem tabQ_set {n : Nat} {f g : Nat → Rat} {k : Nat} (h : k < n) (hg : ∀ j, j < n → j ≠ k → g j = f j) : (tabQ n f).set k (g k) = tabQ n g := by
  apply List.ext_getElem?
  intro j
  rw [List.getElem?_set]
  unfold tabQ
  by_cases hj : k = j
  · subst hj
    rw [if_pos rfl, if_pos (by simpa using h)]
    simp [h]
  · rw [if_neg hj]
    by_cases hj2 : j < n
    · simp [hj2, hg j hj2 (fun z => hj z.symm)]
    · simp [hj2]
theorem tabQ_succ (n : Nat) (f : Nat → Rat) : tabQ (n + 1) f = tabQ n f ++ [f n] := by
  unfold tabQ
  rw [List.range_succ, List.map_append]
  rfl
theorem tabQ_self (rs : List Rat) : (tabQ rs.length fun k => rs.getD k 0) = rs := by
  apply List.ext_getElem?
  intro j
  by_cases h : j < rs.length
  · rw [tabQ_at h, List.getD_eq_getElem?_getD, List.getElem?_eq_getElem h]
    rfl
  · rw [List.getElem?_eq_none (by rw [tabQ_len]; omega), List.getElem?_eq_none (by omega)]
theorem tabQ_mem {n : Nat} {f : Nat → Rat} {x : Rat} (h : x ∈ tabQ n f) : ∃ k, k < n ∧ x = f k := by
  unfold tabQ at h
  obtain ⟨k, hk, rfl⟩ := List.mem_map.mp h
  exact ⟨k, List.mem_range.mp hk, rfl⟩
theorem outQ {rs : List Rat} {k : Nat} (h : rs.length ≤ k) : rs.getD k 0 = 0 := by
  rw [List.getD_eq_getElem?_getD, List.getElem?_eq_none h]
  rfl
def trimQ (l : List Rat) : List Rat := (l.reverse.dropWhile fun x => decide (x = 0)).reverse
theorem trimQ_nil : trimQ [] = [] := rfl
theorem trimQ_zero (l : List Rat) : trimQ (l ++ [0]) = trimQ l := by
  unfold trimQ
  rw [List.reverse_append, List.reverse_singleton, List.singleton_append, List.dropWhile_cons, if_pos (by simp)]
theorem trimQ_last (l : List Rat) {x : Rat} (h : x ≠ 0) : trimQ (l ++ [x]) = l ++ [x] := by
  unfold trimQ
  rw [List.reverse_append, List.reverse_singleton, List.singleton_append, List.dropWhile_cons, if_neg (by simpa using h)]
  simp
theorem trimQ_take : ∀ (n : Nat) (l : List Rat) (k : Nat), l.length = n → k ≤ l.length → (∀ j, k ≤ j → j < l.length → l.getD j 0 = 0) → (k = 0 ∨ l.getD (k - 1) 0 ≠ 0) → trimQ l = l.take k
  | 0, l, k, hn, hk, _, _ => by
    have : l = [] := List.length_eq_zero_iff.mp hn
    subst this
    simp [trimQ]
  | n + 1, l, k, hn, hk, hz, hl => by
    have hne : l ≠ [] := fun z => by rw [z] at hn; cases hn
    obtain ⟨l', x, rfl⟩ : ∃ l' x, l = l' ++ [x] := ⟨l.dropLast, l.getLast hne, (List.dropLast_concat_getLast hne).symm⟩
    have hn' : l'.length = n := by simpa using hn
    have hx : (l' ++ [x]).getD n 0 = x := by
      rw [List.getD_eq_getElem?_getD, List.getElem?_append_right (by omega), hn', Nat.sub_self]
      rfl
    have gl : ∀ j, j < n → (l' ++ [x]).getD j 0 = l'.getD j 0 := fun j hj => by
      rw [List.getD_eq_getElem?_getD, List.getElem?_append_left (by omega), ← List.getD_eq_getElem?_getD]
    rw [List.length_append, hn'] at hk hz
    simp only [List.length_cons, List.length_nil] at hk hz
    by_cases hkn : k = n + 1
    · subst hkn
      rcases hl with z | z
      · omega
      · rw [Nat.add_sub_cancel, hx] at z
        rw [trimQ_last _ z, List.take_of_length_le (by simp [hn'])]
    · have x0 : x = 0 := by rw [← hx]; exact hz n (by omega) (by omega)
      subst x0
      rw [trimQ_zero, List.take_append_of_le_length (by omega)]
      refine trimQ_take n l' k hn' (by omega) (fun j h1 h2 => ?_) ?_
      · rw [← gl j (by omega)]
        exact hz j h1 (by omega)
      · rcases hl with z | z
        · exact .inl z
        · by_cases k0 : k = 0
          · exact .inl k0
          · rw [gl (k - 1) (by omega)] at z
            exact .inr z
theorem trimQ_sub (l : List Rat) : ∃ k, k ≤ l.length ∧ trimQ l = l.take k ∧ (k = 0 ∨ l.getD (k - 1) 0 ≠ 0) := by
  generalize hn : l.length = n
  induction n generalizing l with
  | zero =>
    have : l = [] := List.length_eq_zero_iff.mp hn
    subst this
    exact ⟨0, Nat.le_refl _, rfl, .inl rfl⟩
  | succ n ih =>
    have hne : l ≠ [] := fun z => by rw [z] at hn; cases hn
    obtain ⟨l', x, rfl⟩ : ∃ l' x, l = l' ++ [x] := ⟨l.dropLast, l.getLast hne, (List.dropLast_concat_getLast hne).symm⟩
    have hn' : l'.length = n := by simpa using hn
    by_cases x0 : x = 0
    · subst x0
      obtain ⟨k, k1, k2, k3⟩ := ih l' hn'
      refine ⟨k, by omega, by rw [trimQ_zero, k2, List.take_append_of_le_length (by omega)], ?_⟩
      rcases k3 with z | z
      · exact .inl z
      · by_cases k0 : k = 0
        · exact .inl k0
        · right
          rw [List.getD_eq_getElem?_getD, List.getElem?_append_left (by omega), ← List.getD_eq_getElem?_getD]
          exact z
    · refine ⟨n + 1, Nat.le_refl _, by rw [trimQ_last _ x0, List.take_of_length_le (by simp [hn'])], .inr ?_⟩
      rw [Nat.add_sub_cancel, List.getD_eq_getElem?_getD, List.getElem?_append_right (by omega), hn', Nat.sub_self]
      exact x0
theorem trimQ_mem {l : List Rat} {x : Rat} (h : x ∈ trimQ l) : x ∈ l := by
  obtain ⟨k, _, e, _⟩ := trimQ_sub l
  rw [e] at h
  exact List.mem_of_mem_take h
theorem trimQ_len (l : List Rat) : (trimQ l).length ≤ l.length := by
  obtain ⟨k, hk, e, _⟩ := trimQ_sub l
  rw [e, List.length_take]
  omega
def LastNZ (l : List Rat) : Prop := ∀ x, l.getLast? = some x → x ≠ 0
theorem trimQ_lastNZ (l : List Rat) : LastNZ (trimQ l) := fun x hx => by
  obtain ⟨k, hk, e, h⟩ := trimQ_sub l
  rw [e] at hx
  rcases h with z | z
  · rw [z] at hx
    simp at hx
  · by_cases k0 : k = 0
    · rw [k0] at hx
      simp at hx
    · have e2 : (l.take k).getLast? = some (l.getD (k - 1) 0) := by
        rw [List.getLast?_eq_getElem?, List.length_take, Nat.min_eq_left hk, List.getElem?_take_of_lt (by omega), List.getD_eq_getElem?_getD, List.getElem?_eq_getElem (by omega)]
        rfl
      rw [e2] at hx
      rw [← Option.some.inj hx]
      exact z
theorem trimQ_self {l : List Rat} (h : LastNZ l) : trimQ l = l := by
  by_cases hne : l = []
  · rw [hne]; rfl
  · obtain ⟨l', x, rfl⟩ : ∃ l' x, l = l' ++ [x] := ⟨l.dropLast, l.getLast hne, (List.dropLast_concat_getLast hne).symm⟩
    exact trimQ_last _ (h x (by simp))
theorem trimQ_zeros {l : List Rat} (h : ∀ x ∈ l, x = 0) : trimQ l = [] := by
  rw [trimQ_take _ l 0 rfl (Nat.zero_le _) (fun j _ hj => ?_) (.inl rfl), List.take_zero]
  rw [List.getD_eq_getElem?_getD, List.getElem?_eq_getElem hj]
  exact h _ (List.getElem_mem hj)
def addQ (rs ss : List Rat) : List Rat := tabQ (max rs.length ss.length) fun k => rs.getD k 0 + ss.getD k 0
theorem addQ_comm (rs ss : List Rat) : addQ rs ss = addQ ss rs := by
  unfold addQ
  rw [Nat.max_comm]
  exact tabQ_ext fun k _ => Rat.add_comm _ _
theorem getD_bd {n : Nat} {rs : List Rat} (hn : 0 < n) (h : ∀ x ∈ rs, Bd n x) (k : Nat) : Bd n (rs.getD k 0) := by
  by_cases hk : k < rs.length
  · rw [List.getD_eq_getElem?_getD, List.getElem?_eq_getElem hk]
    exact h _ (List.getElem_mem hk)
  · rw [outQ (by omega)]
    exact bd_zero _ hn
theorem addQ_bd {n m : Nat} {rs ss : List Rat} (hn : 0 < n) (hm : 0 < m) (h1 : ∀ x ∈ rs, Bd n x) (h2 : ∀ x ∈ ss, Bd m x) : ∀ x ∈ addQ rs ss, Bd (n + m + 1) x := fun x hx => by
  obtain ⟨k, _, rfl⟩ := tabQ_mem hx
  exact bd_add (getD_bd hn h1 k) (getD_bd hm h2 k)
def negQ (rs : List Rat) : List Rat := rs.map fun x => -x
theorem negQ_get (rs : List Rat) (k : Nat) : (negQ rs).getD k 0 = -rs.getD k 0 := by
  unfold negQ
  rw [List.getD_eq_getElem?_getD, List.getElem?_map, List.getD_eq_getElem?_getD]
  cases rs[k]? with
  | none => rfl
  | some x => rfl
def cfQ (as bs : List Rat) : Nat → Nat → Rat
  | 0, _ => 0
  | i + 1, k => cfQ as bs i k + as.getD i 0 * (if i ≤ k then bs.getD (k - i) 0 else 0)
def cfpQ (as bs : List Rat) (i j k : Nat) : Rat := cfQ as bs i k + (if i ≤ k ∧ k < i + j then as.getD i 0 * bs.getD (k - i) 0 else 0)
theorem cfpQ_zero (as bs : List Rat) (i k : Nat) : cfpQ as bs i 0 k = cfQ as bs i k := by
  unfold cfpQ
  rw [if_neg (by omega)]
  grind
theorem cfpQ_full (as bs : List Rat) (i k : Nat) : cfpQ as bs i bs.length k = cfQ as bs (i + 1) k := by
  unfold cfpQ
  rw [cfQ]
  by_cases h : i ≤ k
  · by_cases h2 : k < i + bs.length
    · rw [if_pos ⟨h, h2⟩, if_pos h]
    · have e : bs.getD (k - i) 0 = 0 := outQ (by omega)
      rw [if_neg (by omega), if_pos h, e, Rat.mul_zero]
  · rw [if_neg (by omega), if_neg h, Rat.mul_zero]
theorem cfpQ_step (as bs : List Rat) (i j k : Nat) : cfpQ as bs i (j + 1) k = cfpQ as bs i j k + (if k = i + j then as.getD i 0 * bs.getD j 0 else 0) := by
  unfold cfpQ
  by_cases h : k = i + j
  · subst h
    rw [if_pos (by omega), if_neg (by omega), if_pos rfl, Nat.add_sub_cancel_left]
    grind
  · rw [if_neg h]
    by_cases h2 : i ≤ k ∧ k < i + j
    · rw [if_pos (by omega), if_pos h2]
      grind
    · rw [if_neg (by omega), if_neg h2]
      grind
def mulQ (rs ss : List Rat) : List Rat := tabQ (rs.length + ss.length - 1) (cfQ rs ss rs.length)
theorem cfQ_nilR (rs : List Rat) (k : Nat) : ∀ i, cfQ rs [] i k = 0
  | 0 => rfl
  | i + 1 => by
    rw [cfQ, cfQ_nilR rs k i]
    have e : ([] : List Rat).getD (k - i) 0 = 0 := rfl
    rw [e]
    grind
theorem mulQ_nil {rs ss : List Rat} (h : rs = [] ∨ ss = []) : trimQ (mulQ rs ss) = [] := by
  refine trimQ_zeros fun x hx => ?_
  obtain ⟨k, _, rfl⟩ := tabQ_mem hx
  rcases h with rfl | rfl
  · rfl
  · exact cfQ_nilR _ _ _
theorem cfQ_bd {n m : Nat} {rs ss : List Rat} (hn : 0 < n) (hm : 0 < m) (h1 : ∀ x ∈ rs, Bd n x) (h2 : ∀ x ∈ ss, Bd m x) (k : Nat) : ∀ i, Bd (i * (n + m + 1) + 1) (cfQ rs ss i k)
  | 0 => bd_zero _ (by omega)
  | i + 1 => by
    rw [cfQ]
    have e : Bd m (if i ≤ k then ss.getD (k - i) 0 else 0) := by
      split
      · exact getD_bd hm h2 _
      · exact bd_zero _ hm
    refine bd_up (bd_add (cfQ_bd hn hm h1 h2 k i) (bd_mul (getD_bd hn h1 i) e)) ?_
    rw [Nat.add_mul]
    omega
theorem cfpQ_bd {n m : Nat} {rs ss : List Rat} (hn : 0 < n) (hm : 0 < m) (h1 : ∀ x ∈ rs, Bd n x) (h2 : ∀ x ∈ ss, Bd m x) (i j k : Nat) : Bd ((i + 1) * (n + m + 1) + 1) (cfpQ rs ss i j k) := by
  unfold cfpQ
  have e : Bd (n + m) (if i ≤ k ∧ k < i + j then rs.getD i 0 * ss.getD (k - i) 0 else 0) := by
    split
    · exact bd_mul (getD_bd hn h1 i) (getD_bd hm h2 _)
    · exact bd_zero _ (by omega)
  refine bd_up (bd_add (cfQ_bd hn hm h1 h2 k i) e) ?_
  rw [Nat.add_mul]
  omega
theorem cf_cfQ {ns ms : List Int} {rs ss : List Rat} {B C : Rat} (h1 : ∀ i, (ns.getD i 0 : Rat) = rs.getD i 0 * B) (h2 : ∀ i, (ms.getD i 0 : Rat) = ss.getD i 0 * C) (k : Nat) : ∀ i, ((cf ns ms i k : Int) : Rat) = cfQ rs ss i k * (B * C)
  | 0 => by
    show ((0 : Int) : Rat) = 0 * (B * C)
    grind
  | i + 1 => by
    rw [cf, cfQ, Rat.intCast_add, Rat.intCast_mul, cf_cfQ h1 h2 k i, h1 i]
    split
    · rw [h2 (k - i)]
      grind
    · show _ + rs.getD i 0 * B * ((0 : Int) : Rat) = _
      grind
theorem cf_bd {n m : Nat} {as bs : List Int} (h1 : ∀ x ∈ as, x.natAbs < 2 ^ n) (h2 : ∀ x ∈ bs, x.natAbs < 2 ^ m) (k : Nat) : ∀ i, (cf as bs i k).natAbs ≤ i * 2 ^ (n + m)
  | 0 => by
    show 0 ≤ _
    omega
  | i + 1 => by
    have g : ∀ {n : Nat} {as : List Int} (h : ∀ x ∈ as, x.natAbs < 2 ^ n) (j : Nat), (as.getD j 0).natAbs < 2 ^ n := fun {n as} h j => by
      by_cases hj : j < as.length
      · rw [List.getD_eq_getElem?_getD, List.getElem?_eq_getElem hj]
        exact h _ (List.getElem_mem hj)
      · rw [List.getD_eq_getElem?_getD, List.getElem?_eq_none (by omega)]
        exact Nat.pow_pos (by decide)
    have ih := cf_bd h1 h2 k i
    have e : (as.getD i 0 * (if i ≤ k then bs.getD (k - i) 0 else 0)).natAbs < 2 ^ (n + m) := by
      rw [Int.natAbs_mul]
      refine lt_mul (g h1 i) ?_
      split
      · exact g h2 _
      · exact Nat.pow_pos (by decide)
    rw [cf, Nat.add_mul]
    omega
/-- a trimmed row of whole numbers over a bottom -/
theorem trim_div {ns ms : List Int} {B : Int} (hB : B ≠ 0) (h : IsTrim ns ms) : ms.map (fun x => Rat.divInt x B) = trimQ (ns.map fun x => Rat.divInt x B) := by
  obtain ⟨k, k1, rfl, k2, k3⟩ := h
  have g : ∀ j, j < ns.length → (ns.map fun x => Rat.divInt x B).getD j 0 = Rat.divInt (ns.getD j 0) B := fun j hj => by
    rw [List.getD_eq_getElem?_getD, List.getElem?_map, List.getD_eq_getElem?_getD, List.getElem?_eq_getElem hj]
    rfl
  have nz : ∀ x : Int, x ≠ 0 → Rat.divInt x B ≠ 0 := fun x hx z => by
    have z2 : Rat.divInt x B = Rat.divInt 0 B := by rw [z, Rat.zero_divInt]
    have := (Rat.divInt_eq_divInt_iff hB hB).mp z2
    rw [Int.zero_mul] at this
    rcases Int.mul_eq_zero.mp this with q | q
    · exact hx q
    · exact hB q
  have fin := trimQ_take _ (ns.map fun x => Rat.divInt x B) k rfl (by rw [List.length_map]; exact k1) (fun j h1 h2 => by
    rw [List.length_map] at h2
    rw [g j h2, k2 j h1 h2, Rat.zero_divInt]) (by
    rcases k3 with z | z
    · exact .inl z
    · by_cases k0 : k = 0
      · exact .inl k0
      · rw [g (k - 1) (by omega)]
        exact .inr (nz _ z))
  rw [fin, List.map_take]
end Num

set_option linter.all false
namespace Num
/-! rows by their places -/
theorem co_app_zero (l : List Rat) (k : Nat) : (l ++ [0]).getD k 0 = l.getD k 0 := by
  rw [List.getD_eq_getElem?_getD, List.getD_eq_getElem?_getD]
  by_cases h : k < l.length
  · rw [List.getElem?_append_left h]
  · rw [List.getElem?_append_right (by omega), List.getElem?_eq_none (l := l) (by omega)]
    cases hk : k - l.length with
    | zero => rfl
    | succ n => rfl
theorem co_trim (l : List Rat) (k : Nat) : (trimQ l).getD k 0 = l.getD k 0 := by
  generalize hn : l.length = n
  induction n generalizing l with
  | zero =>
    have : l = [] := List.length_eq_zero_iff.mp hn
    subst this
    rfl
  | succ n ih =>
    have hne : l ≠ [] := fun z => by rw [z] at hn; cases hn
    obtain ⟨l', x, rfl⟩ : ∃ l' x, l = l' ++ [x] := ⟨l.dropLast, l.getLast hne, (List.dropLast_concat_getLast hne).symm⟩
    by_cases x0 : x = 0
    · subst x0
      rw [trimQ_zero, ih l' (by simpa using hn), co_app_zero]
    · rw [trimQ_last _ x0]
theorem last_get {l : List Rat} (h : LastNZ l) (hl : 0 < l.length) : l.getD (l.length - 1) 0 ≠ 0 := by
  refine h _ ?_
  rw [List.getLast?_eq_getElem?, List.getElem?_eq_getElem (by omega), List.getD_eq_getElem?_getD, List.getElem?_eq_getElem (by omega)]
  rfl
theorem ext_co {a b : List Rat} (ha : LastNZ a) (hb : LastNZ b) (h : ∀ k, a.getD k 0 = b.getD k 0) : a = b := by
  have le : ∀ {a b : List Rat}, LastNZ b → (∀ k, a.getD k 0 = b.getD k 0) → b.length ≤ a.length := fun {a b} hb h => by
    rcases Nat.lt_or_ge a.length b.length with z | z
    · exact absurd ((h _).symm.trans (outQ (by omega))) (last_get hb (by omega))
    · exact z
  have e : a.length = b.length := Nat.le_antisymm (le ha fun k => (h k).symm) (le hb h)
  apply List.ext_getElem?
  intro k
  by_cases hk : k < a.length
  · have := h k
    rw [List.getD_eq_getElem?_getD, List.getD_eq_getElem?_getD, List.getElem?_eq_getElem hk, List.getElem?_eq_getElem (show k < b.length by omega)] at this
    rw [List.getElem?_eq_getElem hk, List.getElem?_eq_getElem (show k < b.length by omega)]
    exact congrArg some this
  · rw [List.getElem?_eq_none (by omega), List.getElem?_eq_none (by omega)]
theorem tabQ_co {n : Nat} {f : Nat → Rat} (k : Nat) : (tabQ n f).getD k 0 = if k < n then f k else 0 := by
  by_cases h : k < n
  · rw [if_pos h, List.getD_eq_getElem?_getD, tabQ_at h]
    rfl
  · rw [if_neg h]
    exact outQ (by rw [tabQ_len]; omega)
theorem co_add (a b : List Rat) (k : Nat) : (addQ a b).getD k 0 = a.getD k 0 + b.getD k 0 := by
  unfold addQ
  rw [tabQ_co]
  by_cases h : k < max a.length b.length
  · rw [if_pos h]
  · rw [if_neg h, outQ (rs := a) (by omega), outQ (rs := b) (by omega), Rat.add_zero]
def smQ (f : Nat → Rat) : Nat → Rat
  | 0 => 0
  | n + 1 => smQ f n + f n
theorem smQ_ext {f g : Nat → Rat} : ∀ n, (∀ i, i < n → f i = g i) → smQ f n = smQ g n
  | 0, _ => rfl
  | n + 1, h => by rw [smQ, smQ, smQ_ext n fun i hi => h i (by omega), h n (by omega)]
theorem smQ_zero {f : Nat → Rat} {m : Nat} : ∀ n, m ≤ n → (∀ i, m ≤ i → i < n → f i = 0) → smQ f n = smQ f m
  | 0, h, _ => by
    have : m = 0 := by omega
    rw [this]
  | n + 1, h, z => by
    by_cases e : m = n + 1
    · rw [e]
    · rw [smQ, smQ_zero n (by omega) (fun i h1 h2 => z i h1 (by omega)), z n (by omega) (by omega), Rat.add_zero]
def cvQ (f g : Nat → Rat) (k : Nat) : Rat := smQ (fun i => f i * g (k - i)) (k + 1)
theorem cfQ_sm (as bs : List Rat) (k : Nat) : ∀ n, cfQ as bs n k = smQ (fun i => as.getD i 0 * (if i ≤ k then bs.getD (k - i) 0 else 0)) n
  | 0 => rfl
  | n + 1 => by rw [cfQ, cfQ_sm as bs k n, smQ]
theorem cfQ_cv (as bs : List Rat) (k : Nat) : cfQ as bs as.length k = cvQ (fun i => as.getD i 0) (fun i => bs.getD i 0) k := by
  rw [cfQ_sm]
  unfold cvQ
  rcases Nat.le_total as.length (k + 1) with h | h
  · rw [← smQ_zero (k + 1) h fun i h1 _ => by rw [outQ h1, Rat.zero_mul]]
    exact smQ_ext _ fun i hi => by rw [if_pos (by omega)]
  · rw [smQ_zero as.length h fun i h1 _ => by rw [if_neg (by omega), Rat.mul_zero]]
    exact smQ_ext _ fun i hi => by rw [if_pos (by omega)]
theorem co_mul (a b : List Rat) (k : Nat) : (mulQ a b).getD k 0 = cvQ (fun i => a.getD i 0) (fun i => b.getD i 0) k := by
  unfold mulQ
  rw [tabQ_co]
  by_cases h : k < a.length + b.length - 1
  · rw [if_pos h, cfQ_cv]
  · rw [if_neg h]
    unfold cvQ
    rw [smQ_zero (m := 0) (k + 1) (Nat.zero_le _) fun i _ hi => ?_]
    · rfl
    · show a.getD i 0 * b.getD (k - i) 0 = 0
      by_cases hi2 : i < a.length
      · rw [outQ (rs := b) (by omega), Rat.mul_zero]
      · rw [outQ (rs := a) (by omega), Rat.zero_mul]
/-! products by places, of whole numbers -/
theorem sm_mul (c : Int) (f : Nat → Int) : ∀ n, sm (fun i => c * f i) n = c * sm f n
  | 0 => by rw [sm, sm, Int.mul_zero]
  | n + 1 => by rw [sm, sm, sm_mul c f n, Int.mul_add]
theorem sm_add (f g : Nat → Int) : ∀ n, sm (fun i => f i + g i) n = sm f n + sm g n
  | 0 => rfl
  | n + 1 => by rw [sm, sm, sm, sm_add f g n]; omega
theorem sm_one (p : Nat) (v : Nat → Int) : ∀ n, sm (fun i => if i = p then v i else 0) n = if p < n then v p else 0
  | 0 => by rw [sm, if_neg (by omega)]
  | n + 1 => by
    rw [sm, sm_one p v n]
    by_cases h : p < n
    · rw [if_pos h, if_neg (by omega), if_pos (by omega)]; omega
    · rw [if_neg h]
      by_cases e : n = p
      · subst e
        rw [if_pos rfl, if_pos (by omega)]; omega
      · rw [if_neg e, if_neg (by omega)]; omega
def cvI (f g : Nat → Int) (k : Nat) : Int := sm (fun i => f i * g (k - i)) (k + 1)
theorem cv_step (c h : Int) (Q O : Nat → Int) (p k : Nat) : cvI (fun i => c * Q i + if i = p then h else 0) O k = c * cvI Q O k + if p ≤ k then h * O (k - p) else 0 := by
  unfold cvI
  rw [sm_ext (g := fun i => c * (Q i * O (k - i)) + if i = p then h * O (k - i) else 0) (k + 1) fun i _ => ?_, sm_add, sm_mul, sm_one p fun i => h * O (k - i)]
  · by_cases hp : p ≤ k
    · rw [if_pos hp, if_pos (show p < k + 1 by omega)]
    · rw [if_neg hp, if_neg (show ¬ p < k + 1 by omega)]
  · split
    · grind
    · grind
theorem cv_zero (O : Nat → Int) (k : Nat) : cvI (fun _ => 0) O k = 0 := by
  unfold cvI
  rw [sm_ext (g := fun i => 0 * 0) (k + 1) fun i _ => by rw [Int.zero_mul, Int.zero_mul], sm_mul, Int.zero_mul]
theorem cvQ_int {f g : Nat → Rat} {F G : Nat → Int} {A C : Rat} (hf : ∀ i, f i * A = F i) (hg : ∀ i, g i * C = G i) (k : Nat) : cvQ f g k * (A * C) = ((cvI F G k : Int) : Rat) := by
  unfold cvQ cvI
  have : ∀ n, smQ (fun i => f i * g (k - i)) n * (A * C) = ((sm (fun i => F i * G (k - i)) n : Int) : Rat) := fun n => by
    induction n with
    | zero =>
      show 0 * (A * C) = ((0 : Int) : Rat)
      grind
    | succ n ih =>
      rw [smQ, sm, Rat.intCast_add, Rat.intCast_mul, ← ih, ← hf n, ← hg (k - n)]
      grind
  exact this _
/-! division with a rest: what stays from turn to turn -/
def DivI (ns ms : List Int) (l : Int) (s : Nat) (Q : Nat → Int) (R : List Int) : Prop := ∀ k, l ^ s * ns.getD k 0 = cvI Q (fun i => ms.getD i 0) k + R.getD k 0
theorem DivI.start (ns ms : List Int) (l : Int) : DivI ns ms l 0 (fun _ => 0) ns := fun k => by
  rw [cv_zero, Int.pow_zero]
  omega
theorem outI {ns : List Int} {k : Nat} (h : ns.length ≤ k) : ns.getD k 0 = 0 := by
  rw [List.getD_eq_getElem?_getD, List.getElem?_eq_none h]
  rfl
theorem DivI.step {ns ms : List Int} {l : Int} {s p : Nat} {Q : Nat → Int} {R R' : List Int} (h : DivI ns ms l s Q R) (hm : 0 < ms.length) (hl : l = ms.getD (ms.length - 1) 0) (hR : R.length = p + ms.length) (hR' : R'.length = p + ms.length - 1)
    (hs : ∀ k, k < p + ms.length - 1 → R'.getD k 0 = l * R.getD k 0 - if p ≤ k then R.getD (p + ms.length - 1) 0 * ms.getD (k - p) 0 else 0) :
    DivI ns ms l (s + 1) (fun i => l * Q i + if i = p then R.getD (p + ms.length - 1) 0 else 0) R' := fun k => by
  rw [cv_step, Int.pow_succ]
  have e := h k
  have e2 : l ^ s * l * ns.getD k 0 = l * cvI Q (fun i => ms.getD i 0) k + l * R.getD k 0 := by
    rw [← Int.mul_add, ← e]
    grind
  rw [e2]
  by_cases h1 : k < p + ms.length - 1
  · rw [hs k h1]
    omega
  · by_cases h2 : k = p + ms.length - 1
    · subst h2
      rw [outI (ns := R') (by omega), if_pos (by omega), show p + ms.length - 1 - p = ms.length - 1 by omega, ← hl]
      grind
    · rw [outI (ns := R) (k := k) (by omega), outI (ns := R') (by omega)]
      split
      · rw [outI (ns := ms) (by omega)]
        grind
      · grind
/-- from whole numbers to fractions -/
theorem rows_out {ns ms R : List Int} {Qs : List Int} {rs os qs ts : List Rat} {B C S : Int} (hB : B ≠ 0) (hC : C ≠ 0) (hS : S ≠ 0) (h1 : ∀ i, rs.getD i 0 * B = ns.getD i 0) (h2 : ∀ i, os.getD i 0 * C = ms.getD i 0)
    (h3 : ∀ i, qs.getD i 0 * ((B * S : Int) : Rat) = ((Qs.getD i 0 * C : Int) : Rat)) (h4 : ∀ i, ts.getD i 0 * ((B * S : Int) : Rat) = R.getD i 0) (h : ∀ k, S * ns.getD k 0 = cvI (fun i => Qs.getD i 0) (fun i => ms.getD i 0) k + R.getD k 0) (k : Nat) :
    rs.getD k 0 = cvQ (fun i => qs.getD i 0) (fun i => os.getD i 0) k + ts.getD k 0 := by
  have c := cvQ_int (F := fun i => Qs.getD i 0 * C) (G := fun i => ms.getD i 0) h3 h2 k
  have e : cvI (fun i => Qs.getD i 0 * C) (fun i => ms.getD i 0) k = C * cvI (fun i => Qs.getD i 0) (fun i => ms.getD i 0) k := by
    unfold cvI
    rw [← sm_mul]
    exact sm_ext _ fun i _ => by grind
  rw [e, Rat.intCast_mul, Rat.intCast_mul] at c
  have hk : (S : Rat) * (ns.getD k 0 : Int) = (cvI (fun i => Qs.getD i 0) (fun i => ms.getD i 0) k : Int) + (R.getD k 0 : Int) := by
    rw [← Rat.intCast_mul, ← Rat.intCast_add, h k]
  have t := h4 k
  rw [Rat.intCast_mul] at t
  have zB := int_ne hB
  have zC := int_ne hC
  have zS := int_ne hS
  have r := h1 k
  generalize cvQ (fun i => qs.getD i 0) (fun i => os.getD i 0) k = x at *
  generalize ((cvI (fun i => Qs.getD i 0) (fun i => ms.getD i 0) k : Int) : Rat) = y at *
  generalize rs.getD k 0 = a at *
  generalize ts.getD k 0 = b at *
  generalize ((ns.getD k 0 : Int) : Rat) = n at *
  generalize ((R.getD k 0 : Int) : Rat) = u at *
  generalize (B : Rat) = B' at *
  generalize (C : Rat) = C' at *
  generalize (S : Rat) = S' at *
  have c' : x * (B' * S') = y := by
    have : (x * (B' * S') - y) * C' = 0 := by grind
    rcases Rat.mul_eq_zero.mp this with z | z
    · grind
    · exact absurd z zC
  have z : (a - (x + b)) * (B' * S') = 0 := by grind
  rcases Rat.mul_eq_zero.mp z with z | z
  · grind
  · rcases Rat.mul_eq_zero.mp z with z | z
    · exact absurd z zB
    · exact absurd z zS
/-! bounds by a common bottom -/
def Cd (D : Int) (n : Nat) (x : Rat) : Prop := ∃ z : Int, x * D = z ∧ z.natAbs < 2 ^ n
theorem Cd.zero (D : Int) (n : Nat) : Cd D n 0 := ⟨0, by show (0 : Rat) * D = ((0 : Int) : Rat); grind, Nat.pow_pos (by decide)⟩
theorem Cd.up {D : Int} {n m : Nat} {x : Rat} (h : Cd D n x) (hm : n ≤ m) : Cd D m x := by
  obtain ⟨z, h1, h2⟩ := h
  exact ⟨z, h1, Nat.lt_of_lt_of_le h2 (Nat.pow_le_pow_right (by decide) hm)⟩
theorem Cd.dvd {D : Int} {n : Nat} {x : Rat} (h : Cd D n x) : (x.den : Int) ∣ D ∧ (x.num * (D / x.den)).natAbs < 2 ^ n := by
  obtain ⟨z, h1, h2⟩ := h
  have e : x.num * D = z * x.den := by
    have e := num_den x
    have : ((x.num * D : Int) : Rat) = ((z * x.den : Int) : Rat) := by
      rw [Rat.intCast_mul, Rat.intCast_mul, ← e, ← h1]
      grind
    exact Rat.intCast_inj.mp this
  have d : (x.den : Int) ∣ D := by
    have c : Nat.Coprime x.den x.num.natAbs := Nat.Coprime.symm x.reduced
    have hn : x.den ∣ x.num.natAbs * D.natAbs := ⟨z.natAbs, by
      have := congrArg Int.natAbs e
      rw [Int.natAbs_mul, Int.natAbs_mul, Int.natAbs_natCast] at this
      rw [this, Nat.mul_comm]⟩
    have := c.dvd_of_dvd_mul_left hn
    rw [← Int.natAbs_natCast x.den] at this
    exact Int.natAbs_dvd_natAbs.mp this
  refine ⟨d, ?_⟩
  have : ((x.num * (D / x.den) : Int) : Rat) = (z : Rat) := by rw [clear_one d, h1]
  rw [Rat.intCast_inj.mp this]
  exact h2
theorem Cd.of {D : Int} {n : Nat} {x : Rat} (d : (x.den : Int) ∣ D) (h : (x.num * (D / x.den)).natAbs < 2 ^ n) : Cd D n x := ⟨_, (clear_one d).symm, h⟩
theorem Cd.eq {D : Int} {n : Nat} {x : Rat} (hD : D ≠ 0) (h : Cd D n x) : ∃ z : Int, x = Rat.divInt z D ∧ z.natAbs < 2 ^ n := by
  obtain ⟨z, h1, h2⟩ := h
  refine ⟨z, ?_, h2⟩
  rw [Rat.divInt_eq_div, ← h1]
  have := int_ne hD
  grind
theorem Cd.bd {D : Int} {n : Nat} {x : Rat} (hD : D ≠ 0) (h : Cd D n x) (hn : D.natAbs < 2 ^ n) : Bd n x := by
  obtain ⟨z, rfl, h2⟩ := h.eq hD
  have := frac_bd z D hD
  exact ⟨by omega, by omega⟩
theorem Cd.mul {D1 D2 : Int} {n m : Nat} {x y : Rat} (h1 : Cd D1 n x) (h2 : Cd D2 m y) : Cd (D1 * D2) (n + m) (x * y) := by
  obtain ⟨z, a1, a2⟩ := h1
  obtain ⟨w, b1, b2⟩ := h2
  refine ⟨z * w, by rw [Rat.intCast_mul, Rat.intCast_mul, ← a1, ← b1]; grind, ?_⟩
  rw [Int.natAbs_mul]
  exact lt_mul a2 b2
theorem Cd.get {D : Int} {n : Nat} {rs : List Rat} (h : ∀ x ∈ rs, Cd D n x) (k : Nat) : Cd D n (rs.getD k 0) := by
  by_cases hk : k < rs.length
  · rw [List.getD_eq_getElem?_getD, List.getElem?_eq_getElem hk]
    exact h _ (List.getElem_mem hk)
  · rw [outQ (by omega)]
    exact Cd.zero _ _
theorem cfQ_cd {D1 D2 : Int} {n m : Nat} {rs ss : List Rat} (h1 : ∀ x ∈ rs, Cd D1 n x) (h2 : ∀ x ∈ ss, Cd D2 m x) (k : Nat) : ∀ i, ∃ z : Int, cfQ rs ss i k * ((D1 * D2 : Int) : Rat) = z ∧ z.natAbs ≤ i * 2 ^ (n + m)
  | 0 => ⟨0, by show (0 : Rat) * _ = ((0 : Int) : Rat); grind, by simp⟩
  | i + 1 => by
    obtain ⟨z, a1, a2⟩ := cfQ_cd h1 h2 k i
    have hc : Cd D2 m (if i ≤ k then ss.getD (k - i) 0 else 0) := by
      split
      · exact Cd.get h2 _
      · exact Cd.zero _ _
    obtain ⟨w, b1, b2⟩ := (Cd.get h1 i).mul hc
    refine ⟨z + w, ?_, ?_⟩
    · rw [cfQ, Rat.intCast_add, ← a1, ← b1]
      grind
    · rw [Nat.add_mul]
      omega
theorem cfpQ_cd {D1 D2 : Int} {n m : Nat} {rs ss : List Rat} (h1 : ∀ x ∈ rs, Cd D1 n x) (h2 : ∀ x ∈ ss, Cd D2 m x) (i j k : Nat) (hi : i < 31) : Cd (D1 * D2) (n + m + 5) (cfpQ rs ss i j k) := by
  obtain ⟨z, a1, a2⟩ := cfQ_cd h1 h2 k i
  have hc : Cd (D1 * D2) (n + m) (if i ≤ k ∧ k < i + j then rs.getD i 0 * ss.getD (k - i) 0 else 0) := by
    split
    · exact (Cd.get h1 i).mul (Cd.get h2 _)
    · exact Cd.zero _ _
  obtain ⟨w, b1, b2⟩ := hc
  unfold cfpQ
  refine ⟨z + w, ?_, ?_⟩
  · rw [Rat.intCast_add, ← a1, ← b1]
    grind
  · have e : 2 ^ (n + m + 5) = 32 * 2 ^ (n + m) := by rw [Nat.pow_add]; omega
    have : i * 2 ^ (n + m) ≤ 30 * 2 ^ (n + m) := Nat.mul_le_mul_right _ (by omega)
    omega
theorem mulQ_cd {D1 D2 : Int} {n m : Nat} {rs ss : List Rat} (h1 : ∀ x ∈ rs, Cd D1 n x) (h2 : ∀ x ∈ ss, Cd D2 m x) (hl : rs.length < 31) : ∀ x ∈ mulQ rs ss, Cd (D1 * D2) (n + m + 5) x := fun x hx => by
  obtain ⟨k, _, rfl⟩ := tabQ_mem hx
  obtain ⟨z, a1, a2⟩ := cfQ_cd h1 h2 k rs.length
  refine ⟨z, a1, ?_⟩
  have e : 2 ^ (n + m + 5) = 32 * 2 ^ (n + m) := by rw [Nat.pow_add]; omega
  have : rs.length * 2 ^ (n + m) ≤ 30 * 2 ^ (n + m) := Nat.mul_le_mul_right _ (by omega)
  have : 0 < 2 ^ (n + m) := Nat.pow_pos (by decide)
  omega
/-- the product of the bottoms -/
def dens : List Rat → Int
  | [] => 1
  | r :: rs => r.den * dens rs
theorem dens_pos : ∀ rs : List Rat, 0 < dens rs
  | [] => by decide
  | r :: rs => Int.mul_pos (dpos r) (dens_pos rs)
theorem dens_bd {n : Nat} : ∀ rs : List Rat, (∀ x ∈ rs, Bd n x) → (dens rs).natAbs < 2 ^ (n * rs.length + 1)
  | [], _ => by show 1 < 2 ^ (n * 0 + 1); rw [Nat.mul_zero]; decide
  | r :: rs, h => by
    have ih := dens_bd rs fun y hy => h y (List.mem_cons_of_mem _ hy)
    have hr := (h r (List.mem_cons_self ..)).2
    show ((r.den : Int) * dens rs).natAbs < _
    rw [Int.natAbs_mul, Int.natAbs_natCast, List.length_cons, Nat.mul_add, Nat.mul_one, show n * rs.length + n + 1 = n + (n * rs.length + 1) by omega]
    exact lt_mul hr ih
theorem dens_dvd : ∀ (rs : List Rat), ∀ x ∈ rs, (x.den : Int) ∣ dens rs
  | r :: rs, x, hx => by
    rcases List.mem_cons.mp hx with rfl | h
    · exact ⟨dens rs, rfl⟩
    · exact Int.dvd_trans (dens_dvd rs x h) ⟨r.den, Int.mul_comm _ _⟩
theorem dens_cd {n : Nat} {rs : List Rat} (h : ∀ x ∈ rs, Bd n x) : ∀ x ∈ rs, Cd (dens rs) (n * (rs.length + 1) + 1) x := fun x hx => by
  refine Cd.of (dens_dvd rs x hx) ?_
  rw [Int.natAbs_mul, show n * (rs.length + 1) + 1 = n + (n * rs.length + 1) by rw [Nat.mul_add]; omega]
  refine lt_mul (h x hx).1 (Nat.lt_of_le_of_lt ?_ (dens_bd rs h))
  have p := dens_pos rs
  have h1 := Int.ediv_le_self (x.den : Int) (Int.le_of_lt p)
  have h2 := Int.ediv_nonneg (Int.le_of_lt p) (Int.le_of_lt (dpos x))
  omega
end Num

set_option linter.all false
namespace Num
theorem cop_dvdI {a b c : Int} (h : Int.gcd a b = 1) (hd : a ∣ b * c) : a ∣ c := by
  have hn : a.natAbs ∣ b.natAbs * c.natAbs := by rw [← Int.natAbs_mul]; exact Int.natAbs_dvd_natAbs.mpr hd
  exact Int.natAbs_dvd_natAbs.mp (Nat.Coprime.dvd_of_dvd_mul_left (show Nat.Coprime a.natAbs b.natAbs from h) hn)
theorem lcm_dvdI {B d D : Int} (hd : d ≠ 0) (h1 : B ∣ D) (h2 : d ∣ D) : B / (Int.gcd B d : Nat) * d ∣ D := by
  obtain ⟨x, y, hx, hy, hxy, hg⟩ := gcd_out B d hd
  rw [show B / ((Int.gcd B d : Nat) : Int) = x from Num.div_out hx hg]
  obtain ⟨u, hu⟩ := h1
  obtain ⟨v, hv⟩ := h2
  generalize ((Int.gcd B d : Nat) : Int) = g at *
  have e : x * u = y * v := by
    have : g * (x * u) = g * (y * v) := by
      rw [← Int.mul_assoc, ← Int.mul_assoc, ← hx, ← hy, ← hu, ← hv]
    exact Int.eq_of_mul_eq_mul_left (by omega) this
  obtain ⟨w, hw⟩ : y ∣ u := cop_dvdI (by rw [Int.gcd_comm]; exact hxy) ⟨v, e⟩
  refine ⟨w, ?_⟩
  rw [hu, hx, hw, hy]
  grind
theorem trim_co {ns ms : List Int} (h : IsTrim ns ms) (k : Nat) : ms.getD k 0 = ns.getD k 0 := by
  obtain ⟨j, j1, rfl, j2, _⟩ := h
  by_cases hk : k < j
  · rw [List.getD_eq_getElem?_getD, List.getElem?_take_of_lt hk, ← List.getD_eq_getElem?_getD]
  · rw [outI (by rw [List.length_take]; omega)]
    by_cases hk2 : k < ns.length
    · exact (j2 k (by omega) hk2).symm
    · exact (outI (by omega)).symm
theorem trim_len {ns ms : List Int} (h : IsTrim ns ms) : ms.length ≤ ns.length := by
  obtain ⟨j, j1, rfl, _⟩ := h
  rw [List.length_take]
  omega
theorem map_co (f : Int → Rat) (h0 : f 0 = 0) (ns : List Int) (k : Nat) : (ns.map f).getD k 0 = f (ns.getD k 0) := by
  rw [List.getD_eq_getElem?_getD, List.getElem?_map, List.getD_eq_getElem?_getD]
  cases ns[k]? with
  | none => exact h0.symm
  | some z => rfl
theorem map_coI (f : Int → Int) (h0 : f 0 = 0) (ns : List Int) (k : Nat) : (ns.map f).getD k 0 = f (ns.getD k 0) := by
  rw [List.getD_eq_getElem?_getD, List.getElem?_map, List.getD_eq_getElem?_getD]
  cases ns[k]? with
  | none => exact h0.symm
  | some z => rfl
theorem divInt_mul {z D : Int} (hD : D ≠ 0) : Rat.divInt z D * D = z := by
  rw [Rat.divInt_eq_div]
  have := int_ne hD
  grind
theorem pow_le {l : Int} {M i : Nat} (h : l.natAbs < 2 ^ M) : (l ^ i).natAbs ≤ 2 ^ (M * i) := by
  rw [Int.natAbs_pow, Nat.pow_mul]
  exact Nat.pow_le_pow_left (Nat.le_of_lt h) _
theorem lt_mulL {x y n m : Nat} (h1 : x < 2 ^ n) (h2 : y ≤ 2 ^ m) : x * y < 2 ^ (n + m) := by
  rw [Nat.pow_add]
  exact Nat.lt_of_le_of_lt (Nat.mul_le_mul_left _ h2) (Nat.mul_lt_mul_of_pos_right h1 (Nat.pow_pos (by decide)))
end Num
namespace L2
open PySem
theorem down_size {r : Nat} : Builtin.Range.rangeSize ((r : Int) - 1) (-1) (-1) = (r : Int) := by
  unfold Builtin.Range.rangeSize
  rw [if_neg (by decide)]
  split
  · show ((r : Int) - 1 - -1 - 1) / 1 + 1 = _
    omega
  · omega
theorem down_small {r : Nat} (h : r ≤ 1000) : Builtin.Range.small ((r : Int) - 1) (-1) (-1) = true := by
  unfold Builtin.Range.small
  rw [down_size]
  have f : ∀ x : Int, -2000 ≤ x → x ≤ 2000 → Builtin.Range.rangeFitsLong x = true := fun x h1 h2 => by
    unfold Builtin.Range.rangeFitsLong
    simp
    omega
  rw [f _ (by omega) (by omega), f _ (by omega) (by omega), f _ (by omega) (by omega), if_neg (by decide), f (-1 + (-1 + 1)) (by decide) (by decide)]
  simp
end L2

set_option linter.all false
namespace Num
theorem cvQ_one {f g : Nat → Rat} (h : ∀ i, 1 ≤ i → f i = 0) (k : Nat) : cvQ f g k = f 0 * g k := by
  unfold cvQ
  rw [smQ_zero (m := 1) (k + 1) (by omega) fun i h1 _ => by rw [h i h1, Rat.zero_mul]]
  show 0 + f 0 * g (k - 0) = _
  rw [Nat.sub_zero, Rat.zero_add]
theorem div_self_rows {b q r : List Rat} (hb : LastNZ b) (hb0 : 0 < b.length) (hq : LastNZ q) (hr : LastNZ r) (lq : q.length ≤ 1) (lr : r.length < b.length) (h : ∀ k, b.getD k 0 = cvQ (fun i => q.getD i 0) (fun i => b.getD i 0) k + r.getD k 0) : q = [1] ∧ r = [] := by
  have e : ∀ k, b.getD k 0 = q.getD 0 0 * b.getD k 0 + r.getD k 0 := fun k => by
    have := h k
    rw [cvQ_one fun i hi => outQ (by omega)] at this
    exact this
  have nz := last_get hb hb0
  have e1 := e (b.length - 1)
  rw [outQ (rs := r) (by omega), Rat.add_zero] at e1
  have q0 : q.getD 0 0 = 1 := by
    generalize b.getD (b.length - 1) 0 = x at *
    generalize q.getD 0 0 = y at *
    have : x * (y - 1) = 0 := by grind
    rcases Rat.mul_eq_zero.mp this with z | z
    · exact absurd z nz
    · grind
  have one : LastNZ [1] := fun x hx => by
    cases hx
    decide
  refine ⟨ext_co hq one fun k => ?_, ext_co hr (fun x hx => by cases hx) fun k => ?_⟩
  · cases k with
    | zero => exact q0
    | succ k => exact outQ (by omega)
  · have := e k
    rw [q0] at this
    show r.getD k 0 = 0
    grind
/-- the law's own reckoning, told back -/
theorem back_rows {a b q r : List Rat} (ha : LastNZ a) (h : ∀ k, a.getD k 0 = cvQ (fun i => q.getD i 0) (fun i => b.getD i 0) k + r.getD k 0) : trimQ (addQ (trimQ (mulQ q b)) r) = a :=
  ext_co (trimQ_lastNZ _) ha fun k => by rw [co_trim, co_add, co_trim, co_mul, ← h k]
end Num

set_option linter.all false
namespace Num
/-! division of rows by a prime -/
def DivM (p : Int) (ns ms : List Int) (Q : Nat → Int) (R : List Int) : Prop := ∀ k, p ∣ ns.getD k 0 - (cvI Q (fun i => ms.getD i 0) k + R.getD k 0)
theorem DivM.start (p : Int) (ns ms : List Int) : DivM p ns ms (fun _ => 0) ns := fun k => by
  rw [cv_zero, Int.zero_add, Int.sub_self]
  exact Int.dvd_zero _
theorem cv_add (h : Int) (Q O : Nat → Int) (p k : Nat) : cvI (fun i => Q i + if i = p then h else 0) O k = cvI Q O k + if p ≤ k then h * O (k - p) else 0 := by
  have := cv_step 1 h Q O p k
  rw [Int.one_mul] at this
  rw [← this]
  congr 1
  funext i
  rw [Int.one_mul]
theorem dvd_sum {p a b : Int} (h1 : p ∣ a) (h2 : p ∣ b) {c : Int} (h : c = a + b) : p ∣ c := by
  rw [h]
  exact Int.dvd_add h1 h2
theorem DivM.step {p : Int} {ns ms : List Int} {l : Int} {pl : Nat} {Q : Nat → Int} {R R' : List Int} {h : Int} (d : DivM p ns ms Q R) (hm : 0 < ms.length) (hl : l = ms.getD (ms.length - 1) 0) (hR : R.length = pl + ms.length) (hR' : R'.length = pl + ms.length - 1) (hh : p ∣ h * l - R.getD (pl + ms.length - 1) 0)
    (hs : ∀ k, k < pl + ms.length - 1 → p ∣ R'.getD k 0 - (R.getD k 0 - if pl ≤ k then h * ms.getD (k - pl) 0 else 0)) :
    DivM p ns ms (fun i => Q i + if i = pl then h else 0) R' := fun k => by
  rw [cv_add]
  have e := d k
  generalize ns.getD k 0 = n at *
  generalize cvI Q (fun i => ms.getD i 0) k = c at *
  by_cases h1 : k < pl + ms.length - 1
  · have := hs k h1
    generalize R'.getD k 0 = r' at *
    generalize R.getD k 0 = r at *
    show p ∣ n - (c + (if pl ≤ k then h * ms.getD (k - pl) 0 else 0) + r')
    generalize (if pl ≤ k then h * ms.getD (k - pl) 0 else 0) = x at *
    exact dvd_sum e (Int.dvd_neg.mpr this) (by omega)
  · by_cases h2 : k = pl + ms.length - 1
    · rw [← h2] at hh
      rw [outI (ns := R') (by omega), if_pos (by omega)]
      show p ∣ n - (c + h * ms.getD (k - pl) 0 + 0)
      rw [show k - pl = ms.length - 1 by omega, ← hl]
      generalize R.getD k 0 = r at *
      exact dvd_sum e (Int.dvd_neg.mpr hh) (by omega)
    · rw [outI (ns := R) (k := k) (by omega)] at e
      rw [outI (ns := R') (by omega)]
      have z : (if pl ≤ k then h * (fun i => ms.getD i 0) (k - pl) else 0) = 0 := by
        split
        · show h * ms.getD (k - pl) 0 = 0
          rw [outI (by omega), Int.mul_zero]
        · rfl
      rw [z]
      rw [show n - (c + 0 + 0) = n - (c + 0) by omega]
      exact e
theorem ext_coI {a b : List Int} (ha : a = [] ∨ a.getD (a.length - 1) 0 ≠ 0) (hb : b = [] ∨ b.getD (b.length - 1) 0 ≠ 0) (h : ∀ k, a.getD k 0 = b.getD k 0) : a = b := by
  have le : ∀ {a b : List Int}, (b = [] ∨ b.getD (b.length - 1) 0 ≠ 0) → (∀ k, a.getD k 0 = b.getD k 0) → b.length ≤ a.length := fun {a b} hb h => by
    rcases hb with rfl | hb
    · exact Nat.zero_le _
    · rcases Nat.lt_or_ge a.length b.length with z | z
      · exact absurd ((h _).symm.trans (outI (by omega))) hb
      · exact z
  have e : a.length = b.length := Nat.le_antisymm (le ha fun k => (h k).symm) (le hb h)
  apply List.ext_getElem?
  intro k
  by_cases hk : k < a.length
  · have := h k
    rw [List.getD_eq_getElem?_getD, List.getD_eq_getElem?_getD, List.getElem?_eq_getElem hk, List.getElem?_eq_getElem (show k < b.length by omega)] at this
    rw [List.getElem?_eq_getElem hk, List.getElem?_eq_getElem (show k < b.length by omega)]
    exact congrArg some this
  · rw [List.getElem?_eq_none (by omega), List.getElem?_eq_none (by omega)]
/-- in the stretch from 0 to p two numbers alike by p are alike -/
theorem mod_eq {p x y : Int} (hx : 0 ≤ x ∧ x < p) (hy : 0 ≤ y ∧ y < p) (h : p ∣ x - y) : x = y := by
  have e1 := Int.emod_eq_of_lt hx.1 hx.2
  have e2 := Int.emod_eq_of_lt hy.1 hy.2
  have := Int.emod_emod_of_dvd (x - y) (Int.dvd_refl p)
  obtain ⟨k, hk⟩ := h
  have e : x = y + p * k := by omega
  rw [← e1, e, Int.add_mul_emod_self_left, e2]
theorem get_mod {p : Int} (hp : 0 < p) {ns : List Int} (h : ∀ x ∈ ns, 0 ≤ x ∧ x < p) (k : Nat) : 0 ≤ ns.getD k 0 ∧ ns.getD k 0 < p := by
  by_cases hk : k < ns.length
  · rw [List.getD_eq_getElem?_getD, List.getElem?_eq_getElem hk]
    exact h _ (List.getElem_mem hk)
  · rw [outI (by omega)]
    exact ⟨by omega, hp⟩
theorem prime_dvd {p x l : Int} (hp : PrimeI p) (hl : 0 < l ∧ l < p) (h : p ∣ x * l) : p ∣ x := by
  have c := prime_coprime hp hl.1 hl.2
  exact cop_dvdI c (by rw [Int.mul_comm] at h; exact h)
theorem sm_sub (f g : Nat → Int) : ∀ n, sm f n - sm g n = sm (fun i => f i - g i) n
  | 0 => rfl
  | n + 1 => by rw [sm, sm, sm, ← sm_sub f g n]; omega
/-- quotient and rest are the only ones -/
theorem div_unique {p : Int} {ns ms q q' r r' : List Int} (hp : PrimeI p) (hm : 0 < ms.length) (hl : 0 < ms.getD (ms.length - 1) 0 ∧ ms.getD (ms.length - 1) 0 < p) (bq : ∀ x ∈ q, 0 ≤ x ∧ x < p) (bq' : ∀ x ∈ q', 0 ≤ x ∧ x < p) (br : ∀ x ∈ r, 0 ≤ x ∧ x < p) (br' : ∀ x ∈ r', 0 ≤ x ∧ x < p)
    (lr : r.length < ms.length) (lr' : r'.length < ms.length) (nq : q = [] ∨ q.getD (q.length - 1) 0 ≠ 0) (nq' : q' = [] ∨ q'.getD (q'.length - 1) 0 ≠ 0) (nr : r = [] ∨ r.getD (r.length - 1) 0 ≠ 0) (nr' : r' = [] ∨ r'.getD (r'.length - 1) 0 ≠ 0)
    (d : DivM p ns ms (fun i => q.getD i 0) r) (d' : DivM p ns ms (fun i => q'.getD i 0) r') : q = q' ∧ r = r' := by
  have p0 : 0 < p := by have := hp.1; omega
  have all : ∀ n i, max q.length q'.length ≤ i + n → q.getD i 0 = q'.getD i 0 := fun n => by
    induction n with
    | zero => exact fun i hi => by rw [outI (by omega), outI (by omega)]
    | succ n ih =>
      intro i hi
      have hi' : ∀ j, i < j → q.getD j 0 = q'.getD j 0 := fun j hj => ih j (by omega)
      have e1 := d (i + (ms.length - 1))
      have e2 := d' (i + (ms.length - 1))
      rw [outI (ns := r) (by omega)] at e1
      rw [outI (ns := r') (by omega)] at e2
      have e3 : p ∣ cvI (fun i => q.getD i 0) (fun i => ms.getD i 0) (i + (ms.length - 1)) - cvI (fun i => q'.getD i 0) (fun i => ms.getD i 0) (i + (ms.length - 1)) := dvd_sum e2 (Int.dvd_neg.mpr e1) (by omega)
      unfold cvI at e3
      rw [sm_sub, sm_ext (g := fun j => if j = i then (q.getD i 0 - q'.getD i 0) * ms.getD (ms.length - 1) 0 else 0) _ fun j hj => ?_, sm_one i fun _ => (q.getD i 0 - q'.getD i 0) * ms.getD (ms.length - 1) 0, if_pos (by omega)] at e3
      · exact mod_eq (get_mod p0 bq i) (get_mod p0 bq' i) (prime_dvd hp hl e3)
      · show q.getD j 0 * ms.getD (i + (ms.length - 1) - j) 0 - q'.getD j 0 * ms.getD (i + (ms.length - 1) - j) 0 = _
        by_cases hji : j = i
        · rw [if_pos hji, hji, show i + (ms.length - 1) - i = ms.length - 1 by omega]
          grind
        · rw [if_neg hji]
          by_cases hlt : j < i
          · rw [outI (ns := ms) (k := i + (ms.length - 1) - j) (by omega)]
            grind
          · rw [hi' j (by omega)]
            omega
  have eq' : q = q' := ext_coI nq nq' fun k => all (max q.length q'.length) k (by omega)
  refine ⟨eq', ext_coI nr nr' fun k => ?_⟩
  subst eq'
  exact mod_eq (get_mod p0 br k) (get_mod p0 br' k) (dvd_sum (d' k) (Int.dvd_neg.mpr (d k)) (by omega))
end Num

set_option Elab.async false
set_option linter.all false
set_option maxRecDepth 100000
set_option maxHeartbeats 4000000
namespace Toy
open PySem L2 Num
local macro_rules | `(tactic| walk_at "hp") => `(tactic| first
  | assumption
  | exact upd_same
  | exact upd_keep (by walk_at "hp") (by assumption)
  | (rw [upd_ne (by first | assumption | exact Ne.symm (by assumption))]; walk_at "hp")
  | exact Same.get (by assumption) (by walk_at "hp"))
local macro_rules | `(tactic| walk_at "side") => `(tactic| first
  | exact mulOk_small (by omega) (by omega)
  | exact mulOk_smallR (by omega) (by omega)
  | exact cdivP_small (by omega) (by omega)
  | exact cpow_small (by decide) (by decide) (by decide)
  | (show (0 : Int) < _; omega)
  | (with_reducible show _ ≤ sizeLine; exact small_len (by simp only [List.length_cons, List.length_nil]; omega)))
local macro_rules | `(tactic| walk_at "rd1") => `(tactic| first
  | refine ⟨_, rfl, ?_⟩
  | refine ⟨_, _, rfl, rfl, ?_⟩
  | refine ⟨rfl, ?_⟩
  | refine ⟨_, _, rfl, ?_⟩
  | refine ⟨_, _, rfl, SqT.of (by walk_at "hp"), rfl, ?_⟩
  | refine ⟨_, _, _, _, rfl, rfl, SqL.of (by walk_at "hp"), (by assumption), ?_⟩
  | refine ⟨_, _, _, _, rfl, rfl, SqT.of (by walk_at "hp"), (by assumption), ?_⟩
  | (refine ⟨?sidegoal, ?_⟩; (case sidegoal => walk_at "side")))
local macro_rules | `(tactic| walk_at "rd") => `(tactic| repeat walk_at "rd1")

set_option genInjectivity false
set_option genSizeOf false
def top (i : Nat) : Stmt := PySem.Challenge.pw_paperwright_k28_division_by_a_prime.main.body.getD i (.Pass ⟨0, 0, 0, 0⟩)
abbrev s_common : Stmt := top 10
abbrev s_trimmed : Stmt := top 12
abbrev s_inverse : Stmt := top 14
abbrev s_divided_by : Stmt := top 15
abbrev s_rest_divided : Stmt := top 17
abbrev s_things : Stmt := top 19
abbrev s_cell : Stmt := top 20
abbrev s_is_prime : Stmt := top 21
abbrev s_prime : Stmt := top 22
abbrev s_cut : Stmt := top 23
abbrev s_product : Stmt := top 24
abbrev s_whole : Stmt := top 25
abbrev s_by : Stmt := top 26
abbrev s_row : Stmt := top 27
abbrev s_again : Stmt := top 28
abbrev s_asked : Stmt := top 29
abbrev s_refused : Stmt := top 30
abbrev s_right : Stmt := top 31
abbrev s_law : Stmt := top 32
theorem sc_common : FnScope ["one", "other", "u", "next_u", "v", "next_v", "often"] ["one", "other"] (defScope s_common) := ⟨rfl, rfl, rfl, by decide +kernel, rfl, by decide +kernel, by decide +kernel⟩
theorem sc_trimmed : FnScope ["numbers", "length"] ["numbers"] (defScope s_trimmed) := ⟨rfl, rfl, rfl, by decide +kernel, rfl, by decide +kernel, by decide +kernel⟩
theorem sc_inverse : FnScope ["number", "modulus"] ["number", "modulus"] (defScope s_inverse) := ⟨rfl, rfl, rfl, by decide +kernel, rfl, by decide +kernel, by decide +kernel⟩
theorem sc_divided_by : FnScope ["one", "other", "modulus", "room", "by", "rest", "quotient", "place", "head", "further"] ["one", "other", "modulus"] (defScope s_divided_by) := ⟨rfl, rfl, rfl, by decide +kernel, rfl, by decide +kernel, by decide +kernel⟩
theorem sc_rest_divided : FnScope ["one", "other", "prime"] ["one", "other", "prime"] (defScope s_rest_divided) := ⟨rfl, rfl, rfl, by decide +kernel, rfl, by decide +kernel, by decide +kernel⟩
theorem sc_things : FnScope ["_law_cell_here", "_law_many", "_law_one", "_law_other", "_law_found", "_law_k", "_law_number"] ["_law_cell_here", "_law_many"] (defScope s_things) := ⟨rfl, rfl, rfl, by decide +kernel, rfl, by decide +kernel, by decide +kernel⟩
theorem sc_cell : FnScope ["_law_script", "_law_k"] ["_law_script", "_law_k"] (defScope s_cell) := ⟨rfl, rfl, rfl, by decide +kernel, rfl, by decide +kernel, by decide +kernel⟩
theorem sc_is_prime : FnScope ["_law_number", "_law_some"] ["_law_number"] (defScope s_is_prime) := ⟨rfl, rfl, rfl, by decide +kernel, rfl, by decide +kernel, by decide +kernel⟩
theorem sc_prime : FnScope ["_law_x", "_law_number"] ["_law_x"] (defScope s_prime) := ⟨rfl, rfl, rfl, by decide +kernel, rfl, by decide +kernel, by decide +kernel⟩
theorem sc_cut : FnScope ["_law_numbers", "_law_size"] ["_law_numbers"] (defScope s_cut) := ⟨rfl, rfl, rfl, by decide +kernel, rfl, by decide +kernel, by decide +kernel⟩
theorem sc_product : FnScope ["_law_one", "_law_other", "_law_base", "_law_found", "_law_j", "_law_k", "_law_more"] ["_law_one", "_law_other", "_law_base"] (defScope s_product) := ⟨rfl, rfl, rfl, by decide +kernel, rfl, by decide +kernel, by decide +kernel⟩
theorem sc_whole : FnScope ["_law_found"] ["_law_found"] (defScope s_whole) := ⟨rfl, rfl, rfl, by decide +kernel, rfl, by decide +kernel, by decide +kernel⟩
theorem sc_by : FnScope ["_law_found", "_law_prime_here", "_law_number"] ["_law_found", "_law_prime_here"] (defScope s_by) := ⟨rfl, rfl, rfl, by decide +kernel, rfl, by decide +kernel, by decide +kernel⟩
theorem sc_row : FnScope ["_law_xs", "_law_at", "_law_prime_here"] ["_law_xs", "_law_at", "_law_prime_here"] (defScope s_row) := ⟨rfl, rfl, rfl, by decide +kernel, rfl, by decide +kernel, by decide +kernel⟩
theorem sc_again : FnScope ["_law_quotient", "_law_other", "_law_rest", "_law_prime_here", "_law_found", "_law_k"] ["_law_quotient", "_law_other", "_law_rest", "_law_prime_here"] (defScope s_again) := ⟨rfl, rfl, rfl, by decide +kernel, rfl, by decide +kernel, by decide +kernel⟩
theorem sc_asked : FnScope ["_law_one", "_law_other", "_law_prime_here", "_law_found", "_law_caught", "e"] ["_law_one", "_law_other", "_law_prime_here"] (defScope s_asked) := ⟨rfl, rfl, rfl, by decide +kernel, rfl, by decide +kernel, by decide +kernel⟩
theorem sc_refused : FnScope ["_law_caught"] ["_law_caught"] (defScope s_refused) := ⟨rfl, rfl, rfl, by decide +kernel, rfl, by decide +kernel, by decide +kernel⟩
theorem sc_right : FnScope ["_law_one", "_law_other", "_law_prime_here", "_law_handed", "_law_found", "_law_caught", "_law_quotient", "_law_rest", "_law_kept"] ["_law_one", "_law_other", "_law_prime_here"] (defScope s_right) := ⟨rfl, rfl, rfl, by decide +kernel, rfl, by decide +kernel, by decide +kernel⟩
theorem sc_law : FnScope ["_law_script", "_law_prime_here", "_law_cell_here", "_law_xs", "_law_one", "_law_other"] ["_law_script"] (defScope s_law) := ⟨rfl, rfl, rfl, by decide +kernel, rfl, by decide +kernel, by decide +kernel⟩
structure Tx (K : PySem.W.Frag) (mg : Str → Option Value) where
  f_common : Addr
  fd_common : FuncData
  F_common : Fun K "common" "common" s_common f_common fd_common
  m_common : mg "common" = some (.ref f_common)
  b_common : Binds K fd_common ["one", "other"] []
  f_trimmed : Addr
  fd_trimmed : FuncData
  F_trimmed : Fun K "trimmed" "trimmed" s_trimmed f_trimmed fd_trimmed
  m_trimmed : mg "trimmed" = some (.ref f_trimmed)
  b_trimmed : Binds K fd_trimmed ["numbers"] []
  f_inverse : Addr
  fd_inverse : FuncData
  F_inverse : Fun K "inverse" "inverse" s_inverse f_inverse fd_inverse
  m_inverse : mg "inverse" = some (.ref f_inverse)
  b_inverse : Binds K fd_inverse ["number", "modulus"] []
  f_divided_by : Addr
  fd_divided_by : FuncData
  F_divided_by : Fun K "divided_by" "divided_by" s_divided_by f_divided_by fd_divided_by
  m_divided_by : mg "divided_by" = some (.ref f_divided_by)
  b_divided_by : Binds K fd_divided_by ["one", "other", "modulus"] []
  f_rest_divided : Addr
  fd_rest_divided : FuncData
  F_rest_divided : Fun K "rest_divided" "rest_divided" s_rest_divided f_rest_divided fd_rest_divided
  m_rest_divided : mg "rest_divided" = some (.ref f_rest_divided)
  b_rest_divided : Binds K fd_rest_divided ["one", "other", "prime"] []
  f_things : Addr
  fd_things : FuncData
  F_things : Fun K "_law_things" "_law_things" s_things f_things fd_things
  m_things : mg "_law_things" = some (.ref f_things)
  b_things : Binds K fd_things ["_law_cell_here", "_law_many"] []
  f_cell : Addr
  fd_cell : FuncData
  F_cell : Fun K "_law_cell" "_law_cell" s_cell f_cell fd_cell
  m_cell : mg "_law_cell" = some (.ref f_cell)
  b_cell : Binds K fd_cell ["_law_script", "_law_k"] []
  f_is_prime : Addr
  fd_is_prime : FuncData
  F_is_prime : Fun K "_law_is_prime" "_law_is_prime" s_is_prime f_is_prime fd_is_prime
  m_is_prime : mg "_law_is_prime" = some (.ref f_is_prime)
  b_is_prime : Binds K fd_is_prime ["_law_number"] []
  f_prime : Addr
  fd_prime : FuncData
  F_prime : Fun K "_law_prime" "_law_prime" s_prime f_prime fd_prime
  m_prime : mg "_law_prime" = some (.ref f_prime)
  b_prime : Binds K fd_prime ["_law_x"] []
  f_cut : Addr
  fd_cut : FuncData
  F_cut : Fun K "_law_cut" "_law_cut" s_cut f_cut fd_cut
  m_cut : mg "_law_cut" = some (.ref f_cut)
  b_cut : Binds K fd_cut ["_law_numbers"] []
  f_product : Addr
  fd_product : FuncData
  F_product : Fun K "_law_product" "_law_product" s_product f_product fd_product
  m_product : mg "_law_product" = some (.ref f_product)
  b_product : Binds K fd_product ["_law_one", "_law_other", "_law_base"] []
  f_whole : Addr
  fd_whole : FuncData
  F_whole : Fun K "_law_whole" "_law_whole" s_whole f_whole fd_whole
  m_whole : mg "_law_whole" = some (.ref f_whole)
  b_whole : Binds K fd_whole ["_law_found"] []
  f_by : Addr
  fd_by : FuncData
  F_by : Fun K "_law_by" "_law_by" s_by f_by fd_by
  m_by : mg "_law_by" = some (.ref f_by)
  b_by : Binds K fd_by ["_law_found", "_law_prime_here"] []
  f_row : Addr
  fd_row : FuncData
  F_row : Fun K "_law_row" "_law_row" s_row f_row fd_row
  m_row : mg "_law_row" = some (.ref f_row)
  b_row : Binds K fd_row ["_law_xs", "_law_at", "_law_prime_here"] []
  f_again : Addr
  fd_again : FuncData
  F_again : Fun K "_law_again" "_law_again" s_again f_again fd_again
  m_again : mg "_law_again" = some (.ref f_again)
  b_again : Binds K fd_again ["_law_quotient", "_law_other", "_law_rest", "_law_prime_here"] []
  f_asked : Addr
  fd_asked : FuncData
  F_asked : Fun K "_law_asked" "_law_asked" s_asked f_asked fd_asked
  m_asked : mg "_law_asked" = some (.ref f_asked)
  b_asked : Binds K fd_asked ["_law_one", "_law_other", "_law_prime_here"] []
  f_refused : Addr
  fd_refused : FuncData
  F_refused : Fun K "_law_refused" "_law_refused" s_refused f_refused fd_refused
  m_refused : mg "_law_refused" = some (.ref f_refused)
  b_refused : Binds K fd_refused ["_law_caught"] []
  f_right : Addr
  fd_right : FuncData
  F_right : Fun K "_law_right" "_law_right" s_right f_right fd_right
  m_right : mg "_law_right" = some (.ref f_right)
  b_right : Binds K fd_right ["_law_one", "_law_other", "_law_prime_here"] []
  f_law : Addr
  fd_law : FuncData
  F_law : Fun K "law" "law" s_law f_law fd_law
  m_law : mg "law" = some (.ref f_law)
  b_law : Binds K fd_law ["_law_script"] []
  z_ValueError : mg "ValueError" = none
  z_bool : mg "bool" = none
  z_int : mg "int" = none
  z_isinstance : mg "isinstance" = none
  z_len : mg "len" = none
  z_list : mg "list" = none
  z_max : mg "max" = none
  z_range : mg "range" = none
  z_tuple : mg "tuple" = none
  k_ib : PySem.W.kitOne K (.type "int") (.type "bool") = some false
  C_HouseError : Addr
  c_HouseError : mg "HouseError" = some (.ref C_HouseError)
  e_HouseError : Err K C_HouseError
  C_NoNumber : Addr
  c_NoNumber : mg "NoNumber" = some (.ref C_NoNumber)
  e_NoNumber : Err K C_NoNumber
  C_NoRow : Addr
  c_NoRow : mg "NoRow" = some (.ref C_NoRow)
  C_NoValue : Addr
  c_NoValue : mg "NoValue" = some (.ref C_NoValue)
  C_NoText : Addr
  c_NoText : mg "NoText" = some (.ref C_NoText)
  C_NoRoot : Addr
  c_NoRoot : mg "NoRoot" = some (.ref C_NoRoot)
  C_TooFar : Addr
  c_TooFar : mg "TooFar" = some (.ref C_TooFar)
  C_NoLine : Addr
  c_NoLine : mg "NoLine" = some (.ref C_NoLine)
  k_NoNumber_NoNumber : PySem.W.kitOne K (.ref C_NoNumber) (.ref C_NoNumber) = some true
  k_NoNumber_NoRow : PySem.W.kitOne K (.ref C_NoNumber) (.ref C_NoRow) = some false
  k_NoNumber_NoValue : PySem.W.kitOne K (.ref C_NoNumber) (.ref C_NoValue) = some false
  k_NoNumber_NoText : PySem.W.kitOne K (.ref C_NoNumber) (.ref C_NoText) = some false
  k_NoNumber_NoRoot : PySem.W.kitOne K (.ref C_NoNumber) (.ref C_NoRoot) = some false
  k_NoNumber_TooFar : PySem.W.kitOne K (.ref C_NoNumber) (.ref C_TooFar) = some false
  k_NoNumber_NoLine : PySem.W.kitOne K (.ref C_NoNumber) (.ref C_NoLine) = some false
  k_NoNumber_ValueError : PySem.W.kitOne K (.ref C_NoNumber) (.type "ValueError") = some true
  u_NoNumber_HouseError : PySem.W.mroIn K C_NoNumber (.ref C_HouseError) = some true
set_option genInjectivity true
section
variable {P : Program} {w : World} {K : PySem.W.Frag} {mg : Str → Option Value} {base : Heap}
theorem take_cut (ns : List Int) (k : Nat) (h : k ≤ ns.length) : cutV (ns.map V.int) none (some (k : Int)) = (ns.take k).map V.int := by
  unfold cutV
  have e1 : HT.sIx (ns.map V.int).length 0 none = 0 := rfl
  have e2 : HT.sIx (ns.map V.int).length (ns.map V.int).length (some (k : Int)) = k := by
    unfold HT.sIx
    rw [List.length_map]
    simp
    rw [if_neg (by omega)]
    omega
  rw [e1, e2, List.drop_zero, Nat.sub_zero, List.map_take]
def spTrim (K : PySem.W.Frag) : Sp := fun vs H Q _ => ∃ (a : Addr) (ns : List Int), vs = [.ref a] ∧ SqL K H a (ns.map V.int) ∧ ns.length ≤ 1000 ∧ ∀ (p : Addr) (ms : List Int) (H' : Hp), Same H H' → H p = none → H' p = some (.lst (ms.map V.int)) → IsTrim ns ms → Q (.ref p) H'
theorem ok_trimmed (T : Tx K mg) : FnOk P w K mg base CX0 1 T.f_trimmed T.fd_trimmed ["numbers"] (spTrim K) := by
  refine T.F_trimmed.ok sc_trimmed (fun vs H Q E h => ?_) (fun cdv A outer s H vs Q E hr h => ?_)
  · obtain ⟨a, ns, rfl, _⟩ := h
    rfl
  obtain ⟨a, ns, rfl, hS, hl, q⟩ := h
  refine ⟨_, (@pss_cons _ _ _ _ _ (ps_set (i := 1) sc_trimmed.nd rfl (by first | exact Or.inl rfl | exact Or.inr rfl) (pe_callB call_len_seq (by rfl) T.z_len PySem.boot_len (pa_cons (pv 0) pa_nil)))
      (@pss_cons _ _ _ _ _ (ps_while PassesOwn.never (PW.pt (pw_and (pt_cmpR op_gt (pv 1) pe_int (nomark _)) (pw_and1 (pt_cmpR op_eq (pe_ix ix_list (pv 0) (pe_op op_sub (pv 1) pe_int) (fun _ _ => rfl)) pe_int (nomark _))))) (pss_one (ps_set (i := 1) sc_trimmed.nd rfl (by first | exact Or.inl rfl | exact Or.inr rfl) (pe_op op_sub (pv 1) pe_int))))
      (pss_one (ps_ret (pe_slice sl_list (pv 0) po_none (po_some (pv 1))))))), ?_⟩
  refine ⟨_, rfl, a, _, rfl, .inl hS, ?_⟩
  rw [List.length_map]
  refine ⟨fun m σ H' => ∃ k : Nat, (k ≤ ns.length ∧ m = k ∧ ∀ j, k ≤ j → j < ns.length → ns.getD j 0 = 0) ∧ H' = H ∧ σ = [some (.ref a), some (.int k)], ⟨_, ns.length, ⟨Nat.le_refl _, rfl, fun j h1 h2 => by omega⟩, rfl, rfl⟩, ?_⟩
  rintro k σ H' ⟨_, ⟨k1, rfl, kz⟩, rfl, rfl⟩
  have fin : (k = 0 ∨ ns.getD (k - 1) 0 ≠ 0) → tRet (tSl (rSlL (cxOf CX0 P w K mg base ["numbers", "length"] "trimmed" (defScope s_trimmed) T.f_trimmed cdv A outer s H' E).nox.K) (tVar 0) tNoPart (tPart (tVar 1))) { nx := fun x H' => Q V.non H', rt := Q } [some (.ref a), some (.int k)] H' := fun hk => by
    refine ⟨_, rfl, _, rfl, _, rfl, a, _, rfl, hS, fun p hp => ?_⟩
    rw [take_cut ns k k1]
    exact q p _ _ (same_new hp _) hp upd_same ⟨k, k1, rfl, kz, hk⟩
  walk_at "rd"
  refine itd (fun h => ?_) (fun h => ?_)
  · have a1 : atI (ns.map V.int) ((k : Int) - 1) = some (.int (ns.getD ((k : Int) - 1).toNat 0)) := at_ints (by omega) (by omega)
    have e1 : ((k : Int) - 1).toNat = k - 1 := by omega
    rw [e1] at a1
    refine ⟨_, rfl, _, rfl, _, _, rfl, rfl, a, _, _, _, rfl, rfl, hS, a1, rfl, _, rfl, ?_⟩
    refine itd (fun h2 => ?_) (fun h2 => ?_)
    · have hz : ns.getD (k - 1) 0 = 0 := V.int.inj h2
      refine ⟨fun σ' H2 => ∃ m', m' < k ∧ ∃ k : Nat, (k ≤ ns.length ∧ m' = k ∧ ∀ j, k ≤ j → j < ns.length → ns.getD j 0 = 0) ∧ H2 = H' ∧ σ' = [some (.ref a), some (.int k)], fun _ _ z => z, ?_⟩
      walk_at "rd"
      have e : (k : Int) - 1 = ((k - 1 : Nat) : Int) := by omega
      refine ⟨k - 1, by omega, k - 1, ⟨by omega, rfl, fun j h1 h2 => ?_⟩, rfl, ?_⟩
      · by_cases hj : j = k - 1
        · rw [hj]; exact hz
        · exact kz j (by omega) h2
      · show [some (V.ref a), some (V.int ((k : Int) - 1))] = _
        rw [e]
    · exact fin (.inr fun z => h2 (congrArg V.int z))
  · exact fin (.inl (by omega))
theorem ok_cut (T : Tx K mg) : FnOk P w K mg base CX0 1 T.f_cut T.fd_cut ["_law_numbers"] (spTrim K) := by
  refine T.F_cut.ok sc_cut (fun vs H Q E h => ?_) (fun cdv A outer s H vs Q E hr h => ?_)
  · obtain ⟨a, ns, rfl, _⟩ := h
    rfl
  obtain ⟨a, ns, rfl, hS, hl, q⟩ := h
  refine ⟨_, (@pss_cons _ _ _ _ _ (ps_set (i := 1) sc_cut.nd rfl (by first | exact Or.inl rfl | exact Or.inr rfl) (pe_callB call_len_seq (by rfl) T.z_len PySem.boot_len (pa_cons (pv 0) pa_nil)))
      (@pss_cons _ _ _ _ _ (ps_while PassesOwn.never (PW.pt (pw_and (pt_cmpR op_gt (pv 1) pe_int (nomark _)) (pw_and1 (pt_cmpR op_eq (pe_ix ix_list (pv 0) (pe_op op_sub (pv 1) pe_int) (fun _ _ => rfl)) pe_int (nomark _))))) (pss_one (ps_set (i := 1) sc_cut.nd rfl (by first | exact Or.inl rfl | exact Or.inr rfl) (pe_op op_sub (pv 1) pe_int))))
      (pss_one (ps_ret (pe_callTy call_list_of (by rfl) T.z_list (by rfl) (pa_cons (pe_slice sl_list (pv 0) po_none (po_some (pv 1))) pa_nil)))))), ?_⟩
  refine ⟨_, rfl, a, _, rfl, .inl hS, ?_⟩
  rw [List.length_map]
  refine ⟨fun m σ H' => ∃ k : Nat, (k ≤ ns.length ∧ m = k ∧ ∀ j, k ≤ j → j < ns.length → ns.getD j 0 = 0) ∧ H' = H ∧ σ = [some (.ref a), some (.int k)], ⟨_, ns.length, ⟨Nat.le_refl _, rfl, fun j h1 h2 => by omega⟩, rfl, rfl⟩, ?_⟩
  rintro k σ H' ⟨_, ⟨k1, rfl, kz⟩, rfl, rfl⟩
  have fin : ∀ (D : Ends), D.rt = Q → (k = 0 ∨ ns.getD (k - 1) 0 ≠ 0) → ∀ p, H' p = none → ∀ p2, upd H' p (.lst ((ns.take k).map V.int)) p2 = none → D.rt (.ref p2) (upd (upd H' p (.lst ((ns.take k).map V.int))) p2 (.lst ((ns.take k).map V.int))) := fun D hD hk p hp p2 hp2 => by
    rw [hD]
    exact q p2 _ _ ((same_new hp _).trans (same_new hp2 _)) ((same_new hp _).free hp2) upd_same ⟨k, k1, rfl, kz, hk⟩
  walk_at "rd"
  refine itd (fun h => ?_) (fun h => ?_)
  · have a1 : atI (ns.map V.int) ((k : Int) - 1) = some (.int (ns.getD ((k : Int) - 1).toNat 0)) := at_ints (by omega) (by omega)
    have e1 : ((k : Int) - 1).toNat = k - 1 := by omega
    rw [e1] at a1
    refine ⟨_, rfl, _, rfl, _, _, rfl, rfl, a, _, _, _, rfl, rfl, hS, a1, rfl, _, rfl, ?_⟩
    refine itd (fun h2 => ?_) (fun h2 => ?_)
    · have hz : ns.getD (k - 1) 0 = 0 := V.int.inj h2
      refine ⟨fun σ' H2 => ∃ m', m' < k ∧ ∃ k : Nat, (k ≤ ns.length ∧ m' = k ∧ ∀ j, k ≤ j → j < ns.length → ns.getD j 0 = 0) ∧ H2 = H' ∧ σ' = [some (.ref a), some (.int k)], fun _ _ z => z, ?_⟩
      walk_at "rd"
      have e : (k : Int) - 1 = ((k - 1 : Nat) : Int) := by omega
      refine ⟨k - 1, by omega, k - 1, ⟨by omega, rfl, fun j h1 h2 => ?_⟩, rfl, ?_⟩
      · by_cases hj : j = k - 1
        · rw [hj]; exact hz
        · exact kz j (by omega) h2
      · show [some (V.ref a), some (V.int ((k : Int) - 1))] = _
        rw [e]
    · refine ⟨_, rfl, _, rfl, _, rfl, a, _, rfl, hS, fun p hp => ?_⟩
      rw [take_cut ns k k1] at *
      refine ⟨p, _, rfl, .inl (SqL.of upd_same), fun p2 hp2 => ?_⟩
      exact fin { nx := fun x H' => Q V.non H', rt := Q } rfl (.inr fun z => h2 (congrArg V.int z)) p hp p2 hp2
  · refine ⟨_, rfl, _, rfl, _, rfl, a, _, rfl, hS, fun p hp => ?_⟩
    rw [take_cut ns k k1] at *
    refine ⟨p, _, rfl, .inl (SqL.of upd_same), fun p2 hp2 => ?_⟩
    exact fin { nx := fun x H' => Q V.non H', rt := Q } rfl (.inl (by omega)) p hp p2 hp2
end

section
variable {P : Program} {w : World} {K : PySem.W.Frag} {mg : Str → Option Value} {base : Heap}
/-! the product: told by places -/
def tab (n : Nat) (f : Nat → Int) : List Int := (List.range n).map f
theorem tab_len (n : Nat) (f : Nat → Int) : (tab n f).length = n := by unfold tab; simp
theorem tab_get {n : Nat} {f : Nat → Int} {k : Nat} (h : k < n) : (tab n f).getD k 0 = f k := by
  unfold tab
  rw [List.getD_eq_getElem?_getD, List.getElem?_map, List.getElem?_range h]
  rfl
theorem tab_set {n : Nat} {f g : Nat → Int} {k : Nat} (h : k < n) (hg : ∀ j, j < n → j ≠ k → g j = f j) : ((tab n f).map V.int).set k (.int (g k)) = (tab n g).map V.int := by
  apply List.ext_getElem?
  intro j
  rw [List.getElem?_set]
  unfold tab
  by_cases hj : k = j
  · subst hj
    rw [if_pos rfl, if_pos (by simpa using h)]
    simp [h]
  · rw [if_neg hj]
    by_cases hj2 : j < n
    · simp [hj2, hg j hj2 (fun z => hj z.symm)]
    · simp [hj2]
theorem tab_ext {n : Nat} {f g : Nat → Int} (h : ∀ j, j < n → f j = g j) : tab n f = tab n g := by
  unfold tab
  exact List.map_congr_left fun j hj => h j (List.mem_range.mp hj)
theorem rep_tab (n : Nat) : (List.replicate n [V.int 0]).flatten = (tab n fun _ => 0).map V.int := by
  unfold tab
  induction n with
  | zero => rfl
  | succ n ih => rw [List.replicate_succ, List.flatten_cons, ih, List.range_succ_eq_map]; simp
end

section
variable {P : Program} {w : World} {K : PySem.W.Frag} {mg : Str → Option Value} {base : Heap}
def spDrawn : Sp := fun vs H Q _ => ∃ (c m : Int), vs = [.int c, .int m] ∧ 0 ≤ m ∧ m ≤ 1000 ∧ ∀ (p : Addr) (ns : List Int) (H' : Hp), Same H H' → H p = none → H' p = some (.lst (ns.map V.int)) → (ns.length : Int) = m → (∀ n ∈ ns, 0 ≤ n ∧ n < 1000000007) → Q (.ref p) H'
theorem ok_things (T : Tx K mg) : FnOk P w K mg base CX0 1 T.f_things T.fd_things ["_law_cell_here", "_law_many"] spDrawn := by
  refine T.F_things.ok sc_things (fun vs H Q E h => ?_) (fun cdv A outer s H vs Q E hr h => ?_)
  · obtain ⟨c, m, rfl, _⟩ := h
    rfl
  obtain ⟨c, m, rfl, m0, m1, q⟩ := h
  refine ⟨_, (@pss_cons _ _ _ _ _ (ps_set (i := 2) sc_things.nd rfl (by first | exact Or.inl rfl | exact Or.inr rfl) (pe_op op_add (pe_op op_mod (pv 0) pe_int) pe_int))
      (@pss_cons _ _ _ _ _ (ps_set (i := 3) sc_things.nd rfl (by first | exact Or.inl rfl | exact Or.inr rfl) (pe_op op_add (pe_op op_mod (pe_op op_fdivP (pv 0) pe_int) pe_int) pe_int))
      (@pss_cons _ _ _ _ _ (ps_set (i := 4) sc_things.nd rfl (by first | exact Or.inl rfl | exact Or.inr rfl) (pe_lst pa_nil))
      (@pss_cons _ _ _ _ _ (ps_for PassesOwn.never rfl (pi_range1 rfl T.z_range (pa_cons (pv 1) pa_nil)) (pg_name (i := 5) sc_things.nd rfl (by first | exact Or.inl rfl | exact Or.inr rfl)) (@pss_cons _ _ _ _ _ (ps_set (i := 2) sc_things.nd rfl (by first | exact Or.inl rfl | exact Or.inr rfl) (pe_op op_mod (pe_op op_add (pe_op op_add (pe_op op_mulG (pv 2) (pv 3)) (pe_op op_mulG pe_int (pv 5))) pe_int) pe_int))
      (@pss_cons _ _ _ _ _ (ps_set (i := 3) sc_things.nd rfl (by first | exact Or.inl rfl | exact Or.inr rfl) (pe_op op_mod (pe_op op_add (pe_op op_add (pe_op op_mulG (pv 3) pe_int) (pv 2)) (pv 5)) pe_int))
      (@pss_cons _ _ _ _ _ (ps_set (i := 6) sc_things.nd rfl (by first | exact Or.inl rfl | exact Or.inr rfl) (pe_op op_mod (pe_op op_add (pe_op op_mulG pe_int (pv 2)) (pv 3)) pe_int))
      (pss_cut (ps_if (pt_cmpR op_ge (pv 0) (pe_powc (v := 1000000000000000000) (by decide) (cpow_small (by decide) (by decide) (by decide))) (nomark _)) (@pss_cons _ _ _ _ _ (ps_set (i := 6) sc_things.nd rfl (by first | exact Or.inl rfl | exact Or.inr rfl) (pe_op op_mod (pv 0) (pe_powc (v := 1000000000) (by decide) (cpow_small (by decide) (by decide) (by decide)))))
      (pss_one (ps_set (i := 0) sc_things.nd rfl (by first | exact Or.inl rfl | exact Or.inr rfl) (pe_op op_fdivP (pv 0) (pe_powc (v := 1000000000) (by decide) (cpow_small (by decide) (by decide) (by decide))))))) pss_nil)
      (pss_one (ps_expr (pe_bm PySem.F.plainAttrs_list PySem.F.slot_list_append PySem.F.type_list_append mt_append (pv 4) (pa_cons (pv 6) pa_nil)))))))))
      (pss_one (ps_ret (pv 4))))))), ?_⟩
  walk_at "rd"
  intro p hp
  refine ⟨_, rfl, m, rfl, by omega, by omega, for_range (n := m.toNat) (fun i σ H2 => ∃ (c o t : Int) (ns : List Int) (v6 v7 : Option V), (0 ≤ o ∧ o < 999999940 ∧ 0 ≤ t ∧ t < 2147483400 ∧ ns.length = i ∧ (∀ n ∈ ns, 0 ≤ n ∧ n < 1000000007)) ∧ Same H H2 ∧ H2 p = some (.lst (ns.map V.int)) ∧
    σ = [some (.int c), some (.int m), some (.int o), some (.int t), some (.ref p), v6, v7]) ?_ ?_ ?_⟩
  · refine ⟨c, _, _, [], none, none, ⟨?_, ?_, ?_, ?_, rfl, by simp⟩, same_new hp _, upd_same, rfl⟩
    all_goals omega
  · rintro i σ H2 hi ⟨c, o, t, ns, v6, v7, ⟨o0, o1, t0, t1, hl, hb⟩, sm, hH, rfl⟩
    walk_at "rd"
    refine ⟨fun σ' H' => ∃ (c n : Int) (o t k : Int), (0 ≤ n ∧ n < 1000000007 ∧ 0 ≤ o ∧ o < 999999940 ∧ 0 ≤ t ∧ t < 2147483400) ∧ σ' = [some (.int c), some (.int m), some (.int o), some (.int t), some (.ref p), some (.int k), some (.int n)] ∧ H' = H2, ?_, ?_⟩
    · walk_at "rd"
      refine itd (fun h => ?_) (fun h => ?_)
      · walk_at "rd"
        refine ⟨_, _, _, _, _, ⟨?_, ?_, ?_, ?_, ?_, ?_⟩, rfl, rfl⟩
        all_goals omega
      · refine ⟨_, _, _, _, _, ⟨?_, ?_, ?_, ?_, ?_, ?_⟩, rfl, rfl⟩
        all_goals omega
    · rintro σ' H3 ⟨c, n, o, t, k, ⟨n0, n1, o0, o1, t0, t1⟩, rfl, rfl⟩
      refine ⟨_, rfl, .inl ⟨rfl, _, SqL.of hH⟩, _, rfl, p, _, _, rfl, rfl, hH, ?_, ?_⟩
      · rw [List.length_map]
        exact small1000 (by omega)
      · refine ⟨c, o, t, ns ++ [n], _, _, ⟨o0, o1, t0, t1, by simp [hl], ?_⟩, same_upd sm hp _, by rw [upd_same, List.map_append]; rfl, rfl⟩
        intro x hx
        rcases List.mem_append.mp hx with h | h
        · exact hb x h
        · rw [List.mem_singleton] at h
          subst h
          exact ⟨n0, n1⟩
  · rintro σ H2 ⟨c, o, t, ns, v6, v7, ⟨o0, o1, t0, t1, hl, hb⟩, sm, hH, rfl⟩
    walk_at "rd"
    exact q p ns H2 sm hp hH (by omega) hb
def spCell (K : PySem.W.Frag) : Sp := fun vs H Q _ => ∃ (a : Addr) (ns : List Int) (p : Int), vs = [.ref a, .int p] ∧ SqL K H a (ns.map V.int) ∧ 0 ≤ p ∧ ∀ (z : Int), Q (.int z) H
theorem ok_cell (T : Tx K mg) : FnOk P w K mg base CX0 1 T.f_cell T.fd_cell ["_law_script", "_law_k"] (spCell K) := by
  refine T.F_cell.ok sc_cell (fun vs H Q E h => ?_) (fun cdv A outer s H vs Q E hr h => ?_)
  · obtain ⟨a, ns, p, rfl, _⟩ := h
    rfl
  obtain ⟨a, ns, p, rfl, hS, hp, q⟩ := h
  refine ⟨_, (@pss_cons _ _ _ _ _ (ps_if (pt_cmpR op_lt (pv 1) (pe_callB call_len_seq (by rfl) T.z_len PySem.boot_len (pa_cons (pv 0) pa_nil)) (nomark _)) (pss_one (ps_ret (pe_ix ix_list (pv 0) (pv 1) (fun _ _ => rfl)))) pss_nil)
      (pss_one (ps_ret pe_int))), ?_⟩
  refine ⟨_, rfl, _, rfl, a, _, rfl, .inl hS, _, _, rfl, rfl, _, rfl, ?_⟩
  refine itd (fun h => ?_) (fun h => ?_)
  · rw [List.length_map] at h
    exact ⟨_, rfl, _, rfl, a, _, _, _, rfl, rfl, hS, at_ints hp h, q _⟩
  · exact q _
theorem sqb {d e : Int} (h : 0 ≤ d) (h2 : d ≤ e) : d * d ≤ e * e := Int.mul_le_mul h2 h2 h (by omega)
def spIsPrime : Sp := fun vs H Q _ => ∃ n : Int, vs = [.int n] ∧ n ≤ 10000 ∧ ∀ b : Bool, (b = true ↔ PrimeI n) → Q (.bl b) H
theorem ok_is_prime (T : Tx K mg) : FnOk P w K mg base CX0 1 T.f_is_prime T.fd_is_prime ["_law_number"] spIsPrime := by
  refine T.F_is_prime.ok sc_is_prime (fun vs H Q E h => ?_) (fun cdv A outer s H vs Q E hr h => ?_)
  · obtain ⟨n, rfl, _⟩ := h
    rfl
  obtain ⟨n, rfl, n1, q⟩ := h
  refine ⟨_, (@pss_cons _ _ _ _ _ (ps_set (i := 1) sc_is_prime.nd rfl (by first | exact Or.inl rfl | exact Or.inr rfl) pe_int)
      (@pss_cons _ _ _ _ _ (ps_while PassesOwn.never (pt_cmpR op_le (pe_op op_mulG (pv 1) (pv 1)) (pv 0) (nomark _)) (@pss_cons _ _ _ _ _ (ps_if (pt_cmpR op_eq (pe_op op_mod (pv 0) (pv 1)) pe_int (nomark _)) (pss_one (ps_ret pe_bl)) pss_nil)
      (pss_one (ps_set (i := 1) sc_is_prime.nd rfl (by first | exact Or.inl rfl | exact Or.inr rfl) (pe_op op_add (pv 1) pe_int)))))
      (pss_one (ps_ret (pe_cmpR op_gt (pv 0) pe_int (nomark _)))))), ?_⟩
  refine ⟨fun m σ H' => ∃ d : Int, (2 ≤ d ∧ d ≤ 101 ∧ m = (200 - d).toNat ∧ ∀ e, 2 ≤ e → e < d → e * e ≤ n → n % e ≠ 0) ∧ σ = [some (.int n), some (.int d)] ∧ H' = H, ⟨_, 2, ⟨by omega, by omega, rfl, fun e h1 h2 => by omega⟩, rfl, rfl⟩, ?_⟩
  rintro m σ H' ⟨d, ⟨d2, d1, rfl, hd⟩, rfl, rfl⟩
  walk_at "rd"
  refine itd (fun h => ?_) (fun h => ?_)
  · have hd1 : d ≤ 100 := by
      rcases Int.lt_or_le 100 d with z | z
      · have := sqb (d := 101) (e := d) (by omega) (by omega)
        omega
      · exact z
    refine ⟨fun σ' H2 => ∃ m', m' < (200 - d).toNat ∧ ∃ d : Int, (2 ≤ d ∧ d ≤ 101 ∧ m' = (200 - d).toNat ∧ ∀ e, 2 ≤ e → e < d → e * e ≤ n → n % e ≠ 0) ∧ σ' = [some (.int n), some (.int d)] ∧ H2 = H', fun _ _ z => z, ?_⟩
    walk_at "rd"
    refine itd (fun h2 => ?_) (fun h2 => ?_)
    · have h3 : n % d = 0 := V.int.inj h2
      exact q false ⟨fun z => (by cases z), fun z => absurd h3 (z.2 d d2 h)⟩
    · have h3 : n % d ≠ 0 := fun z => h2 (congrArg V.int z)
      walk_at "rd"
      refine ⟨(200 - (d + 1)).toNat, by omega, d + 1, ⟨by omega, by omega, rfl, fun e h1 h2 h4 => ?_⟩, rfl, rfl⟩
      rcases Int.lt_or_le e d with z | z
      · exact hd e h1 z h4
      · have : e = d := by omega
        subst this
        exact h3
  · walk_at "rd"
    refine q _ ?_
    rw [decide_eq_true_iff]
    constructor
    · intro hn
      refine ⟨by omega, fun e e2 e3 => ?_⟩
      rcases Int.lt_or_le e d with z | z
      · exact hd e e2 z e3
      · have := sqb (d := d) (e := e) (by omega) z
        omega
    · intro hp
      have := hp.1
      omega
theorem list_tab (ns : List Int) : ns = tab ns.length (fun k => ns.getD k 0) := by
  apply List.ext_getElem?
  intro j
  unfold tab
  by_cases h : j < ns.length
  · rw [List.getElem?_map, List.getElem?_range h]
    simp [h]
  · rw [List.getElem?_eq_none (by omega), List.getElem?_eq_none (by simp; omega)]
theorem getD_out {ns : List Int} {k : Nat} (h : ns.length ≤ k) : ns.getD k 0 = 0 := by
  rw [List.getD_eq_getElem?_getD, List.getElem?_eq_none h]
  rfl
theorem getD_bd {ns : List Int} {m : Int} (hm : 0 < m) (h : ∀ x ∈ ns, 0 ≤ x ∧ x < m) (k : Nat) : 0 ≤ ns.getD k 0 ∧ ns.getD k 0 < m := by
  by_cases hk : k < ns.length
  · exact getD_mem h hk
  · rw [getD_out (by omega)]
    omega
theorem get_eq {ns : List Int} {i : Nat} {z : Int} (hy : (ns.map V.int)[i]? = some (V.int z)) : ns.getD i 0 = z := by
  rw [List.getElem?_map] at hy
  rw [List.getD_eq_getElem?_getD]
  cases e : ns[i]? with
  | none => rw [e] at hy; cases hy
  | some z' => rw [e] at hy; exact V.int.inj (Option.some.inj hy)
theorem prime_small {p : Int} (h : p = 2 ∨ p = 3 ∨ p = 5 ∨ p = 7 ∨ p = 11 ∨ p = 13 ∨ p = 17 ∨ p = 19) : PrimeI p := by
  refine ⟨by omega, fun d h1 h2 => ?_⟩
  have hd : d ≤ 4 := by
    rcases Int.lt_or_le 4 d with z | z
    · have := sqb (d := 5) (e := d) (by omega) (by omega)
      omega
    · exact z
  have : d = 2 ∨ d = 3 ∨ d = 4 := by omega
  rcases this with rfl | rfl | rfl <;> omega
def spPrime : Sp := fun vs H Q _ => ∃ x : Int, vs = [.int x] ∧ 0 ≤ x ∧ ∀ (p : Int) (H' : Hp), PrimeI p → p ≤ 9973 → Same H H' → Q (.int p) H'
theorem ok_prime (T : Tx K mg) : FnOk P w K mg base CX0 2 T.f_prime T.fd_prime ["_law_x"] spPrime := by
  refine T.F_prime.ok sc_prime (fun vs H Q E h => ?_) (fun cdv A outer s H vs Q E hr h => ?_)
  · obtain ⟨x, rfl, _⟩ := h
    rfl
  obtain ⟨x, rfl, x0, q⟩ := h
  refine ⟨_, (@pss_cons _ _ _ _ _ (ps_if (pt_cmpR op_gt (pe_op op_mod (pv 0) pe_int) pe_int (nomark _)) (pss_one (ps_ret (pe_ix ix_list (pe_lst (pa_cons pe_int (pa_cons pe_int (pa_cons pe_int (pa_cons pe_int (pa_cons pe_int (pa_cons pe_int (pa_cons pe_int (pa_cons pe_int pa_nil))))))))) (pe_op op_mod (pe_op op_fdivP (pv 0) pe_int) pe_int) (fun _ _ => rfl)))) pss_nil)
      (@pss_cons _ _ _ _ _ (ps_set (i := 1) sc_prime.nd rfl (by first | exact Or.inl rfl | exact Or.inr rfl) (pe_op op_add pe_int (pe_op op_mod (pe_op op_fdivP (pv 0) pe_int) pe_int)))
      (@pss_cons _ _ _ _ _ (ps_while PassesOwn.never (pt_not (pt_val (pe_call (ok_is_prime T) (hr.mono (by omega)) rfl T.m_is_prime T.F_is_prime.kp T.b_is_prime .nil pass0 (pa_cons (pv 1) pa_nil)))) (pss_one (ps_set (i := 1) sc_prime.nd rfl (by first | exact Or.inl rfl | exact Or.inr rfl) (pe_op op_sub (pv 1) pe_int))))
      (pss_one (ps_ret (pv 1)))))), ?_⟩
  walk_at "rd"
  refine itd (fun h => ?_) (fun h => ?_)
  · have k1 := at_ints (ns := [2, 3, 5, 7, 11, 13, 17, 19]) (j := x / 3 % 8) (by omega) (by show _ < (8 : Int); omega)
    have k2 := getD_mem (P := fun p => PrimeI p ∧ p ≤ 9973) (ns := [2, 3, 5, 7, 11, 13, 17, 19]) (k := (x / 3 % 8).toNat) (by
      intro n hn
      simp only [List.mem_cons, List.not_mem_nil, or_false] at hn
      exact ⟨prime_small hn, by omega⟩) (by show _ < 8; omega)
    generalize List.getD _ _ _ = pr at k1 k2
    walk_at "rd"
    intro pl hpl
    walk_at "rd"
    exact q _ _ k2.1 k2.2 (same_new hpl _)
  walk_at "rd"
  refine ⟨fun m σ H' => ∃ n : Int, (2 ≤ n ∧ n ≤ 9973 ∧ m = n.toNat) ∧ H' = H ∧ σ = [some (.int x), some (.int n)], ⟨_, 2 + x / 3 % 9972, ⟨by omega, by omega, rfl⟩, rfl, rfl⟩, ?_⟩
  rintro m σ H' ⟨n, ⟨n2, n1, rfl⟩, rfl, rfl⟩
  walk_at "rd"
  refine ⟨by omega, fun b hb => ?_⟩
  refine ⟨_, rfl, ?_⟩
  refine itb (fun h => ?_) (fun h => ?_)
  · have hbf : b = false := by simpa using h
    have n3 : n ≠ 2 := fun z => by
      have := hb.mpr (by rw [z]; exact prime_small (.inl rfl))
      rw [hbf] at this
      cases this
    refine ⟨fun σ' H2 => ∃ m', m' < n.toNat ∧ ∃ n : Int, (2 ≤ n ∧ n ≤ 9973 ∧ m' = n.toNat) ∧ H2 = H' ∧ σ' = [some (.int x), some (.int n)], fun _ _ z => z, ?_⟩
    walk_at "rd"
    exact ⟨(n - 1).toNat, by omega, n - 1, ⟨by omega, by omega, rfl⟩, rfl, rfl⟩
  · have hbt : b = true := by simpa using h
    walk_at "rd"
    exact q _ _ (hb.mp hbt) n1 (Same.refl _)
end

section
variable {P : Program} {w : World} {K : PySem.W.Frag} {mg : Str → Option Value} {base : Heap}
def spWhole : Sp := fun vs H Q _ => ∃ (a : Int), vs = [.int a] ∧ Q (.bl true) H
theorem ok_whole (T : Tx K mg) : FnOk P w K mg base CX0 1 T.f_whole T.fd_whole ["_law_found"] spWhole := by
  refine T.F_whole.ok sc_whole (fun vs H Q E h => ?_) (fun cdv A outer s H vs Q E hr h => ?_)
  · obtain ⟨a, rfl, _⟩ := h
    rfl
  obtain ⟨a, rfl, q⟩ := h
  refine ⟨_, (pss_one (ps_ret (pe_and (pe_callB call_isinst (by rfl) T.z_isinstance (by rfl) (pa_cons (pv 0) (pa_cons (pe_bltn (v := .ty "int") (u := .type "int") (by rfl) T.z_int (by rfl) rfl) pa_nil))) (pe_one (pe_not (pe_callB call_isinst (by rfl) T.z_isinstance (by rfl) (pa_cons (pv 0) (pa_cons (pe_bltn (v := .ty "bool") (u := .type "bool") (by rfl) T.z_bool (by rfl) rfl) pa_nil)))))))), ?_⟩
  walk_at "rd"
  refine ⟨_, _, _, _, rfl, .int _, kit_self _ _, ?_⟩
  walk_at "rd"
  refine ⟨_, _, _, _, rfl, .int _, T.k_ib, ?_⟩
  exact ⟨_, rfl, q⟩
def spProd (K : PySem.W.Frag) : Sp := fun vs H Q _ => ∃ (p1 p2 : Addr) (as bs : List Int) (m : Int), vs = [.ref p1, .ref p2, .int m] ∧ SqL K H p1 (as.map V.int) ∧ SqL K H p2 (bs.map V.int) ∧ (0 < m ∧ as.length ≤ 100 ∧ bs.length ≤ 100 ∧ (∀ x ∈ as, 0 ≤ x ∧ x < 10000) ∧ ∀ x ∈ bs, 0 ≤ x ∧ x < 10000) ∧
  ∀ (p : Addr) (ms : List Int) (H' : Hp), Same H H' → H p = none → H' p = some (.lst (ms.map V.int)) → (if as = [] ∨ bs = [] then ms = [] else IsTrim (tab (as.length + bs.length - 1) (fun k => cf as bs as.length k % m)) ms) → Q (.ref p) H'
theorem ok_product (T : Tx K mg) : FnOk P w K mg base CX0 2 T.f_product T.fd_product ["_law_one", "_law_other", "_law_base"] (spProd K) := by
  refine T.F_product.ok sc_product (fun vs H Q E h => ?_) (fun cdv A outer s H vs Q E hr h => ?_)
  · obtain ⟨p1, p2, as, bs, m, rfl, _⟩ := h
    rfl
  obtain ⟨p1, p2, as, bs, m, rfl, h1, h2, ⟨hm, la, lb, ba, bb⟩, q⟩ := h
  refine ⟨_, (@pss_cons _ _ _ _ _ (ps_if (PW.pt (pw_or (pt_cmpR (op_eqLI hr.units) (pv 0) (pe_lst pa_nil) (nomark _)) (pw_or1 (pt_cmpR (op_eqLI hr.units) (pv 1) (pe_lst pa_nil) (nomark _))))) (pss_one (ps_ret (pe_lst pa_nil))) pss_nil)
      (@pss_cons _ _ _ _ _ (ps_set (i := 3) sc_product.nd rfl (by first | exact Or.inl rfl | exact Or.inr rfl) (pe_op op_rep (pe_lst (pa_cons pe_int pa_nil)) (pe_op op_sub (pe_op op_add (pe_callB call_len_seq (by rfl) T.z_len PySem.boot_len (pa_cons (pv 0) pa_nil)) (pe_callB call_len_seq (by rfl) T.z_len PySem.boot_len (pa_cons (pv 1) pa_nil))) pe_int)))
      (@pss_cons _ _ _ _ _ (ps_for PassesOwn.never rfl (pi_range1 rfl T.z_range (pa_cons (pe_callB call_len_seq (by rfl) T.z_len PySem.boot_len (pa_cons (pv 0) pa_nil)) pa_nil)) (pg_name (i := 4) sc_product.nd rfl (by first | exact Or.inl rfl | exact Or.inr rfl)) (pss_one (ps_for PassesOwn.never rfl (pi_range1 rfl T.z_range (pa_cons (pe_callB call_len_seq (by rfl) T.z_len PySem.boot_len (pa_cons (pv 1) pa_nil)) pa_nil)) (pg_name (i := 5) sc_product.nd rfl (by first | exact Or.inl rfl | exact Or.inr rfl)) (@pss_cons _ _ _ _ _ (ps_set (i := 6) sc_product.nd rfl (by first | exact Or.inl rfl | exact Or.inr rfl) (pe_op op_mulG (pe_ix ix_list (pv 0) (pv 4) (fun _ _ => rfl)) (pe_ix ix_list (pv 1) (pv 5) (fun _ _ => rfl))))
      (pss_one (ps_asg (pe_op op_mod (pe_op op_add (pe_ix ix_list (pv 3) (pe_op op_add (pv 4) (pv 5)) (fun _ _ => rfl)) (pv 6)) (pv 2)) (pg_sub (pv 3) (pe_op op_add (pv 4) (pv 5)) set_list)))))))
      (pss_one (ps_ret (pe_call (ok_cut T) (hr.mono (by omega)) rfl T.m_cut T.F_cut.kp T.b_cut .nil pass0 (pa_cons (pv 3) pa_nil))))))), ?_⟩
  walk_at "rd"
  intro px hpx
  refine ⟨p1, px, as, [], rfl, rfl, (same_new hpx _).seq h1, SqL.of upd_same, ?_⟩
  walk_at "rd"
  refine itd (fun ha => ?_) (fun ha => ?_)
  · walk_at "rd"
    intro p hp
    exact q p [] _ ((same_new hpx _).trans (same_new hp _)) ((same_new hpx _).free hp) upd_same (by rw [if_pos (.inl ha)])
  walk_at "rd"
  intro py hpy
  refine ⟨p2, py, bs, [], rfl, rfl, (same_new hpy _).seq ((same_new hpx _).seq h2), SqL.of upd_same, ?_⟩
  walk_at "rd"
  have s2 : Same H (upd (upd H px (.lst [])) py (.lst [])) := (same_new hpx _).trans (same_new hpy _)
  refine itd (fun hb => ?_) (fun hb => ?_)
  · walk_at "rd"
    intro p hp
    exact q p [] _ (s2.trans (same_new hp _)) (s2.free hp) upd_same (by rw [if_pos (.inr hb)])
  have la0 : 0 < as.length := List.length_pos_iff.mpr ha
  have lb0 : 0 < bs.length := List.length_pos_iff.mpr hb
  have hne : ¬ (as = [] ∨ bs = []) := by rintro (z | z); exact ha z; exact hb z
  simp only [if_neg hne] at q
  generalize upd (upd H px (.lst [])) py (.lst []) = H0 at *
  walk_at "rd"
  intro pz hpz
  refine ⟨_, rfl, p1, _, rfl, .inl ((same_new hpz _).seq (s2.seq h1)), ?_⟩
  refine ⟨_, rfl, p2, _, rfl, .inl ((same_new hpz _).seq (s2.seq h2)), ?_⟩
  walk_at "rd"
  have eN : (((as.map V.int).length : Int) + ((bs.map V.int).length : Int) - 1).toNat = as.length + bs.length - 1 := by
    rw [List.length_map, List.length_map]
    omega
  refine ⟨pz, _, [V.int 0], rfl, rfl, upd_same, ?_, ?_, ?_, fun pt hpt => ?_⟩
  · rw [List.length_map, List.length_map]; omega
  · rw [List.length_map, List.length_map]; omega
  · rw [eN]; exact small_len (by show 1 * _ ≤ _; omega)
  rw [eN, rep_tab]
  have s3 : Same H (upd H0 pz (.lst [V.int 0])) := s2.trans (same_new hpz _)
  have fpt : H pt = none := s3.free hpt
  generalize hN : as.length + bs.length - 1 = N at *
  have lA : (as.map V.int).length = as.length := List.length_map _
  have lB : (bs.map V.int).length = bs.length := List.length_map _
  refine ⟨_, rfl, p1, _, rfl, .inl ((same_upd s3 fpt _).seq h1), _, rfl, by rw [lA]; omega, by rw [lA]; omega, for_range (n := (as.map V.int).length) (fun i σ H2 => ∃ (v4 v5 v6 : Option V), Same H H2 ∧ H2 pt = some (.lst ((tab N (fun k => cf as bs i k % m)).map V.int)) ∧ σ = [some (.ref p1), some (.ref p2), some (.int m), some (.ref pt), v4, v5, v6]) ?_ ?_ ?_⟩
  · refine ⟨_, _, _, same_upd s3 fpt _, ?_, rfl⟩
    rw [upd_same, tab_ext fun k _ => (Int.zero_emod m).symm]
    rfl
  · rintro i σ H2 hi ⟨v4, v5, v6, sm, ht, rfl⟩
    rw [lA] at hi
    refine ⟨_, rfl, p2, _, rfl, .inl (sm.seq h2), _, rfl, by rw [lB]; omega, by rw [lB]; omega, for_range (n := (bs.map V.int).length) (fun j σ H3 => ∃ (v5 v6 : Option V), Same H H3 ∧ H3 pt = some (.lst ((tab N (fun k => cfp as bs i j k % m)).map V.int)) ∧ σ = [some (.ref p1), some (.ref p2), some (.int m), some (.ref pt), some (.int (0 + (i : Int))), v5, v6]) ?_ ?_ ?_⟩
    · exact ⟨_, _, sm, by rw [ht, tab_ext fun k _ => congrArg (· % m) (cfp_zero as bs i k).symm], rfl⟩
    · rintro j σ H3 hj ⟨v5, v6, sm3, ht3, rfl⟩
      rw [lB] at hj
      have ix : i + j < N := by omega
      have a1 : atI (as.map V.int) (0 + (i : Int)) = some (.int (as.getD i 0)) := by
        have := at_ints (ns := as) (j := 0 + (i : Int)) (by omega) (by omega)
        rw [this, show (0 + (i : Int)).toNat = i by omega]
      have a2 : atI (bs.map V.int) (0 + (j : Int)) = some (.int (bs.getD j 0)) := by
        have := at_ints (ns := bs) (j := 0 + (j : Int)) (by omega) (by omega)
        rw [this, show (0 + (j : Int)).toNat = j by omega]
      have at1 : atI ((tab N (fun k => cfp as bs i j k % m)).map V.int) (0 + (i : Int) + (0 + (j : Int))) = some (.int (cfp as bs i j (i + j) % m)) := by
        have := at_ints (ns := tab N (fun k => cfp as bs i j k % m)) (j := 0 + (i : Int) + (0 + (j : Int))) (by omega) (by rw [tab_len]; omega)
        rw [this, show (0 + (i : Int) + (0 + (j : Int))).toNat = i + j by omega, tab_get ix]
      have bA := getD_mem ba (k := i) hi
      have bB := getD_mem bb (k := j) hj
      refine ⟨_, rfl, _, rfl, p1, _, _, _, rfl, rfl, sm3.seq h1, a1, ?_⟩
      refine ⟨_, rfl, _, rfl, p2, _, _, _, rfl, rfl, sm3.seq h2, a2, ?_⟩
      walk_at "rd"
      refine ⟨pt, _, _, i + j, rfl, rfl, ht3, ?_, ?_⟩
      · rw [List.length_map, tab_len]
        unfold ixN
        rw [if_pos (by omega), if_pos (by omega)]
        congr 1
        omega
      · refine ⟨_, _, same_upd sm3 fpt _, ?_, rfl⟩
        rw [upd_same]
        have e := tab_set (n := N) (f := fun k => cfp as bs i j k % m) (g := fun k => cfp as bs i (j + 1) k % m) ix (fun k _ hk => by rw [cfp_step, if_neg hk, Int.add_zero])
        rw [← e]
        show _ = some (HO.lst (List.set _ _ (V.int (cfp as bs i (j + 1) (i + j) % m))))
        rw [cfp_step, if_pos rfl, ← Int.emod_add_emod]
    · rintro σ H3 ⟨v5, v6, sm3, ht3, rfl⟩
      rw [lB] at ht3
      exact ⟨_, _, _, sm3, by rw [ht3, tab_ext fun k _ => congrArg (· % m) (cfp_full as bs i k)], rfl⟩
  · rintro σ H2 ⟨v4, v5, v6, sm, ht, rfl⟩
    rw [lA] at ht
    exact ⟨_, rfl, pt, _, rfl, SqL.of ht, by rw [tab_len]; omega, fun p ms H3 s3 f3 h3 tr => q p ms H3 (sm.trans s3) (sm.free f3) h3 tr⟩
end

section
variable {P : Program} {w : World} {K : PySem.W.Frag} {mg : Str → Option Value} {base : Heap}
def spBy (K : PySem.W.Frag) : Sp := fun vs H Q _ => ∃ (a : Addr) (ns : List Int) (m : Int), vs = [.ref a, .int m] ∧ H a = some (.lst (ns.map V.int)) ∧ ((∀ x ∈ ns, 0 ≤ x ∧ x < m) ∧ (ns = [] ∨ ns.getD (ns.length - 1) 0 ≠ 0)) ∧ ∀ H', Same H H' → Q (.bl true) H'
theorem at_last {ns : List Int} (h : ns ≠ []) : atI (ns.map V.int) (-1) = some (.int (ns.getD (ns.length - 1) 0)) := by
  have hl : 0 < ns.length := List.length_pos_iff.mpr h
  unfold atI
  have e : ixN (ns.map V.int).length (-1) = some (ns.length - 1) := by
    unfold ixN
    rw [List.length_map, if_neg (by decide)]
    first
    | rw [if_pos (by omega)]; congr 1; omega
    | (split <;> first | (congr 1; omega) | omega)
  rw [e]
  show (ns.map V.int)[ns.length - 1]? = _
  rw [List.getElem?_map, List.getElem?_eq_getElem (by omega), List.getD_eq_getElem?_getD, List.getElem?_eq_getElem (by omega)]
  rfl
theorem ok_by (T : Tx K mg) : FnOk P w K mg base CX0 2 T.f_by T.fd_by ["_law_found", "_law_prime_here"] (spBy K) := by
  refine T.F_by.ok sc_by (fun vs H Q E h => ?_) (fun cdv A outer s H vs Q E hr h => ?_)
  · obtain ⟨a, ns, m, rfl, _⟩ := h
    rfl
  obtain ⟨a, ns, m, rfl, ha, ⟨hb, hl⟩, q⟩ := h
  refine ⟨_, (@pss_cons _ _ _ _ _ (ps_if (pt_not (pt_val (pe_callB call_isinst (by rfl) T.z_isinstance (by rfl) (pa_cons (pv 0) (pa_cons (pe_bltn (v := .ty "list") (u := .type "list") (by rfl) T.z_list (by rfl) rfl) pa_nil))))) (pss_one (ps_ret pe_bl)) pss_nil)
      (@pss_cons _ _ _ _ _ (ps_for PassesOwn.never rfl (pi_list (pv 0)) (pg_name (i := 2) sc_by.nd rfl (by first | exact Or.inl rfl | exact Or.inr rfl)) (pss_one (ps_if (PW.pt (pw_or (pt_not (pt_val (pe_call (ok_whole T) (hr.mono (by omega)) rfl T.m_whole T.F_whole.kp T.b_whole .nil pass0 (pa_cons (pv 2) pa_nil)))) (pw_or1 (pt_not (pt_chain op_le op_lt pe_int (pv 2) (pv 1)))))) (pss_one (ps_ret pe_bl)) pss_nil)))
      (pss_one (ps_ret (pe_or (pe_cmpR (op_eqLI hr.units) (pv 0) (pe_lst pa_nil) (nomark _)) (pe_one (pe_cmpR op_ne (pe_ix ix_list (pv 0) (pe_un un_neg pe_int) (fun _ _ => rfl)) pe_int (nomark _)))))))), ?_⟩
  walk_at "rd"
  refine ⟨_, _, _, _, rfl, .lst ha, kit_self _ _, ?_⟩
  walk_at "rd"
  refine ⟨⟨_, SqL.of ha⟩, for_list (K := K) (a := a) (xs := ns.map V.int) (fun i σ H2 => ∃ (v2 : Option V), H2 = H ∧ σ = [some (.ref a), some (.int m), v2]) ?_ ?_ ?_ ?_⟩
  · exact ⟨_, rfl, rfl⟩
  · rintro i σ H2 _ ⟨v2, rfl, rfl⟩
    exact SqL.of ha
  · rintro i x σ H2 hx ⟨v2, rfl, rfl⟩
    obtain ⟨z, rfl, hz, hi⟩ := ints_get hx
    have bz := hb z hz
    walk_at "rd"
    refine itd (fun _ => ?_) (fun h => absurd bz.1 h)
    walk_at "rd"
    refine itn (fun h => absurd bz.2 h) (fun _ => ?_)
    exact ⟨_, rfl, rfl⟩
  · rintro σ H2 ⟨v2, rfl, rfl⟩
    walk_at "rd"
    intro pe hpe
    refine ⟨a, pe, ns, [], rfl, rfl, SqL.of (upd_keep ha hpe), SqL.of upd_same, ?_⟩
    walk_at "rd"
    refine itd (fun h => ?_) (fun h => ?_)
    · exact q _ (same_new hpe _)
    · have hl2 : ns.getD (ns.length - 1) 0 ≠ 0 := by
        rcases hl with z | z
        · exact absurd z h
        · exact z
      refine ⟨_, rfl, _, rfl, a, _, _, _, rfl, rfl, SqL.of (upd_keep ha hpe), at_last h, ?_⟩
      walk_at "rd"
      rw [decide_eq_false (fun z => hl2 (V.int.inj z))]
      exact q _ (same_new hpe _)
def Good (m : Int) (ms : List Int) : Prop := ms.length ≤ 10 ∧ (∀ x ∈ ms, 0 ≤ x ∧ x < m) ∧ (ms = [] ∨ ms.getD (ms.length - 1) 0 ≠ 0)
def spRow (K : PySem.W.Frag) : Sp := fun vs H Q _ => ∃ (a : Addr) (xs : List Int) (at' m : Int), vs = [.ref a, .int at', .int m] ∧ SqL K H a (xs.map V.int) ∧ (xs.length = 24 ∧ 0 ≤ at' ∧ at' ≤ 12 ∧ 0 < m) ∧ ∀ (p : Addr) (ms : List Int) (H' : Hp), Same H H' → H p = none → H' p = some (.lst (ms.map V.int)) → Good m ms → Q (.ref p) H'
theorem ok_row (T : Tx K mg) : FnOk P w K mg base CX0 2 T.f_row T.fd_row ["_law_xs", "_law_at", "_law_prime_here"] (spRow K) := by
  refine T.F_row.ok sc_row (fun vs H Q E h => ?_) (fun cdv A outer s H vs Q E hr h => ?_)
  · obtain ⟨a, xs, at', m, rfl, _⟩ := h
    rfl
  obtain ⟨a, xs, at', m, rfl, hS, ⟨hl, a0, a1, hm⟩, q⟩ := h
  refine ⟨_, (pss_one (ps_ret (pe_call (ok_cut T) (hr.mono (by omega)) rfl T.m_cut T.F_cut.kp T.b_cut .nil pass0 (pa_cons (pe_comp ["_law_k"] ["_law_xs", "_law_at", "_law_prime_here"] rfl (by show compOk _ (defScope s_row) ["_law_xs", "_law_at", "_law_prime_here"] ["_law_xs", "_law_at", "_law_prime_here"] ["_law_k"] = true; decide +kernel) (pi_range1 rfl T.z_range (pa_cons (pe_op op_mod (pe_ix ix_list (pv 0) (pv 1) (fun _ _ => rfl)) pe_int) pa_nil)) (fun _ _ _ _ => (pg_name (i := 0) (show List.Nodup ((["_law_k"] : List Str) ++ (["_law_xs", "_law_at", "_law_prime_here"] : List Str)) by decide +kernel) rfl (Or.inl rfl) (Or.inr rfl))) (fun _ _ _ _ => pf_nil) (fun _ _ _ _ => (pe_op op_mod (pe_ix (ix_listK (K := K) rfl) (pv 1) (pe_op op_add (pe_op op_add (pv 2) pe_int) (pv 0)) (fun _ _ => rfl)) (pv 3)))) pa_nil)))), ?_⟩
  refine ⟨_, rfl, _, rfl, a, _, _, _, rfl, rfl, hS, at_ints a0 (by omega), ?_⟩
  generalize xs.getD at'.toNat 0 = v
  walk_at "rd"
  refine ⟨by omega, by omega, fun D hD => comp_range (n := (v % 11).toNat) (fun i ys H2 => ∃ zs : List Int, (zs.length = i ∧ ∀ x ∈ zs, 0 ≤ x ∧ x < m) ∧ Same H H2 ∧ H2 D = some (.lst ys) ∧ ys = zs.map V.int) ?_ ?_ ?_⟩
  · exact ⟨[], ⟨rfl, by simp⟩, same_new hD _, upd_same, rfl⟩
  · rintro i ys H2 hi ⟨zs, ⟨lz, bz⟩, sm, hy, rfl⟩
    refine ⟨_, rfl, _, rfl, _, _, rfl, rfl, _, rfl, _, _, rfl, rfl, a, _, _, _, rfl, rfl, sm.seq hS, at_ints (by omega) (by omega), ?_⟩
    generalize xs.getD _ 0 = u
    refine ⟨_, rfl, _, _, rfl, rfl, hm, ?_⟩
    refine cnext (zs := (zs ++ [u % m]).map V.int) hi hy (by rw [List.length_map]; exact small1000 (by omega)) ⟨zs ++ [u % m], ⟨by simp [lz], fun x hx => ?_⟩, same_upd sm hD _, ?_, rfl⟩
    · rcases List.mem_append.mp hx with h | h
      · exact bz x h
      · rw [List.mem_singleton] at h
        subst h
        exact ⟨Int.emod_nonneg _ (by omega), Int.emod_lt_of_pos _ hm⟩
    · rw [upd_same, List.map_append]
      rfl
  · rintro ys H2 ⟨zs, ⟨lz, bz⟩, sm, hy, rfl⟩
    refine ⟨D, zs, rfl, SqL.of hy, by omega, fun p ms H3 s3 f3 h3 tr => q p ms H3 (sm.trans s3) (sm.free f3) h3 ⟨?_, fun x hx => bz x (tr.mem x hx), tr.last⟩⟩
    obtain ⟨k, k1, rfl, _⟩ := tr
    rw [List.length_take]
    omega
end

end Toy

set_option Elab.async false
set_option linter.all false
set_option maxRecDepth 100000
set_option maxHeartbeats 4000000
namespace Toy
open PySem L2 Num
local macro_rules | `(tactic| walk_at "hp") => `(tactic| first
  | assumption
  | exact upd_same
  | exact upd_keep (by walk_at "hp") (by assumption)
  | (rw [upd_ne (by first | assumption | exact Ne.symm (by assumption))]; walk_at "hp")
  | exact Same.get (by assumption) (by walk_at "hp"))
local macro_rules | `(tactic| walk_at "side") => `(tactic| first
  | exact mulOk_small (by omega) (by omega)
  | exact mulOk_smallR (by omega) (by omega)
  | exact cdivP_small (by omega) (by omega)
  | exact cpow_small (by decide) (by decide) (by decide)
  | (show (0 : Int) < _; omega)
  | (with_reducible show _ ≤ sizeLine; exact small_len (by simp only [List.length_cons, List.length_nil]; omega)))
local macro_rules | `(tactic| walk_at "rd1") => `(tactic| first
  | refine ⟨_, rfl, ?_⟩
  | refine ⟨_, _, rfl, rfl, ?_⟩
  | refine ⟨rfl, ?_⟩
  | refine ⟨_, _, rfl, ?_⟩
  | refine ⟨_, _, rfl, SqT.of (by walk_at "hp"), rfl, ?_⟩
  | refine ⟨_, _, _, _, rfl, rfl, SqL.of (by walk_at "hp"), (by assumption), ?_⟩
  | refine ⟨_, _, _, _, rfl, rfl, SqT.of (by walk_at "hp"), (by assumption), ?_⟩
  | (refine ⟨?sidegoal, ?_⟩; (case sidegoal => walk_at "side")))
local macro_rules | `(tactic| walk_at "rd") => `(tactic| repeat walk_at "rd1")

def spLaw (K : PySem.W.Frag) : Sp := fun vs H Q _ => ∃ (a : Addr) (ns : List Int), vs = [.ref a] ∧ SqL K H a (ns.map V.int) ∧ ns.length ≤ 63 ∧ ∀ H', Q (.bl true) H'
theorem bits_of {x : Int} {n : Nat} (h : x.natAbs < 2 ^ n) : Builtin.Int.intBits x ≤ n := bits_le h
theorem mulOk_pow {x y : Int} {n m : Nat} (h : x.natAbs < 2 ^ n) (h2 : y.natAbs < 2 ^ m) (hs : n + m ≤ 134217728) : IntMulOk x y := mulOk_bits (Nat.le_trans (Nat.add_le_add (bits_le h) (bits_le h2)) hs)
theorem log2_pow {y : Int} {n : Nat} (h : y.natAbs < 2 ^ n) (hn : n ≤ 8000) : y.natAbs.log2 < 9000 := by
  rcases Nat.eq_zero_or_pos y.natAbs with e | e
  · rw [e]; decide
  · have := (Nat.log2_lt (Nat.ne_of_gt e)).mpr h
    omega
theorem nat_lt {x : Nat} {n m : Nat} (h : x < 2 ^ n) (hm : n ≤ m) : x < 2 ^ m := Nat.lt_of_lt_of_le h (Nat.pow_le_pow_right (by decide) hm)

section
variable {P : Program} {w : World} {K : PySem.W.Frag} {mg : Str → Option Value} {base : Heap}
def spCommon : Sp := fun vs H Q _ => ∃ (a b : Int) (n : Nat), vs = [.int a, .int b] ∧ n ≤ 7000 ∧ a.natAbs < 2 ^ n ∧ b.natAbs < 2 ^ n ∧ ∀ (p : Addr) (g u v : Int) (H' : Hp), Same H H' → H p = none → H' p = some (.tup [.int g, .int u, .int v]) → g = (Int.gcd a b : Nat) → u * a + v * b = g → u.natAbs < 2 ^ (n + 2) → v.natAbs < 2 ^ (n + 2) → Q (.ref p) H'
structure CInv (n : Nat) (a b x y u u2 v v2 : Int) : Prop where
  e1 : u * a + v * b = x
  e2 : u2 * a + v2 * b = y
  g : Int.gcd x y = Int.gcd a b
  bx : x.natAbs < 2 ^ n
  by' : y.natAbs < 2 ^ n
  bu : u.natAbs < 2 ^ (n + 2)
  bv : v.natAbs < 2 ^ (n + 2)
  bu2 : u2.natAbs < 2 ^ (n + 2)
  bv2 : v2.natAbs < 2 ^ (n + 2)
  or : (u = 1 ∧ u2 = 0 ∧ v = 0 ∧ v2 = 1) ∨ (Sg x y ∧ Ib n x y u u2 ∧ Ib n x y v v2)
theorem pow2 (n : Nat) : 1 < 2 ^ (n + 2) := by
  have := Nat.pow_pos (n := n) (show 0 < 2 by decide)
  rw [Nat.pow_add]
  omega
theorem CInv.next {n : Nat} {a b x y u u2 v v2 : Int} (I : CInv n a b x y u u2 v v2) (hy : y ≠ 0) : CInv n a b y (x - x.fdiv y * y) u2 (u - x.fdiv y * u2) v2 (v - x.fdiv y * v2) := by
  have hs := sg_next x y hy
  have hlt := fl_abs x y hy
  have ib : Ib n y (x - x.fdiv y * y) u2 (u - x.fdiv y * u2) ∧ Ib n y (x - x.fdiv y * y) v2 (v - x.fdiv y * v2) := by
    rcases I.or with ⟨rfl, rfl, rfl, rfl⟩ | ⟨h1, h2, h3⟩
    · have hq := q_abs x y hy
      have h1 := I.bx
      have h2 := I.by'
      unfold Ib
      constructor
      · simp only [Int.mul_zero, Int.sub_zero, Int.natAbs_zero, Nat.zero_mul, Nat.add_zero]
        show 1 * y.natAbs ≤ _
        omega
      · simp only [Int.mul_one, Int.zero_sub, Int.natAbs_neg]
        show _ + 1 * _ ≤ _
        have hq2 : (x.fdiv y).natAbs * y.natAbs ≤ x.natAbs + (x - x.fdiv y * y).natAbs := by
          rw [← Int.natAbs_mul]
          omega
        omega
    · exact ⟨ib_next h2 h1 hy, ib_next h3 h1 hy⟩
  refine ⟨I.e2, ?_, ?_, I.by', Nat.lt_trans hlt I.by', I.bu2, I.bv2, ib_bound ib.1 hs, ib_bound ib.2 hs, .inr ⟨hs, ib.1, ib.2⟩⟩
  · have h1 := I.e1
    have h2 := I.e2
    generalize x.fdiv y = q
    subst h1
    subst h2
    grind
  · rw [gcd_step, I.g]
theorem ok_common (T : Tx K mg) : FnOk P w K mg base CX0 1 T.f_common T.fd_common ["one", "other"] spCommon := by
  refine T.F_common.ok sc_common (fun vs H Q E h => ?_) (fun cdv A outer s H vs Q E hr h => ?_)
  · obtain ⟨a, b, n, rfl, _⟩ := h
    rfl
  obtain ⟨a, b, n, rfl, hn, ha, hb, q⟩ := h
  refine ⟨_, (@pss_cons _ _ _ _ _ (ps_asg (pe_tup (pa_cons pe_int (pa_cons pe_int pa_nil))) (pg_tup rfl (pgs_cons (pg_name (i := 2) sc_common.nd rfl (by first | exact Or.inl rfl | exact Or.inr rfl)) (pgs_cons (pg_name (i := 3) sc_common.nd rfl (by first | exact Or.inl rfl | exact Or.inr rfl)) pgs_nil))))
      (@pss_cons _ _ _ _ _ (ps_asg (pe_tup (pa_cons pe_int (pa_cons pe_int pa_nil))) (pg_tup rfl (pgs_cons (pg_name (i := 4) sc_common.nd rfl (by first | exact Or.inl rfl | exact Or.inr rfl)) (pgs_cons (pg_name (i := 5) sc_common.nd rfl (by first | exact Or.inl rfl | exact Or.inr rfl)) pgs_nil))))
      (@pss_cons _ _ _ _ _ (ps_while PassesOwn.never (pt_cmpR op_ne (pv 1) pe_int (nomark _)) (@pss_cons _ _ _ _ _ (ps_set (i := 6) sc_common.nd rfl (by first | exact Or.inl rfl | exact Or.inr rfl) (pe_op op_fdivG (pv 0) (pv 1)))
      (@pss_cons _ _ _ _ _ (ps_par (i := 0) (j := 1) rfl sc_common.nd rfl rfl (by decide) rfl rfl (pa_cons (pv 1) (pa_cons (pe_op op_sub (pv 0) (pe_op op_mulG (pv 6) (pv 1))) pa_nil)) rfl)
      (@pss_cons _ _ _ _ _ (ps_par (i := 2) (j := 3) rfl sc_common.nd rfl rfl (by decide) rfl rfl (pa_cons (pv 3) (pa_cons (pe_op op_sub (pv 2) (pe_op op_mulG (pv 6) (pv 3))) pa_nil)) rfl)
      (pss_one (ps_par (i := 4) (j := 5) rfl sc_common.nd rfl rfl (by decide) rfl rfl (pa_cons (pv 5) (pa_cons (pe_op op_sub (pv 4) (pe_op op_mulG (pv 6) (pv 5))) pa_nil)) rfl))))))
      (@pss_cons _ _ _ _ _ (ps_if (pt_cmpR op_lt (pv 0) pe_int (nomark _)) (pss_one (ps_ret (pe_tup (pa_cons (pe_un un_neg (pv 0)) (pa_cons (pe_un un_neg (pv 2)) (pa_cons (pe_un un_neg (pv 4)) pa_nil)))))) pss_nil)
      (pss_one (ps_ret (pe_tup (pa_cons (pv 0) (pa_cons (pv 2) (pa_cons (pv 4) pa_nil)))))))))), ?_⟩
  walk_at "rd"
  intro p1 h1
  walk_at "rd"
  intro p2 h2
  walk_at "rd"
  have s2 : Same H (upd (upd H p1 (.tup [.int 1, .int 0])) p2 (.tup [.int 0, .int 1])) := (same_new h1 _).trans (same_new h2 _)
  refine ⟨fun m σ H' => ∃ (x y u u2 v v2 : Int) (o : Option V), (CInv n a b x y u u2 v v2 ∧ m = y.natAbs) ∧ Same H H' ∧ σ = [some (.int x), some (.int y), some (.int u), some (.int u2), some (.int v), some (.int v2), o],
    ⟨_, a, b, 1, 0, 0, 1, none, ⟨⟨by omega, by omega, rfl, ha, hb, pow2 n, by have := pow2 n; show 0 < _; omega, by have := pow2 n; show 0 < _; omega, pow2 n, .inl ⟨rfl, rfl, rfl, rfl⟩⟩, rfl⟩, s2, rfl⟩, ?_⟩
  rintro m σ H' ⟨x, y, u, u2, v, v2, o, ⟨I, rfl⟩, sm, rfl⟩
  walk_at "rd"
  refine itn (fun h => ?_) (fun h => ?_)
  · have hy : y ≠ 0 := fun z => h (congrArg V.int z)
    refine ⟨fun σ' H2 => ∃ m', m' < y.natAbs ∧ ∃ (x y u u2 v v2 : Int) (o : Option V), (CInv n a b x y u u2 v v2 ∧ m' = y.natAbs) ∧ Same H H2 ∧ σ' = [some (.int x), some (.int y), some (.int u), some (.int u2), some (.int v), some (.int v2), o], fun _ _ z => z, ?_⟩
    have hq : (x.fdiv y).natAbs < 2 ^ (n + 2) := by
      have h1 := q_le x y hy
      have h2 := I.bx
      have h3 := I.by'
      have e : 2 ^ (n + 2) = 4 * 2 ^ n := by rw [Nat.pow_add]; omega
      omega
    walk_at "rd"
    refine ⟨⟨hy, log2_pow I.by' (by omega)⟩, ?_⟩
    walk_at "rd"
    refine ⟨mulOk_pow hq I.by' (by omega), ?_⟩
    walk_at "rd"
    refine ⟨mulOk_pow hq I.bu2 (by omega), ?_⟩
    walk_at "rd"
    refine ⟨mulOk_pow hq I.bv2 (by omega), ?_⟩
    walk_at "rd"
    exact ⟨_, fl_abs x y hy, _, _, _, _, _, _, _, ⟨I.next hy, rfl⟩, sm, rfl⟩
  · have hy : y = 0 := V.int.inj h
    subst hy
    have hg := I.g
    rw [Int.gcd_zero_right] at hg
    have e1 := I.e1
    have bu := I.bu
    have bv := I.bv
    walk_at "rd"
    refine itd (fun h => ?_) (fun h => ?_)
    · walk_at "rd"
      intro p hp
      refine q p (-x) (-u) (-v) _ (sm.trans (same_new hp _)) (sm.free hp) upd_same (by omega) ?_ (by omega) (by omega)
      rw [Int.neg_mul, Int.neg_mul]
      omega
    · walk_at "rd"
      intro p hp
      exact q p x u v _ (sm.trans (same_new hp _)) (sm.free hp) upd_same (by omega) e1 bu bv
end

section
variable {P : Program} {w : World} {K : PySem.W.Frag} {mg : Str → Option Value} {base : Heap}
theorem at_lastI {ns : List Int} (h : ns ≠ []) : atI (ns.map V.int) (-1) = some (.int (ns.getD (ns.length - 1) 0)) := by
  have hl : 0 < ns.length := List.length_pos_iff.mpr h
  unfold atI
  have e : ixN (ns.map V.int).length (-1) = some (ns.length - 1) := by
    unfold ixN
    rw [List.length_map, if_neg (by decide)]
    first
    | rw [if_pos (by omega)]; congr 1; omega
    | (split <;> first | (congr 1; omega) | omega)
  rw [e]
  show (ns.map V.int)[ns.length - 1]? = _
  rw [List.getElem?_map, List.getElem?_eq_getElem (by omega), List.getD_eq_getElem?_getD, List.getElem?_eq_getElem (by omega)]
  rfl
theorem at_nat {ns : List Int} {k : Nat} {j : Int} (hj : j = (k : Int)) (h : k < ns.length) : atI (ns.map V.int) j = some (.int (ns.getD k 0)) := by
  rw [at_ints (by omega) (by omega), show j.toNat = k by omega]
theorem tab_self (ns : List Int) : (tab ns.length fun k => ns.getD k 0) = ns := by
  apply List.ext_getElem?
  intro j
  unfold tab
  by_cases h : j < ns.length
  · rw [List.getElem?_map, List.getElem?_range h, List.getElem?_eq_getElem h]
    show some (ns.getD j 0) = _
    rw [List.getD_eq_getElem?_getD, List.getElem?_eq_getElem h]
    rfl
  · rw [List.getElem?_eq_none (by simp; omega), List.getElem?_eq_none (by omega)]
theorem tab_co (n : Nat) (f : Nat → Int) (k : Nat) : (tab n f).getD k 0 = if k < n then f k else 0 := by
  by_cases h : k < n
  · rw [if_pos h, tab_get h]
  · rw [if_neg h]
    exact outI (by rw [tab_len]; omega)
theorem tab_mem {n : Nat} {f : Nat → Int} {x : Int} (h : x ∈ tab n f) : ∃ k, k < n ∧ x = f k := by
  unfold tab at h
  obtain ⟨k, hk, rfl⟩ := List.mem_map.mp h
  exact ⟨k, List.mem_range.mp hk, rfl⟩
theorem getI_bd {ns : List Int} {n : Nat} (h : ∀ x ∈ ns, x.natAbs < 2 ^ n) (k : Nat) : (ns.getD k 0).natAbs < 2 ^ n := by
  by_cases hk : k < ns.length
  · rw [List.getD_eq_getElem?_getD, List.getElem?_eq_getElem hk]
    exact h _ (List.getElem_mem hk)
  · rw [outI (by omega)]
    exact Nat.pow_pos (by decide)
end

section
variable {P : Program} {w : World} {K : PySem.W.Frag} {mg : Str → Option Value} {base : Heap}
theorem ixN_at {n k : Nat} {j : Int} (hj : j = (k : Int)) (h : k < n) : ixN n j = some k := by
  unfold ixN
  rw [if_pos (by omega), if_pos (by omega)]
  congr 1
  omega
@[irreducible] def spInverse : Sp := fun vs H Q _ => ∃ (x p : Int), vs = [.int x, .int p] ∧ (PrimeI p ∧ p ≤ 9973 ∧ 0 < x ∧ x < p) ∧ ∀ (y : Int) (H' : Hp), Same H H' → 0 ≤ y → y < p → p ∣ y * x - 1 → Q (.int y) H'
theorem spInverse_mk {vs : List V} {H : Hp} {Q : VK} {E : XK} (h : ∃ (x p : Int), vs = [.int x, .int p] ∧ (PrimeI p ∧ p ≤ 9973 ∧ 0 < x ∧ x < p) ∧ ∀ (y : Int) (H' : Hp), Same H H' → 0 ≤ y → y < p → p ∣ y * x - 1 → Q (.int y) H') : spInverse vs H Q E := by
  unfold spInverse
  exact h
theorem ok_inverse (T : Tx K mg) : FnOk P w K mg base CX0 2 T.f_inverse T.fd_inverse ["number", "modulus"] spInverse := by
  refine T.F_inverse.ok sc_inverse (fun vs H Q E h => ?_) (fun cdv A outer s H vs Q E hr h => ?_)
  · unfold spInverse at h
    obtain ⟨x, p, rfl, _⟩ := h
    rfl
  unfold spInverse at h
  obtain ⟨x, p, rfl, ⟨hp, p1, x0, x1⟩, q⟩ := h
  refine ⟨_, (pss_one (ps_ret (pe_op op_mod (pe_ix ix_tup (pe_call (ok_common T) (hr.mono (by omega)) rfl T.m_common T.F_common.kp T.b_common .nil pass0 (pa_cons (pv 0) (pa_cons (pv 1) pa_nil))) pe_int (fun _ _ => rfl)) (pv 1)))), ?_⟩
  have p0 : 0 < p := by have := hp.1; omega
  refine ⟨_, rfl, _, rfl, x, p, 14, rfl, by decide, by omega, by omega, fun pt g u v H1 s1 _ e1 hg huv _ _ => ?_⟩
  have a1 : atI [V.int g, V.int u, V.int v] 1 = some (.int u) := rfl
  refine ⟨pt, _, _, _, rfl, rfl, SqT.of e1, a1, _, rfl, _, _, rfl, rfl, p0, ?_⟩
  have g1 : g = 1 := by
    rw [hg, Int.gcd_comm, prime_coprime hp x0 x1]
    rfl
  refine q (u % p) H1 s1 (Int.emod_nonneg _ (by omega)) (Int.emod_lt_of_pos _ p0) ?_
  have e : u % p = u - p * (u / p) := by
    have := Int.emod_add_mul_ediv u p
    omega
  rw [e]
  refine ⟨-(v + (u / p) * x), ?_⟩
  have : u * x = 1 - v * p := by omega
  grind
@[irreducible] def spDivBy (K : PySem.W.Frag) : Sp := fun vs H Q _ => ∃ (p1 p2 : Addr) (ns ms : List Int) (p : Int), vs = [.ref p1, .ref p2, .int p] ∧ SqL K H p1 (ns.map V.int) ∧ SqL K H p2 (ms.map V.int) ∧ (PrimeI p ∧ p ≤ 9973 ∧ 0 < ms.length ∧ ns.length ≤ 100 ∧ ms.length ≤ 100 ∧ (∀ x ∈ ns, 0 ≤ x ∧ x < p) ∧ (∀ x ∈ ms, 0 ≤ x ∧ x < p) ∧ ms.getD (ms.length - 1) 0 ≠ 0 ∧ (ns = [] ∨ ns.getD (ns.length - 1) 0 ≠ 0)) ∧
  ∀ (pt pq pr : Addr) (qs rs : List Int) (H' : Hp), Same H H' → H pt = none → H pq = none → H pr = none → H' pt = some (.tup [.ref pq, .ref pr]) → H' pq = some (.lst (qs.map V.int)) → H' pr = some (.lst (rs.map V.int)) →
    (qs.length ≤ ns.length ∧ rs.length < ms.length ∧ DivM p ns ms (fun i => qs.getD i 0) rs ∧ (∀ x ∈ qs, 0 ≤ x ∧ x < p) ∧ (∀ x ∈ rs, 0 ≤ x ∧ x < p) ∧ (qs = [] ∨ qs.getD (qs.length - 1) 0 ≠ 0) ∧ (rs = [] ∨ rs.getD (rs.length - 1) 0 ≠ 0)) → Q (.ref pt) H'
theorem spDivBy_mk {vs : List V} {H : Hp} {Q : VK} {E : XK} (h : ∃ (p1 p2 : Addr) (ns ms : List Int) (p : Int), vs = [.ref p1, .ref p2, .int p] ∧ SqL K H p1 (ns.map V.int) ∧ SqL K H p2 (ms.map V.int) ∧ (PrimeI p ∧ p ≤ 9973 ∧ 0 < ms.length ∧ ns.length ≤ 100 ∧ ms.length ≤ 100 ∧ (∀ x ∈ ns, 0 ≤ x ∧ x < p) ∧ (∀ x ∈ ms, 0 ≤ x ∧ x < p) ∧ ms.getD (ms.length - 1) 0 ≠ 0 ∧ (ns = [] ∨ ns.getD (ns.length - 1) 0 ≠ 0)) ∧
  ∀ (pt pq pr : Addr) (qs rs : List Int) (H' : Hp), Same H H' → H pt = none → H pq = none → H pr = none → H' pt = some (.tup [.ref pq, .ref pr]) → H' pq = some (.lst (qs.map V.int)) → H' pr = some (.lst (rs.map V.int)) →
    (qs.length ≤ ns.length ∧ rs.length < ms.length ∧ DivM p ns ms (fun i => qs.getD i 0) rs ∧ (∀ x ∈ qs, 0 ≤ x ∧ x < p) ∧ (∀ x ∈ rs, 0 ≤ x ∧ x < p) ∧ (qs = [] ∨ qs.getD (qs.length - 1) 0 ≠ 0) ∧ (rs = [] ∨ rs.getD (rs.length - 1) 0 ≠ 0)) → Q (.ref pt) H') : spDivBy K vs H Q E := by
  unfold spDivBy
  exact h
theorem ok_divided_by (T : Tx K mg) : FnOk P w K mg base CX0 3 T.f_divided_by T.fd_divided_by ["one", "other", "modulus"] (spDivBy K) := by
  refine T.F_divided_by.ok sc_divided_by (fun vs H Q E h => ?_) (fun cdv A outer s H vs Q E hr h => ?_)
  · unfold spDivBy at h
    obtain ⟨p1, p2, ns, ms, pr, rfl, _⟩ := h
    rfl
  unfold spDivBy at h
  obtain ⟨p1, p2, ns, ms, pp, rfl, h1, h2, ⟨hp, pmax, lm, la, lb, bn, bm, nzm, nzn⟩, q⟩ := h
  refine ⟨_, (@pss_cons _ _ _ _ _ (ps_set (i := 3) sc_divided_by.nd rfl (by first | exact Or.inl rfl | exact Or.inr rfl) (pe_callB (call_max2 rfl) (by rfl) T.z_max (by rfl) (pa_cons (pe_op op_add (pe_op op_sub (pe_callB call_len_seq (by rfl) T.z_len PySem.boot_len (pa_cons (pv 0) pa_nil)) (pe_callB call_len_seq (by rfl) T.z_len PySem.boot_len (pa_cons (pv 1) pa_nil))) pe_int) (pa_cons pe_int pa_nil))))
      (@pss_cons _ _ _ _ _ (ps_set (i := 4) sc_divided_by.nd rfl (by first | exact Or.inl rfl | exact Or.inr rfl) (pe_call (ok_inverse T) (hr.mono (by omega)) rfl T.m_inverse T.F_inverse.kp T.b_inverse .nil pass0 (pa_cons (pe_ix ix_list (pv 1) (pe_un un_neg pe_int) (fun _ _ => rfl)) (pa_cons (pv 2) pa_nil))))
      (@pss_cons _ _ _ _ _ (ps_set (i := 5) sc_divided_by.nd rfl (by first | exact Or.inl rfl | exact Or.inr rfl) (pe_callTy call_list_of (by rfl) T.z_list (by rfl) (pa_cons (pv 0) pa_nil)))
      (@pss_cons _ _ _ _ _ (ps_set (i := 6) sc_divided_by.nd rfl (by first | exact Or.inl rfl | exact Or.inr rfl) (pe_op op_rep (pe_lst (pa_cons pe_int pa_nil)) (pv 3)))
      (@pss_cons _ _ _ _ _ (ps_for PassesOwn.never rfl (pi_range3 rfl T.z_range (pa_cons (pe_op op_sub (pv 3) pe_int) (pa_cons (pe_un un_neg pe_int) (pa_cons (pe_un un_neg pe_int) pa_nil)))) (pg_name (i := 7) sc_divided_by.nd rfl (by first | exact Or.inl rfl | exact Or.inr rfl)) (@pss_cons _ _ _ _ _ (ps_set (i := 8) sc_divided_by.nd rfl (by first | exact Or.inl rfl | exact Or.inr rfl) (pe_op op_mod (pe_op op_mulG (pe_bm0 PySem.F.plainAttrs_list PySem.F.slot_list_pop PySem.F.type_list_pop mt_pop (pv 5)) (pv 4)) (pv 2)))
      (@pss_cons _ _ _ _ _ (ps_asg (pv 8) (pg_sub (pv 6) (pv 7) set_list))
      (pss_one (ps_for PassesOwn.never rfl (pi_range1 rfl T.z_range (pa_cons (pe_op op_sub (pe_callB call_len_seq (by rfl) T.z_len PySem.boot_len (pa_cons (pv 1) pa_nil)) pe_int) pa_nil)) (pg_name (i := 9) sc_divided_by.nd rfl (by first | exact Or.inl rfl | exact Or.inr rfl)) (pss_one (ps_asg (pe_op op_mod (pe_op op_sub (pe_ix ix_list (pv 5) (pe_op op_add (pv 7) (pv 9)) (fun _ _ => rfl)) (pe_op op_mulG (pv 8) (pe_ix ix_list (pv 1) (pv 9) (fun _ _ => rfl)))) (pv 2)) (pg_sub (pv 5) (pe_op op_add (pv 7) (pv 9)) set_list))))))))
      (pss_one (ps_ret (pe_tup (pa_cons (pv 6) (pa_cons (pe_call (ok_trimmed T) (hr.mono (by omega)) rfl T.m_trimmed T.F_trimmed.kp T.b_trimmed .nil pass0 (pa_cons (pv 5) pa_nil)) pa_nil)))))))))), ?_⟩
  have p0 : 0 < pp := by have := hp.1; omega
  refine ⟨_, rfl, p1, _, rfl, .inl h1, _, rfl, p2, _, rfl, .inl h2, ?_⟩
  rw [List.length_map, List.length_map]
  refine ⟨_, _, rfl, rfl, _, _, rfl, rfl, _, _, rfl, ?_⟩
  have hmne : ms ≠ [] := fun z => by rw [z] at lm; cases lm
  have eR : (if (0 : Int) > (ns.length : Int) - (ms.length : Int) + 1 then (0 : Int) else (ns.length : Int) - (ms.length : Int) + 1) = ((ns.length + 1 - ms.length : Nat) : Int) := by
    split <;> omega
  rw [eR]
  have bL := get_mod p0 bm (ms.length - 1)
  have eL := at_lastI hmne
  generalize hl : ms.getD (ms.length - 1) 0 = l at *
  generalize hroomE : ns.length + 1 - ms.length = room at *
  refine ⟨_, rfl, _, rfl, p2, _, _, _, rfl, rfl, h2, eL, _, rfl, spInverse_mk ⟨l, pp, rfl, ⟨hp, pmax, by omega, bL.2⟩, fun by' H0 s0 by0 by1 hby => ?_⟩⟩
  refine ⟨_, rfl, p1, _, rfl, .inl (s0.seq h1), fun pr hpr => ?_⟩
  have s1 : Same H (upd H0 pr (.lst (ns.map V.int))) := s0.trans (same_new hpr _)
  have e1 : upd H0 pr (.lst (ns.map V.int)) pr = some (.lst (ns.map V.int)) := upd_same
  have fpr : H pr = none := s0.free hpr
  generalize upd H0 pr (.lst (ns.map V.int)) = H1 at *
  refine ⟨small_len (by simp), fun pz hpz => ?_⟩
  refine ⟨_, rfl, pz, _, [V.int 0], rfl, rfl, upd_same, by omega, by omega, ?_, fun pq hpq => ?_⟩
  · rw [show ((room : Nat) : Int).toNat = room by omega]; exact small_len (by show 1 * _ ≤ _; omega)
  rw [show ((room : Nat) : Int).toNat = room by omega, rep_tab]
  have s2 : Same H1 (upd (upd H1 pz (.lst [V.int 0])) pq (.lst ((tab room fun _ => 0).map V.int))) := (same_new hpz _).trans (same_new hpq _)
  have e2 : upd (upd H1 pz (.lst [V.int 0])) pq (.lst ((tab room fun _ => 0).map V.int)) pq = some (.lst ((tab room fun _ => 0).map V.int)) := upd_same
  have fpq : H pq = none := s1.free ((same_new hpz _).free hpq)
  have npq : pr ≠ pq := ne_of_none (upd_keep (o := .lst [V.int 0]) e1 hpz) hpq
  generalize upd (upd H1 pz (.lst [V.int 0])) pq (.lst ((tab room fun _ => 0).map V.int)) = H2 at *
  have lB : (ms.map V.int).length = ms.length := List.length_map _
  refine ⟨_, rfl, _, _, rfl, rfl, _, rfl, _, rfl, _, _, _, room, rfl, ⟨by decide, by decide, down_small (by omega), down_size⟩, for_rangeS (n := room) (fun s σ Hc => ∃ (R : List Int) (hs Qf : Nat → Int) (v7 v8 v9 : Option V), (DivM pp ns ms Qf R ∧ R.length = ns.length - s ∧ (∀ x ∈ R, 0 ≤ x ∧ x < pp) ∧ (∀ i, i < room → room - s ≤ i → Qf i = hs i) ∧ (∀ i, 0 ≤ hs i ∧ hs i < pp) ∧ (∀ i, (i < room - s ∨ room ≤ i) → Qf i = 0) ∧ (0 < s → pp ∣ hs (room - 1) * l - ns.getD (ns.length - 1) 0) ∧ (s = 0 → R = ns)) ∧ Same H Hc ∧ Hc pr = some (.lst (R.map V.int)) ∧ Hc pq = some (.lst ((tab room hs).map V.int)) ∧ σ = [some (.ref p1), some (.ref p2), some (.int pp), some (.int room), some (.int by'), some (.ref pr), some (.ref pq), v7, v8, v9]) ?_ ?_ ?_⟩
  · refine ⟨ns, fun _ => 0, fun _ => 0, _, _, _, ⟨DivM.start pp ns ms, by omega, bn, fun i h1 h2 => by omega, fun _ => ⟨Int.le_refl _, p0⟩, fun _ _ => rfl, fun h => by omega, fun _ => rfl⟩, s1.trans s2, s2 _ _ e1, e2, rfl⟩
  · rintro s σ Hc hs ⟨R, hd, Qf, v7, v8, v9, ⟨dv, lR, bR, hq, hb, hz, hlast, hfirst⟩, sm, hR, hQ, rfl⟩
    have hpl : ((room : Nat) : Int) - 1 + (s : Int) * -1 = ((room - 1 - s : Nat) : Int) := by omega
    rw [hpl]
    generalize hpp : room - 1 - s = p at *
    have lR2 : R.length = p + ms.length := by omega
    have hRne : R ≠ [] := fun z => by rw [z] at lR2; simp only [List.length_nil] at lR2; omega
    obtain ⟨R0, x, rfl⟩ : ∃ R0 x, R = R0 ++ [x] := ⟨R.dropLast, R.getLast hRne, (List.dropLast_concat_getLast hRne).symm⟩
    have lR0 : R0.length = p + ms.length - 1 := by
      rw [List.length_append] at lR2
      simp only [List.length_cons, List.length_nil] at lR2
      omega
    have erv : (R0 ++ [x]).map V.int = R0.map V.int ++ [V.int x] := List.map_append
    have ex : (R0 ++ [x]).getD (p + ms.length - 1) 0 = x := by
      rw [List.getD_eq_getElem?_getD, List.getElem?_append_right (by omega), lR0, Nat.sub_self]
      rfl
    have eg : ∀ k, k < p + ms.length - 1 → (R0 ++ [x]).getD k 0 = R0.getD k 0 := fun k hk => by
      rw [List.getD_eq_getElem?_getD, List.getElem?_append_left (by omega), ← List.getD_eq_getElem?_getD]
    have bx := bR x (List.mem_append_right _ (List.mem_singleton.mpr rfl))
    have bR0 : ∀ y ∈ R0, 0 ≤ y ∧ y < pp := fun y hy => bR y (List.mem_append_left _ hy)
    refine ⟨_, rfl, .inl ⟨rfl, _, SqL.of hR⟩, pr, _, V.int x, rfl, rfl, hR, by rw [erv]; simp, ?_⟩
    rw [erv, List.dropLast_concat]
    have s3 : Same H (upd Hc pr (.lst (R0.map V.int))) := same_upd sm fpr _
    have e3 : upd Hc pr (.lst (R0.map V.int)) pr = some (.lst (R0.map V.int)) := upd_same
    have q3 : upd Hc pr (.lst (R0.map V.int)) pq = some (.lst ((tab room hd).map V.int)) := by rw [upd_ne (Ne.symm npq)]; exact hQ
    generalize upd Hc pr (.lst (R0.map V.int)) = H3 at *
    refine ⟨_, rfl, _, _, rfl, rfl, mulOk_small (by omega) (by omega), _, rfl, _, _, rfl, rfl, p0, ?_⟩
    have h0 : 0 ≤ x * by' % pp := Int.emod_nonneg _ (by omega)
    have h1' : x * by' % pp < pp := Int.emod_lt_of_pos _ p0
    have hh : pp ∣ (x * by' % pp) * l - x := by
      obtain ⟨k, hk⟩ := hby
      have e := Int.emod_add_mul_ediv (x * by') pp
      refine ⟨x * k - (x * by' / pp) * l, ?_⟩
      have : x * by' % pp = x * by' - pp * (x * by' / pp) := by omega
      rw [this]
      have e2 : by' * l = 1 + pp * k := by omega
      grind
    dsimp only
    generalize x * by' % pp = h at *
    walk_at "rd"
    refine ⟨pq, _, _, p, rfl, rfl, q3, ixN_at rfl (by rw [List.length_map, tab_len]; omega), ?_⟩
    have et := tab_set (n := room) (f := hd) (g := fun k => if k = p then h else hd k) (k := p) (by omega) (fun j _ hj => if_neg hj)
    rw [if_pos rfl] at et
    rw [et]
    have s4 : Same H (upd H3 pq (.lst ((tab room fun k => if k = p then h else hd k).map V.int))) := same_upd s3 fpq _
    have e4 : upd H3 pq (.lst ((tab room fun k => if k = p then h else hd k).map V.int)) pr = some (.lst ((tab (p + ms.length - 1) fun k => R0.getD k 0).map V.int)) := by
      rw [upd_ne npq, e3, ← lR0, tab_self]
    have q4 : upd H3 pq (.lst ((tab room fun k => if k = p then h else hd k).map V.int)) pq = some (.lst ((tab room fun k => if k = p then h else hd k).map V.int)) := upd_same
    generalize upd H3 pq (.lst ((tab room fun k => if k = p then h else hd k).map V.int)) = H4 at *
    refine ⟨_, rfl, p2, _, rfl, .inl (s4.seq h2), ?_⟩
    rw [lB]
    refine ⟨_, _, rfl, rfl, _, rfl, by omega, by omega, for_range (n := ((ms.length : Int) - 1).toNat) (fun j σ H6 => ∃ (v9 : Option V), (Same H H6 ∧ H6 pq = some (.lst ((tab room fun k => if k = p then h else hd k).map V.int))) ∧ H6 pr = some (.lst ((tab (p + ms.length - 1) fun k => if p ≤ k ∧ k < p + j then (R0.getD k 0 - h * ms.getD (k - p) 0) % pp else R0.getD k 0).map V.int)) ∧ σ = [some (.ref p1), some (.ref p2), some (.int pp), some (.int room), some (.int by'), some (.ref pr), some (.ref pq), some (.int p), some (.int h), v9]) ?_ ?_ ?_⟩
    · refine ⟨_, ⟨s4, q4⟩, ?_, rfl⟩
      rw [e4, tab_ext fun k _ => if_neg (show ¬ (p ≤ k ∧ k < p + 0) by omega)]
    · rintro j σ H6 hj ⟨v9, ⟨s6, q6⟩, e6, rfl⟩
      have ix : p + j < p + ms.length - 1 := by omega
      have a1 : atI ((tab (p + ms.length - 1) fun k => if p ≤ k ∧ k < p + j then (R0.getD k 0 - h * ms.getD (k - p) 0) % pp else R0.getD k 0).map V.int) ((p : Int) + (0 + (j : Int))) = some (.int (R0.getD (p + j) 0)) := by
        rw [at_nat (k := p + j) (by omega) (by rw [tab_len]; exact ix), tab_get ix, if_neg (by omega)]
      have a2 : atI (ms.map V.int) (0 + (j : Int)) = some (.int (ms.getD j 0)) := at_nat (by omega) (by omega)
      refine ⟨_, rfl, _, rfl, _, rfl, _, _, rfl, rfl, pr, _, _, _, rfl, rfl, SqL.of e6, a1, ?_⟩
      refine ⟨_, rfl, _, rfl, _, rfl, p2, _, _, _, rfl, rfl, s6.seq h2, a2, _, _, rfl, rfl, mulOk_small (by omega) (by omega), ?_⟩
      walk_at "rd"
      refine ⟨pr, _, _, p + j, rfl, rfl, e6, ixN_at (by omega) (by rw [List.length_map, tab_len]; exact ix), ?_⟩
      refine ⟨_, ⟨same_upd s6 fpr _, by rw [upd_ne (Ne.symm npq)]; exact q6⟩, ?_, rfl⟩
      rw [upd_same]
      have e := tab_set (n := p + ms.length - 1) (f := fun k => if p ≤ k ∧ k < p + j then (R0.getD k 0 - h * ms.getD (k - p) 0) % pp else R0.getD k 0) (g := fun k => if p ≤ k ∧ k < p + (j + 1) then (R0.getD k 0 - h * ms.getD (k - p) 0) % pp else R0.getD k 0) ix (fun k _ hk => by
        by_cases hkj : p ≤ k ∧ k < p + j
        · rw [if_pos hkj, if_pos (by omega)]
        · rw [if_neg hkj, if_neg (by omega)])
      rw [if_pos (by omega), Nat.add_sub_cancel_left] at e
      rw [← e]
    · rintro σ H6 ⟨v9, ⟨s6, q6⟩, e6, rfl⟩
      have ej : ((ms.length : Int) - 1).toNat = ms.length - 1 := by omega
      rw [ej] at e6
      refine ⟨_, fun k => if k = p then h else hd k, fun i => Qf i + if i = p then h else 0, _, _, _, ⟨dv.step lm hl.symm lR2 (R' := tab (p + ms.length - 1) fun k => if p ≤ k ∧ k < p + (ms.length - 1) then (R0.getD k 0 - h * ms.getD (k - p) 0) % pp else R0.getD k 0) (tab_len _ _) (by rw [ex]; exact hh) (fun k hk => ?_), by rw [tab_len]; omega, fun y hy => ?_, fun i h1 h2 => ?_, fun i => ?_, fun i hi' => ?_, fun _ => ?_, fun hz0 => by omega⟩, s6, e6, q6, rfl⟩
      · rw [tab_get hk, eg k hk]
        by_cases hpk : p ≤ k
        · rw [if_pos ⟨hpk, by omega⟩, if_pos hpk]
          have e := Int.emod_add_mul_ediv (R0.getD k 0 - h * ms.getD (k - p) 0) pp
          exact ⟨-((R0.getD k 0 - h * ms.getD (k - p) 0) / pp), by rw [Int.mul_neg]; omega⟩
        · rw [if_neg (by omega), if_neg hpk, Int.sub_zero, Int.sub_self]
          exact Int.dvd_zero _
      · obtain ⟨k, hk, rfl⟩ := tab_mem hy
        split
        · exact ⟨Int.emod_nonneg _ (by omega), Int.emod_lt_of_pos _ p0⟩
        · exact get_mod p0 bR0 k
      · show Qf i + (if i = p then h else 0) = if i = p then h else hd i
        by_cases hip : i = p
        · rw [if_pos hip, if_pos hip, hz i (by omega), Int.zero_add]
        · rw [if_neg hip, if_neg hip, hq i h1 (by omega), Int.add_zero]
      · show 0 ≤ (if i = p then h else hd i) ∧ (if i = p then h else hd i) < pp
        split
        · exact ⟨h0, h1'⟩
        · exact hb i
      · show Qf i + (if i = p then h else 0) = 0
        rw [if_neg (by omega), hz i (by omega)]
        rfl
      · show pp ∣ (if room - 1 = p then h else hd (room - 1)) * l - _
        by_cases hs0 : s = 0
        · have e := hfirst hs0
          rw [if_pos (by omega), ← e, List.length_append]
          show pp ∣ h * l - (R0 ++ [x]).getD (R0.length + 1 - 1) 0
          rw [Nat.add_sub_cancel, lR0, ex]
          exact hh
        · rw [if_neg (by omega)]
          exact hlast (by omega)
  · rintro σ Hc ⟨R, hs, Qf, v7, v8, v9, ⟨dv, lR, bR, hq, hb, hz, hlast, _⟩, sm, hR, hQ, rfl⟩
    refine ⟨_, rfl, _, rfl, pr, R, rfl, SqL.of hR, by omega, fun pt ts H7 s7 f7 e7 tr => ?_⟩
    refine ⟨small_len (by simp), fun pk hpk => ?_⟩
    have s8 := same_new (H := H7) hpk (.tup [.ref pq, .ref pt])
    have tl := trim_len tr
    have eqf : ∀ i, Qf i = (tab room hs).getD i 0 := fun i => by
      rw [tab_co]
      by_cases hi : i < room
      · rw [if_pos hi, hq i hi (by omega)]
      · rw [if_neg hi, hz i (by omega)]
    refine q pk pq pt (tab room hs) ts _ (sm.trans (s7.trans s8)) ((sm.trans s7).free hpk) fpq (sm.free f7) upd_same (s8 _ _ (s7 _ _ hQ)) (s8 _ _ e7) ⟨by rw [tab_len]; omega, by omega, fun k => ?_, fun y hy => ?_, fun y hy => bR y (tr.mem y hy), ?_, tr.last⟩
    · have := dv k
      rw [show Qf = fun i => (tab room hs).getD i 0 from funext eqf] at this
      rw [trim_co tr]
      exact this
    · obtain ⟨k, hk, rfl⟩ := tab_mem hy
      exact hb k
    · by_cases hr0 : room = 0
      · left
        rw [hr0]
        rfl
      · right
        rw [tab_len, tab_get (by omega)]
        intro z
        have := hlast (by omega)
        rw [z, Int.zero_mul, Int.zero_sub] at this
        have nn : ns.getD (ns.length - 1) 0 ≠ 0 := by
          rcases nzn with e | e
          · rw [e] at hroomE
            simp only [List.length_nil] at hroomE
            omega
          · exact e
        have bb := get_mod p0 bn (ns.length - 1)
        have := Int.le_of_dvd (by omega) (Int.dvd_neg.mp this)
        omega
end

end Toy

set_option Elab.async false
set_option linter.all false
set_option maxRecDepth 100000
set_option maxHeartbeats 4000000
namespace Toy
open PySem L2 Num
local macro_rules | `(tactic| walk_at "hp") => `(tactic| first
  | assumption
  | exact upd_same
  | exact upd_keep (by walk_at "hp") (by assumption)
  | (rw [upd_ne (by first | assumption | exact Ne.symm (by assumption))]; walk_at "hp")
  | exact Same.get (by assumption) (by walk_at "hp"))
local macro_rules | `(tactic| walk_at "side") => `(tactic| first
  | exact mulOk_small (by omega) (by omega)
  | exact mulOk_smallR (by omega) (by omega)
  | exact cdivP_small (by omega) (by omega)
  | exact cpow_small (by decide) (by decide) (by decide)
  | (show (0 : Int) < _; omega)
  | (with_reducible show _ ≤ sizeLine; exact small_len (by simp only [List.length_cons, List.length_nil]; omega)))
local macro_rules | `(tactic| walk_at "rd1") => `(tactic| first
  | refine ⟨_, rfl, ?_⟩
  | refine ⟨_, _, rfl, rfl, ?_⟩
  | refine ⟨rfl, ?_⟩
  | refine ⟨_, _, rfl, ?_⟩
  | refine ⟨_, _, rfl, SqT.of (by walk_at "hp"), rfl, ?_⟩
  | refine ⟨_, _, _, _, rfl, rfl, SqL.of (by walk_at "hp"), (by assumption), ?_⟩
  | refine ⟨_, _, _, _, rfl, rfl, SqT.of (by walk_at "hp"), (by assumption), ?_⟩
  | (refine ⟨?sidegoal, ?_⟩; (case sidegoal => walk_at "side")))
local macro_rules | `(tactic| walk_at "rd") => `(tactic| repeat walk_at "rd1")

section
variable {P : Program} {w : World} {K : PySem.W.Frag} {mg : Str → Option Value} {base : Heap}
def DivIn (p : Int) (ns ms : List Int) : Prop := PrimeI p ∧ p ≤ 9973 ∧ ns.length ≤ 100 ∧ ms.length ≤ 100 ∧ (∀ x ∈ ns, 0 ≤ x ∧ x < p) ∧ (∀ x ∈ ms, 0 ≤ x ∧ x < p) ∧ (ms = [] ∨ ms.getD (ms.length - 1) 0 ≠ 0) ∧ (ns = [] ∨ ns.getD (ns.length - 1) 0 ≠ 0)
def DivOut (p : Int) (ns ms qs rs : List Int) : Prop := qs.length ≤ ns.length ∧ rs.length < ms.length ∧ DivM p ns ms (fun i => qs.getD i 0) rs ∧ (∀ x ∈ qs, 0 ≤ x ∧ x < p) ∧ (∀ x ∈ rs, 0 ≤ x ∧ x < p) ∧ (qs = [] ∨ qs.getD (qs.length - 1) 0 ≠ 0) ∧ (rs = [] ∨ rs.getD (rs.length - 1) 0 ≠ 0)
def DivEnd (Q : VK) (H : Hp) (p : Int) (ns ms : List Int) : Prop := ∀ (pt pq pr : Addr) (qs rs : List Int) (H' : Hp), Same H H' → H pt = none → H pq = none → H pr = none → H' pt = some (.tup [.ref pq, .ref pr]) → H' pq = some (.lst (qs.map V.int)) → H' pr = some (.lst (rs.map V.int)) → DivOut p ns ms qs rs → Q (.ref pt) H'
@[irreducible] def spRestE (T : Tx K mg) : Sp := fun vs H Q E => ∃ (p1 p2 : Addr) (ns ms : List Int) (p : Int), vs = [.ref p1, .ref p2, .int p] ∧ SqL K H p1 (ns.map V.int) ∧ SqL K H p2 (ms.map V.int) ∧ DivIn p ns ms ∧ ((ms = [] ∧ ∀ H', Same H H' → E (.ref T.C_NoNumber) none H') ∨ (ms ≠ [] ∧ DivEnd Q H p ns ms))
theorem spRestE_mk {T : Tx K mg} {vs : List V} {H : Hp} {Q : VK} {E : XK} (h : ∃ (p1 p2 : Addr) (ns ms : List Int) (p : Int), vs = [.ref p1, .ref p2, .int p] ∧ SqL K H p1 (ns.map V.int) ∧ SqL K H p2 (ms.map V.int) ∧ DivIn p ns ms ∧ ((ms = [] ∧ ∀ H', Same H H' → E (.ref T.C_NoNumber) none H') ∨ (ms ≠ [] ∧ DivEnd Q H p ns ms))) : spRestE T vs H Q E := by
  unfold spRestE
  exact h
theorem dints_nil {ns : List Int} : dInts ns = dInts [] ↔ ns = [] := by
  constructor
  · intro h
    cases ns with
    | nil => rfl
    | cons a b => cases h
  · rintro rfl
    rfl
theorem ok_rest_divided (T : Tx K mg) : FnOk P w K mg base (CX1 P w) 4 T.f_rest_divided T.fd_rest_divided ["one", "other", "prime"] (spRestE T) := by
  refine T.F_rest_divided.okE sc_rest_divided (fun vs H Q E h => ?_) (fun cdv A outer s H vs Q E hr h => ?_)
  · unfold spRestE at h
    obtain ⟨p1, p2, ns, ms, p, rfl, _⟩ := h
    rfl
  unfold spRestE at h
  obtain ⟨p1, p2, ns, ms, p, rfl, h1, h2, ⟨pp, pm, ln, lm, bn, bm, zm, zn⟩, h⟩ := h
  refine ⟨_, (@pss_cons _ _ _ _ _ (ps_if (pt_cmpR (op_eqT hr.units) (pv 1) (pe_lst pa_nil) (nomark _)) (pss_one (ps_raise raiser1 rfl rfl T.c_NoNumber T.e_NoNumber (pa_cons pe_str pa_nil))) pss_nil)
      (pss_one (PS.nox (ps_ret (pe_call (ok_divided_by T) (hr.mono (by omega)) rfl T.m_divided_by T.F_divided_by.kp T.b_divided_by .nil pass0 (pa_cons (pv 0) (pa_cons (pv 1) (pa_cons (pv 2) pa_nil)))))))), ?_⟩
  walk_at "rd"
  intro pe hpe
  have s1 : Same H (upd H pe (.lst [])) := same_new hpe _
  have t1 : TreeI (dInts ms) := ⟨(tr_ints ms).1, Nat.le_trans (tr_ints ms).2 (by decide)⟩
  have t2 : TreeI (dInts []) := ⟨(tr_ints []).1, Nat.le_trans (tr_ints []).2 (by decide)⟩
  refine ⟨dInts ms, dInts [], dt_lst (s1.seq h2) (dt_ints ms), dt_lst (SqL.of upd_same) (dt_ints []), ⟨t1, t2⟩, fun b hb => ?_⟩
  generalize upd H pe (.lst []) = H1 at *
  rcases h with ⟨e, q⟩ | ⟨e, q⟩
  · cases hb.mpr (dints_nil.mpr e)
    walk_at "rd"
    exact q _ s1
  · have hb' : b = false := by
      cases b with
      | false => rfl
      | true => exact absurd (dints_nil.mp (hb.mp rfl)) e
    subst hb'
    walk_at "rd"
    refine spDivBy_mk ⟨p1, p2, ns, ms, p, rfl, s1.seq h1, s1.seq h2, ⟨pp, pm, List.length_pos_iff.mpr e, ln, lm, bn, bm, zm.resolve_left e, zn⟩, fun pt pq pr qs rs H' s2 f1 f2 f3 e1 e2 e3 d => ?_⟩
    exact q pt pq pr qs rs H' (s1.trans s2) (s1.free f1) (s1.free f2) (s1.free f3) e1 e2 e3 d
@[irreducible] def spRest0 (K : PySem.W.Frag) : Sp := fun vs H Q _ => ∃ (p1 p2 : Addr) (ns ms : List Int) (p : Int), vs = [.ref p1, .ref p2, .int p] ∧ SqL K H p1 (ns.map V.int) ∧ SqL K H p2 (ms.map V.int) ∧ DivIn p ns ms ∧ ms ≠ [] ∧ DivEnd Q H p ns ms
theorem spRest0_mk {vs : List V} {H : Hp} {Q : VK} {E : XK} (h : ∃ (p1 p2 : Addr) (ns ms : List Int) (p : Int), vs = [.ref p1, .ref p2, .int p] ∧ SqL K H p1 (ns.map V.int) ∧ SqL K H p2 (ms.map V.int) ∧ DivIn p ns ms ∧ ms ≠ [] ∧ DivEnd Q H p ns ms) : spRest0 K vs H Q E := by
  unfold spRest0
  exact h
theorem ok_rest_divided0 (T : Tx K mg) : FnOk P w K mg base CX0 4 T.f_rest_divided T.fd_rest_divided ["one", "other", "prime"] (spRest0 K) := by
  refine (FnOk.noerr (ok_rest_divided T)).imp fun vs H Q E h => ?_
  unfold spRest0 at h
  obtain ⟨p1, p2, ns, ms, p, rfl, h1, h2, hb, nz, q⟩ := h
  exact spRestE_mk ⟨p1, p2, ns, ms, p, rfl, h1, h2, hb, .inr ⟨nz, q⟩⟩
@[irreducible] def spAsked (T : Tx K mg) : Sp := fun vs H Q _ => ∃ (p1 p2 : Addr) (ns ms : List Int) (p : Int), vs = [.ref p1, .ref p2, .int p] ∧ SqL K H p1 (ns.map V.int) ∧ SqL K H p2 (ms.map V.int) ∧ DivIn p ns ms ∧ ((ms = [] ∧ ∀ (pk a : Addr) (H' : Hp), Same H H' → H' pk = some (.tup [.non, .ref a]) → H' a = some (errO a T.C_NoNumber) → Q (.ref pk) H') ∨
  (ms ≠ [] ∧ ∀ (pk pt pq pr : Addr) (qs rs : List Int) (H' : Hp), Same H H' → H pq = none → H pr = none → H' pk = some (.tup [.ref pt, .non]) → H' pt = some (.tup [.ref pq, .ref pr]) → H' pq = some (.lst (qs.map V.int)) → H' pr = some (.lst (rs.map V.int)) → DivOut p ns ms qs rs → Q (.ref pk) H'))
theorem spAsked_mk {T : Tx K mg} {vs : List V} {H : Hp} {Q : VK} {E : XK} (h : ∃ (p1 p2 : Addr) (ns ms : List Int) (p : Int), vs = [.ref p1, .ref p2, .int p] ∧ SqL K H p1 (ns.map V.int) ∧ SqL K H p2 (ms.map V.int) ∧ DivIn p ns ms ∧ ((ms = [] ∧ ∀ (pk a : Addr) (H' : Hp), Same H H' → H' pk = some (.tup [.non, .ref a]) → H' a = some (errO a T.C_NoNumber) → Q (.ref pk) H') ∨
  (ms ≠ [] ∧ ∀ (pk pt pq pr : Addr) (qs rs : List Int) (H' : Hp), Same H H' → H pq = none → H pr = none → H' pk = some (.tup [.ref pt, .non]) → H' pt = some (.tup [.ref pq, .ref pr]) → H' pq = some (.lst (qs.map V.int)) → H' pr = some (.lst (rs.map V.int)) → DivOut p ns ms qs rs → Q (.ref pk) H'))) : spAsked T vs H Q E := by
  unfold spAsked
  exact h
theorem ok_asked (T : Tx K mg) : FnOk P w K mg base CX0 5 T.f_asked T.fd_asked ["_law_one", "_law_other", "_law_prime_here"] (spAsked T) := by
  refine T.F_asked.ok sc_asked (fun vs H Q E h => ?_) (fun cdv A outer s H vs Q E hr h => ?_)
  · unfold spAsked at h
    obtain ⟨p1, p2, ns, ms, p, rfl, _⟩ := h
    rfl
  unfold spAsked at h
  obtain ⟨p1, p2, ns, ms, p, rfl, h1, h2, hd, h⟩ := h
  refine ⟨_, (@pss_cons _ _ _ _ _ (ps_set (i := 3) sc_asked.nd rfl (by first | exact Or.inl rfl | exact Or.inr rfl) pe_non)
      (@pss_cons _ _ _ _ _ (ps_set (i := 4) sc_asked.nd rfl (by first | exact Or.inl rfl | exact Or.inr rfl) pe_non)
      (@pss_cons _ _ _ _ _ (ps_tryA (j := 3) (i := 5) ⟨rfl, rfl⟩ sc_asked.nd rfl (by first | exact Or.inl rfl | exact Or.inr rfl) rfl rfl rfl T.c_HouseError T.e_HouseError (px_call (ok_rest_divided T) (hr.mono (by omega)) rfl T.m_rest_divided T.F_rest_divided.kp T.b_rest_divided (pa_cons (pv 0) (pa_cons (pv 1) (pa_cons (pv 2) pa_nil)))) (fun _ => (pss_one (ps_set (i := 4) sc_asked.nd rfl (by first | exact Or.inl rfl | exact Or.inr rfl) (pv 5)))))
      (pss_one (ps_ret (pe_tup (pa_cons (pv 3) (pa_cons (pv 4) pa_nil)))))))), ?_⟩
  walk_at "rd"
  refine spRestE_mk ⟨p1, p2, ns, ms, p, rfl, h1, h2, hd, ?_⟩
  rcases h with ⟨z, q⟩ | ⟨nz, q⟩
  · refine .inl ⟨z, fun H1 s1 => ?_⟩
    refine ⟨_, rfl, T.e_NoNumber, T.u_NoNumber_HouseError, fun a ha => ?_⟩
    walk_at "rd"
    intro pk hpk
    exact q pk a _ (s1.trans ((same_new ha _).trans (same_new hpk _))) upd_same (upd_keep upd_same hpk)
  · refine .inr ⟨nz, fun pt pq pr qs rs H' s1 f1 f2 f3 e1 e2 e3 d => ?_⟩
    walk_at "rd"
    intro pk hpk
    have s2 := same_new (H := H') hpk (.tup [.ref pt, .non])
    exact q pk pt pq pr qs rs _ (s1.trans s2) f2 f3 upd_same (s2 _ _ e1) (s2 _ _ e2) (s2 _ _ e3) d
@[irreducible] def spRefused (T : Tx K mg) : Sp := fun vs H Q _ => ∃ (a : Addr), vs = [.ref a] ∧ H a = some (errO a T.C_NoNumber) ∧ ∀ H', Same H H' → Q (.bl true) H'
theorem spRefused_mk {T : Tx K mg} {vs : List V} {H : Hp} {Q : VK} {E : XK} (h : ∃ (a : Addr), vs = [.ref a] ∧ H a = some (errO a T.C_NoNumber) ∧ ∀ H', Same H H' → Q (.bl true) H') : spRefused T vs H Q E := by
  unfold spRefused
  exact h
theorem kit_any (T : Tx K mg) : PySem.W.kitAny K (.ref T.C_NoNumber) ([T.C_NoLine, T.C_NoRoot, T.C_NoRow, T.C_NoText, T.C_NoValue, T.C_TooFar].map Value.ref) = some false := by
  simp only [List.map_cons, List.map_nil, PySem.W.kitAny, T.k_NoNumber_NoLine, T.k_NoNumber_NoRoot, T.k_NoNumber_NoRow, T.k_NoNumber_NoText, T.k_NoNumber_NoValue, T.k_NoNumber_TooFar]
theorem ok_refused (T : Tx K mg) : FnOk P w K mg base CX0 1 T.f_refused T.fd_refused ["_law_caught"] (spRefused T) := by
  refine T.F_refused.ok sc_refused (fun vs H Q E h => ?_) (fun cdv A outer s H vs Q E hr h => ?_)
  · unfold spRefused at h
    obtain ⟨a, rfl, _⟩ := h
    rfl
  unfold spRefused at h
  obtain ⟨a, rfl, ha, q⟩ := h
  refine ⟨_, (@pss_cons _ _ _ _ _ (ps_if (pt_val (pe_callB call_isErrT (by rfl) T.z_isinstance (by rfl) (pa_cons (pv 0) (pa_cons (pe_tup (pa_cons (pe_glob (v := .ref T.C_NoLine) rfl T.c_NoLine rfl) (pa_cons (pe_glob (v := .ref T.C_NoRoot) rfl T.c_NoRoot rfl) (pa_cons (pe_glob (v := .ref T.C_NoRow) rfl T.c_NoRow rfl) (pa_cons (pe_glob (v := .ref T.C_NoText) rfl T.c_NoText rfl) (pa_cons (pe_glob (v := .ref T.C_NoValue) rfl T.c_NoValue rfl) (pa_cons (pe_glob (v := .ref T.C_TooFar) rfl T.c_TooFar rfl) pa_nil))))))) pa_nil star_tup)))) (pss_one (ps_ret pe_bl)) pss_nil)
      (pss_one (ps_ret (pe_and (pe_callB call_isErr (by rfl) T.z_isinstance (by rfl) (pa_cons (pv 0) (pa_cons (pe_glob (v := .ref T.C_NoNumber) rfl T.c_NoNumber rfl) pa_nil))) (pe_one (pe_callB call_isErr (by rfl) T.z_isinstance (by rfl) (pa_cons (pv 0) (pa_cons (pe_bltn (v := .ty "ValueError") (u := .type "ValueError") (by rfl) T.z_ValueError (by rfl) rfl) pa_nil)))))))), ?_⟩
  refine ⟨_, rfl, small_len (by simp), fun tp htp => ?_⟩
  have s1 := same_new (H := H) htp (.tup [.ref T.C_NoLine, .ref T.C_NoRoot, .ref T.C_NoRow, .ref T.C_NoText, .ref T.C_NoValue, .ref T.C_TooFar])
  refine ⟨a, T.C_NoNumber, tp, [T.C_NoLine, T.C_NoRoot, T.C_NoRow, T.C_NoText, T.C_NoValue, T.C_TooFar], _, rfl, s1 _ _ ha, T.e_NoNumber, SqT.of upd_same, kit_any T, ?_⟩
  have ha1 := s1 _ _ ha
  generalize upd H tp _ = H1 at *
  refine ⟨_, rfl, ?_⟩
  refine ⟨_, rfl, a, _, _, _, _, rfl, ha1, T.e_NoNumber, .own _, T.k_NoNumber_NoNumber, ?_⟩
  refine ⟨_, rfl, ?_⟩
  refine ⟨_, rfl, a, _, _, _, _, rfl, ha1, T.e_NoNumber, .ty _, T.k_NoNumber_ValueError, ?_⟩
  exact q _ s1
end

end Toy

set_option Elab.async false
set_option linter.all false
set_option maxRecDepth 100000
set_option maxHeartbeats 4000000
namespace Toy
open PySem L2 Num
local macro_rules | `(tactic| walk_at "hp") => `(tactic| first
  | assumption
  | exact upd_same
  | exact upd_keep (by walk_at "hp") (by assumption)
  | (rw [upd_ne (by first | assumption | exact Ne.symm (by assumption))]; walk_at "hp")
  | exact Same.get (by assumption) (by walk_at "hp"))
local macro_rules | `(tactic| walk_at "side") => `(tactic| first
  | exact mulOk_small (by omega) (by omega)
  | exact mulOk_smallR (by omega) (by omega)
  | exact cdivP_small (by omega) (by omega)
  | exact cpow_small (by decide) (by decide) (by decide)
  | (show (0 : Int) < _; omega)
  | (with_reducible show _ ≤ sizeLine; exact small_len (by simp only [List.length_cons, List.length_nil]; omega)))
local macro_rules | `(tactic| walk_at "rd1") => `(tactic| first
  | refine ⟨_, rfl, ?_⟩
  | refine ⟨_, _, rfl, rfl, ?_⟩
  | refine ⟨rfl, ?_⟩
  | refine ⟨_, _, rfl, ?_⟩
  | refine ⟨_, _, rfl, SqT.of (by walk_at "hp"), rfl, ?_⟩
  | refine ⟨_, _, _, _, rfl, rfl, SqL.of (by walk_at "hp"), (by assumption), ?_⟩
  | refine ⟨_, _, _, _, rfl, rfl, SqT.of (by walk_at "hp"), (by assumption), ?_⟩
  | (refine ⟨?sidegoal, ?_⟩; (case sidegoal => walk_at "side")))
local macro_rules | `(tactic| walk_at "rd") => `(tactic| repeat walk_at "rd1")

section
variable {P : Program} {w : World} {K : PySem.W.Frag} {mg : Str → Option Value} {base : Heap}
theorem prod_co {as bs ms : List Int} {m : Int} (h : if as = [] ∨ bs = [] then ms = [] else IsTrim (tab (as.length + bs.length - 1) (fun k => cf as bs as.length k % m)) ms) (k : Nat) : ms.getD k 0 = cvI (fun i => as.getD i 0) (fun i => bs.getD i 0) k % m := by
  have e : cvI (fun i => as.getD i 0) (fun i => bs.getD i 0) k = cf as bs as.length k := (cf_conv as bs k).symm
  rw [e]
  by_cases hne : as = [] ∨ bs = []
  · rw [if_pos hne] at h
    rw [h]
    have z : cf as bs as.length k = 0 := by
      rcases hne with z | z
      · rw [z]
        rfl
      · rw [cf_comm, z]
        rfl
    rw [z, Int.zero_emod]
    rfl
  · rw [if_neg hne] at h
    rw [trim_co h, tab_co]
    split
    · rfl
    · rename_i hk
      have la : 0 < as.length := List.length_pos_iff.mpr fun z => hne (.inl z)
      rw [cf_below as bs k as.length (by omega), Int.zero_emod]
theorem prod_len {as bs ms : List Int} {m : Int} (h : if as = [] ∨ bs = [] then ms = [] else IsTrim (tab (as.length + bs.length - 1) (fun k => cf as bs as.length k % m)) ms) : ms.length ≤ as.length + bs.length - 1 := by
  split at h
  · rw [h]
    exact Nat.zero_le _
  · have := trim_len h
    rw [tab_len] at this
    exact this
theorem trim_good {n : Nat} {f : Nat → Int} {m : Int} {ts : List Int} (hm : 0 < m) (h : IsTrim (tab n fun k => f k % m) ts) : (∀ x ∈ ts, 0 ≤ x ∧ x < m) ∧ (ts = [] ∨ ts.getD (ts.length - 1) 0 ≠ 0) := by
  refine ⟨fun x hx => ?_, h.last⟩
  have := h.mem x hx
  unfold tab at this
  obtain ⟨k, _, rfl⟩ := List.mem_map.mp this
  exact ⟨Int.emod_nonneg _ (by omega), Int.emod_lt_of_pos _ hm⟩
theorem prod_good {as bs ms : List Int} {m : Int} (hm : 0 < m) (h : if as = [] ∨ bs = [] then ms = [] else IsTrim (tab (as.length + bs.length - 1) (fun k => cf as bs as.length k % m)) ms) : (∀ x ∈ ms, 0 ≤ x ∧ x < m) ∧ (ms = [] ∨ ms.getD (ms.length - 1) 0 ≠ 0) := by
  split at h
  · rw [h]
    exact ⟨by simp, .inl rfl⟩
  · exact trim_good hm h
theorem set_co {F : List Int} {k : Nat} {v : Int} (h : k < F.length) (j : Nat) : (F.set k v).getD j 0 = if j = k then v else F.getD j 0 := by
  rw [List.getD_eq_getElem?_getD, List.getElem?_set]
  by_cases hj : j = k
  · rw [if_pos hj, if_pos hj.symm, if_pos (by omega)]
    rfl
  · rw [if_neg hj, if_neg (Ne.symm hj), List.getD_eq_getElem?_getD]
theorem app_co (F : List Int) (j : Nat) : (F ++ [0]).getD j 0 = F.getD j 0 := by
  rw [List.getD_eq_getElem?_getD, List.getD_eq_getElem?_getD]
  by_cases h : j < F.length
  · rw [List.getElem?_append_left h]
  · rw [List.getElem?_append_right (by omega), List.getElem?_eq_none (l := F) (by omega)]
    by_cases h2 : j - F.length = 0
    · rw [h2]
      rfl
    · rw [List.getElem?_eq_none (by simp only [List.length_cons, List.length_nil]; omega)]
@[irreducible] def spAgain (K : PySem.W.Frag) : Sp := fun vs H Q _ => ∃ (p1 p2 p3 : Addr) (qs ms rs : List Int) (m : Int), vs = [.ref p1, .ref p2, .ref p3, .int m] ∧ SqL K H p1 (qs.map V.int) ∧ SqL K H p2 (ms.map V.int) ∧ SqL K H p3 (rs.map V.int) ∧ (0 < m ∧ m ≤ 9973 ∧ qs.length ≤ 100 ∧ ms.length ≤ 100 ∧ rs.length ≤ 100 ∧ (∀ x ∈ qs, 0 ≤ x ∧ x < m) ∧ (∀ x ∈ ms, 0 ≤ x ∧ x < m) ∧ (∀ x ∈ rs, 0 ≤ x ∧ x < m)) ∧
  ∀ (p : Addr) (ks : List Int) (H' : Hp), Same H H' → H' p = some (.lst (ks.map V.int)) → (∀ j, ks.getD j 0 = (cvI (fun i => qs.getD i 0) (fun i => ms.getD i 0) j + rs.getD j 0) % m) → (ks = [] ∨ ks.getD (ks.length - 1) 0 ≠ 0) → Q (.ref p) H'
theorem spAgain_mk {vs : List V} {H : Hp} {Q : VK} {E : XK} (h : ∃ (p1 p2 p3 : Addr) (qs ms rs : List Int) (m : Int), vs = [.ref p1, .ref p2, .ref p3, .int m] ∧ SqL K H p1 (qs.map V.int) ∧ SqL K H p2 (ms.map V.int) ∧ SqL K H p3 (rs.map V.int) ∧ (0 < m ∧ m ≤ 9973 ∧ qs.length ≤ 100 ∧ ms.length ≤ 100 ∧ rs.length ≤ 100 ∧ (∀ x ∈ qs, 0 ≤ x ∧ x < m) ∧ (∀ x ∈ ms, 0 ≤ x ∧ x < m) ∧ (∀ x ∈ rs, 0 ≤ x ∧ x < m)) ∧
  ∀ (p : Addr) (ks : List Int) (H' : Hp), Same H H' → H' p = some (.lst (ks.map V.int)) → (∀ j, ks.getD j 0 = (cvI (fun i => qs.getD i 0) (fun i => ms.getD i 0) j + rs.getD j 0) % m) → (ks = [] ∨ ks.getD (ks.length - 1) 0 ≠ 0) → Q (.ref p) H') : spAgain K vs H Q E := by
  unfold spAgain
  exact h
theorem ok_again (T : Tx K mg) : FnOk P w K mg base CX0 3 T.f_again T.fd_again ["_law_quotient", "_law_other", "_law_rest", "_law_prime_here"] (spAgain K) := by
  refine T.F_again.ok sc_again (fun vs H Q E h => ?_) (fun cdv A outer s H vs Q E hr h => ?_)
  · unfold spAgain at h
    obtain ⟨p1, p2, p3, qs, ms, rs, m, rfl, _⟩ := h
    rfl
  unfold spAgain at h
  obtain ⟨p1, p2, p3, qs, ms, rs, m, rfl, h1, h2, h3, ⟨m0, m1, lq, lm, lr, bq, bm, br⟩, q⟩ := h
  refine ⟨_, (@pss_cons _ _ _ _ _ (ps_set (i := 4) sc_again.nd rfl (by first | exact Or.inl rfl | exact Or.inr rfl) (pe_call (ok_product T) (hr.mono (by omega)) rfl T.m_product T.F_product.kp T.b_product .nil pass0 (pa_cons (pv 0) (pa_cons (pv 1) (pa_cons (pv 3) pa_nil)))))
      (@pss_cons _ _ _ _ _ (ps_for PassesOwn.never rfl (pi_range1 rfl T.z_range (pa_cons (pe_callB call_len_seq (by rfl) T.z_len PySem.boot_len (pa_cons (pv 2) pa_nil)) pa_nil)) (pg_name (i := 5) sc_again.nd rfl (by first | exact Or.inl rfl | exact Or.inr rfl)) (pss_cut (ps_if (pt_cmpR op_eq (pv 5) (pe_callB call_len_seq (by rfl) T.z_len PySem.boot_len (pa_cons (pv 4) pa_nil)) (nomark _)) (pss_one (ps_expr (pe_bm PySem.F.plainAttrs_list PySem.F.slot_list_append PySem.F.type_list_append mt_append (pv 4) (pa_cons pe_int pa_nil)))) pss_nil)
      (pss_one (ps_asg (pe_op op_mod (pe_op op_add (pe_ix ix_list (pv 4) (pv 5) (fun _ _ => rfl)) (pe_ix ix_list (pv 2) (pv 5) (fun _ _ => rfl))) (pv 3)) (pg_sub (pv 4) (pv 5) set_list)))))
      (pss_one (ps_ret (pe_call (ok_cut T) (hr.mono (by omega)) rfl T.m_cut T.F_cut.kp T.b_cut .nil pass0 (pa_cons (pv 4) pa_nil)))))), ?_⟩
  refine ⟨_, rfl, _, rfl, _, rfl, ?_⟩
  refine ⟨p1, p2, qs, ms, m, rfl, h1, h2, ⟨m0, lq, lm, fun x hx => by have := bq x hx; omega, fun x hx => by have := bm x hx; omega⟩, fun pf fs H1 s1 f1 e1 tr => ?_⟩
  have co := prod_co tr
  have pl := prod_len tr
  have gd := prod_good m0 tr
  have lR : (rs.map V.int).length = rs.length := List.length_map _
  refine ⟨_, rfl, p3, _, rfl, .inl (s1.seq h3), ?_⟩
  rw [lR]
  refine ⟨_, rfl, by omega, by omega, for_range (n := rs.length) (fun i σ H2 => ∃ (F : List Int) (v5 : Option V), (F.length = max fs.length i ∧ ∀ j, F.getD j 0 = if j < i then (fs.getD j 0 + rs.getD j 0) % m else fs.getD j 0) ∧ Same H H2 ∧ H2 pf = some (.lst (F.map V.int)) ∧ σ = [some (.ref p1), some (.ref p2), some (.ref p3), some (.int m), some (.ref pf), v5]) ?_ ?_ ?_⟩
  · exact ⟨fs, _, ⟨by omega, fun j => by rw [if_neg (by omega)]⟩, s1, e1, rfl⟩
  · rintro i σ H2 hi ⟨F, v5, ⟨lF, cF⟩, sm, hF, rfl⟩
    have lF2 : (F.map V.int).length = F.length := List.length_map _
    refine ⟨fun σ' H' => ∃ (G : List Int), (i < G.length ∧ G.length = max fs.length (i + 1) ∧ ∀ j, G.getD j 0 = F.getD j 0) ∧ Same H H' ∧ H' pf = some (.lst (G.map V.int)) ∧ σ' = [some (.ref p1), some (.ref p2), some (.ref p3), some (.int m), some (.ref pf), some (.int (0 + (i : Int)))], ?_, ?_⟩
    · refine ⟨_, rfl, _, rfl, pf, _, rfl, .inl (SqL.of hF), ?_⟩
      rw [lF2]
      walk_at "rd"
      refine itd (fun hz => ?_) (fun hz => ?_)
      · have hz' : 0 + (i : Int) = (F.length : Int) := V.int.inj hz
        refine ⟨_, rfl, .inl ⟨rfl, _, SqL.of hF⟩, pf, _, _, rfl, rfl, hF, by rw [lF2]; exact small1000 (by omega), ?_⟩
        refine ⟨F ++ [0], ⟨by rw [List.length_append]; show i < F.length + 1; omega, by rw [List.length_append]; show F.length + 1 = _; omega, app_co F⟩, same_upd sm f1 _, ?_, rfl⟩
        rw [upd_same, List.map_append]
        rfl
      · have hz' : ¬ 0 + (i : Int) = (F.length : Int) := fun z => hz (congrArg V.int z)
        exact ⟨F, ⟨by omega, by omega, fun _ => rfl⟩, sm, hF, rfl⟩
    rintro σ' H3 ⟨G, ⟨lG, lG2, cG⟩, sm3, hG, rfl⟩
    have a1 : atI (G.map V.int) (0 + (i : Int)) = some (.int (G.getD i 0)) := at_nat (by omega) lG
    have a2 : atI (rs.map V.int) (0 + (i : Int)) = some (.int (rs.getD i 0)) := at_nat (by omega) hi
    refine ⟨_, rfl, _, rfl, pf, _, _, _, rfl, rfl, SqL.of hG, a1, _, rfl, _, rfl, p3, _, _, _, rfl, rfl, sm3.seq h3, a2, ?_⟩
    walk_at "rd"
    refine ⟨pf, _, _, i, rfl, rfl, hG, ixN_at (by omega) (by rw [List.length_map]; exact lG), ?_⟩
    refine ⟨G.set i ((G.getD i 0 + rs.getD i 0) % m), _, ⟨by rw [List.length_set]; exact lG2, fun j => ?_⟩, same_upd sm3 f1 _, ?_, rfl⟩
    · rw [set_co lG, cG, cG, cF, cF]
      by_cases hj : j = i
      · subst hj
        rw [if_pos rfl, if_neg (by omega), if_pos (by omega)]
      · rw [if_neg hj]
        by_cases hj2 : j < i
        · rw [if_pos hj2, if_pos (by omega)]
        · rw [if_neg hj2, if_neg (by omega)]
    · rw [upd_same, List.map_set]
  · rintro σ H2 ⟨F, v5, ⟨lF, cF⟩, sm, hF, rfl⟩
    refine ⟨_, rfl, pf, F, rfl, SqL.of hF, by omega, fun p ks H3 s3 f3 h3' tr3 => ?_⟩
    refine q p ks H3 (sm.trans s3) h3' (fun j => ?_) tr3.last
    rw [trim_co tr3, cF, co]
    by_cases hj : j < rs.length
    · rw [if_pos hj, Int.emod_add_emod]
    · rw [if_neg hj, outI (ns := rs) (by omega), Int.add_zero]
end

end Toy

set_option Elab.async false
set_option linter.all false
set_option maxRecDepth 100000
set_option maxHeartbeats 4000000
namespace Toy
open PySem L2 Num
local macro_rules | `(tactic| walk_at "hp") => `(tactic| first
  | assumption
  | exact upd_same
  | exact upd_keep (by walk_at "hp") (by assumption)
  | (rw [upd_ne (by first | assumption | exact Ne.symm (by assumption))]; walk_at "hp")
  | exact Same.get (by assumption) (by walk_at "hp"))
local macro_rules | `(tactic| walk_at "side") => `(tactic| first
  | exact mulOk_small (by omega) (by omega)
  | exact mulOk_smallR (by omega) (by omega)
  | exact cdivP_small (by omega) (by omega)
  | exact cpow_small (by decide) (by decide) (by decide)
  | (show (0 : Int) < _; omega)
  | (with_reducible show _ ≤ sizeLine; exact small_len (by simp only [List.length_cons, List.length_nil]; omega)))
local macro_rules | `(tactic| walk_at "rd1") => `(tactic| first
  | refine ⟨_, rfl, ?_⟩
  | refine ⟨_, _, rfl, rfl, ?_⟩
  | refine ⟨rfl, ?_⟩
  | refine ⟨_, _, rfl, ?_⟩
  | refine ⟨_, _, rfl, SqT.of (by walk_at "hp"), rfl, ?_⟩
  | refine ⟨_, _, _, _, rfl, rfl, SqL.of (by walk_at "hp"), (by assumption), ?_⟩
  | refine ⟨_, _, _, _, rfl, rfl, SqT.of (by walk_at "hp"), (by assumption), ?_⟩
  | (refine ⟨?sidegoal, ?_⟩; (case sidegoal => walk_at "side")))
local macro_rules | `(tactic| walk_at "rd") => `(tactic| repeat walk_at "rd1")

section
variable {P : Program} {w : World} {K : PySem.W.Frag} {mg : Str → Option Value} {base : Heap}
theorem dt_two {X : Cx} {H : Hp} {ph pa pb : Addr} {as bs : List Int} (h : SqL X.K H ph [.ref pa, .ref pb]) (h1 : SqL X.K H pa (as.map V.int)) (h2 : SqL X.K H pb (bs.map V.int)) : Dt X H (.ref ph) (.list [dInts as, dInts bs]) :=
  dt_lst h (.cons (dt_lst h1 (dt_ints as)) (.cons (dt_lst h2 (dt_ints bs)) .nil))
theorem dt_twoT {X : Cx} {H : Hp} {ph pa pb : Addr} {as bs : List Int} (h : SqT X.K H ph [.ref pa, .ref pb]) (h1 : SqL X.K H pa (as.map V.int)) (h2 : SqL X.K H pb (bs.map V.int)) : Dt X H (.ref ph) (.tuple [dInts as, dInts bs]) :=
  dt_tup h (.cons (dt_lst h1 (dt_ints as)) (.cons (dt_lst h2 (dt_ints bs)) .nil))
theorem tr_two (as bs : List Int) : TreeI (.list [dInts as, dInts bs]) := by
  have := tr_list (n := 1) (xs := [dInts as, dInts bs]) fun x hx => by
    simp only [List.mem_cons, List.not_mem_nil, or_false] at hx
    rcases hx with rfl | rfl
    · exact tr_ints _
    · exact tr_ints _
  exact ⟨this.1, Nat.le_trans this.2 (by decide)⟩
theorem tr_twoT (as bs : List Int) : TreeI (.tuple [dInts as, dInts bs]) := by
  have := tr_tup (n := 1) (xs := [dInts as, dInts bs]) fun x hx => by
    simp only [List.mem_cons, List.not_mem_nil, or_false] at hx
    rcases hx with rfl | rfl
    · exact tr_ints _
    · exact tr_ints _
  exact ⟨this.1, Nat.le_trans this.2 (by decide)⟩
theorem tr_one (as : List Int) : TreeI (dInts as) := ⟨(tr_ints as).1, Nat.le_trans (tr_ints as).2 (by decide)⟩
/-- quotient times divisor and the rest, cut, is the row that was divided -/
theorem again_eq {m : Int} {ns ms qs rs ks : List Int} (m0 : 0 < m) (bn : ∀ x ∈ ns, 0 ≤ x ∧ x < m) (zn : ns = [] ∨ ns.getD (ns.length - 1) 0 ≠ 0) (d : DivM m ns ms (fun i => qs.getD i 0) rs)
    (hk : ∀ j, ks.getD j 0 = (cvI (fun i => qs.getD i 0) (fun i => ms.getD i 0) j + rs.getD j 0) % m) (zk : ks = [] ∨ ks.getD (ks.length - 1) 0 ≠ 0) : ks = ns := by
  refine ext_coI zk zn fun j => ?_
  rw [hk]
  have e := d j
  generalize cvI (fun i => qs.getD i 0) (fun i => ms.getD i 0) j + rs.getD j 0 = c at *
  have b := get_mod m0 bn j
  refine mod_eq ⟨Int.emod_nonneg _ (by omega), Int.emod_lt_of_pos _ m0⟩ b ?_
  have e2 := Int.emod_add_mul_ediv c m
  obtain ⟨k, hk⟩ := e
  refine ⟨-(c / m) - k, ?_⟩
  rw [Int.mul_sub, Int.mul_neg]
  omega
@[irreducible] def spRight (K : PySem.W.Frag) : Sp := fun vs H Q _ => ∃ (p1 p2 : Addr) (as bs : List Int) (m : Int), vs = [.ref p1, .ref p2, .int m] ∧ H p1 = some (.lst (as.map V.int)) ∧ H p2 = some (.lst (bs.map V.int)) ∧ DivIn m as bs ∧ ∀ H', Same H H' → Q (.bl true) H'
theorem spRight_mk {vs : List V} {H : Hp} {Q : VK} {E : XK} (h : ∃ (p1 p2 : Addr) (as bs : List Int) (m : Int), vs = [.ref p1, .ref p2, .int m] ∧ H p1 = some (.lst (as.map V.int)) ∧ H p2 = some (.lst (bs.map V.int)) ∧ DivIn m as bs ∧ ∀ H', Same H H' → Q (.bl true) H') : spRight K vs H Q E := by
  unfold spRight
  exact h
theorem ok_right (T : Tx K mg) : FnOk P w K mg base CX0 6 T.f_right T.fd_right ["_law_one", "_law_other", "_law_prime_here"] (spRight K) := by
  refine T.F_right.ok sc_right (fun vs H Q E h => ?_) (fun cdv A outer s H vs Q E hr h => ?_)
  · unfold spRight at h
    obtain ⟨p1, p2, as, bs, m, rfl, _⟩ := h
    rfl
  unfold spRight at h
  obtain ⟨p1, p2, as, bs, m, rfl, h1, h2, hd, q⟩ := h
  refine ⟨_, (@pss_cons _ _ _ _ _ (ps_set (i := 3) sc_right.nd rfl (by first | exact Or.inl rfl | exact Or.inr rfl) (pe_lst (pa_cons (pe_callTy call_list_of (by rfl) T.z_list (by rfl) (pa_cons (pv 0) pa_nil)) (pa_cons (pe_callTy call_list_of (by rfl) T.z_list (by rfl) (pa_cons (pv 1) pa_nil)) pa_nil))))
      (@pss_cons _ _ _ _ _ (ps_asg (pe_call (ok_asked T) (hr.mono (by omega)) rfl T.m_asked T.F_asked.kp T.b_asked .nil pass0 (pa_cons (pe_ix ix_list (pv 3) pe_int (fun _ _ => rfl)) (pa_cons (pe_ix ix_list (pv 3) pe_int (fun _ _ => rfl)) (pa_cons (pv 2) pa_nil)))) (pg_tup rfl (pgs_cons (pg_name (i := 4) sc_right.nd rfl (by first | exact Or.inl rfl | exact Or.inr rfl)) (pgs_cons (pg_name (i := 5) sc_right.nd rfl (by first | exact Or.inl rfl | exact Or.inr rfl)) pgs_nil))))
      (@pss_cons _ _ _ _ _ (ps_if (pt_cmpR (op_neT hr.units) (pv 3) (pe_lst (pa_cons (pv 0) (pa_cons (pv 1) pa_nil))) (nomark _)) (pss_one (ps_ret pe_bl)) pss_nil)
      (@pss_cons _ _ _ _ _ (ps_if (pt_cmpR (op_eqT hr.units) (pv 1) (pe_lst pa_nil) (nomark _)) (pss_one (ps_ret (pe_call (ok_refused T) (hr.mono (by omega)) rfl T.m_refused T.F_refused.kp T.b_refused .nil pass0 (pa_cons (pv 5) pa_nil)))) pss_nil)
      (@pss_cons _ _ _ _ _ (ps_if (PW.pt (pw_or (pt_cmpR op_notN (pv 5) pe_non (nomark _)) (pw_or (pt_not (pt_val (pe_callB call_isinst (by rfl) T.z_isinstance (by rfl) (pa_cons (pv 4) (pa_cons (pe_bltn (v := .ty "tuple") (u := .type "tuple") (by rfl) T.z_tuple (by rfl) rfl) pa_nil))))) (pw_or1 (pt_cmpR op_ne (pe_callB call_len_seq (by rfl) T.z_len PySem.boot_len (pa_cons (pv 4) pa_nil)) pe_int (nomark _)))))) (pss_one (ps_ret pe_bl)) pss_nil)
      (@pss_cons _ _ _ _ _ (ps_asg (pv 4) (pg_tup rfl (pgs_cons (pg_name (i := 6) sc_right.nd rfl (by first | exact Or.inl rfl | exact Or.inr rfl)) (pgs_cons (pg_name (i := 7) sc_right.nd rfl (by first | exact Or.inl rfl | exact Or.inr rfl)) pgs_nil))))
      (@pss_cons _ _ _ _ _ (ps_if (PW.pt (pw_or (pt_not (pt_val (pe_call (ok_by T) (hr.mono (by omega)) rfl T.m_by T.F_by.kp T.b_by .nil pass0 (pa_cons (pv 6) (pa_cons (pv 2) pa_nil))))) (pw_or (pt_not (pt_val (pe_call (ok_by T) (hr.mono (by omega)) rfl T.m_by T.F_by.kp T.b_by .nil pass0 (pa_cons (pv 7) (pa_cons (pv 2) pa_nil))))) (pw_or1 (pt_cmpR op_ge (pe_callB call_len_seq (by rfl) T.z_len PySem.boot_len (pa_cons (pv 7) pa_nil)) (pe_callB call_len_seq (by rfl) T.z_len PySem.boot_len (pa_cons (pv 1) pa_nil)) (nomark _)))))) (pss_one (ps_ret pe_bl)) pss_nil)
      (@pss_cons _ _ _ _ _ (ps_if (pt_cmpR (op_neT hr.units) (pe_call (ok_again T) (hr.mono (by omega)) rfl T.m_again T.F_again.kp T.b_again .nil pass0 (pa_cons (pv 6) (pa_cons (pv 1) (pa_cons (pv 7) (pa_cons (pv 2) pa_nil))))) (pv 0) (nomark _)) (pss_one (ps_ret pe_bl)) pss_nil)
      (@pss_cons _ _ _ _ _ (ps_set (i := 8) sc_right.nd rfl (by first | exact Or.inl rfl | exact Or.inr rfl) (pe_tup (pa_cons (pe_callTy call_list_of (by rfl) T.z_list (by rfl) (pa_cons (pv 6) pa_nil)) (pa_cons (pe_callTy call_list_of (by rfl) T.z_list (by rfl) (pa_cons (pv 7) pa_nil)) pa_nil))))
      (@pss_cons _ _ _ _ _ (ps_expr (pe_bm PySem.F.plainAttrs_list PySem.F.slot_list_append PySem.F.type_list_append mt_append (pv 6) (pa_cons pe_int pa_nil)))
      (@pss_cons _ _ _ _ _ (ps_expr (pe_bm PySem.F.plainAttrs_list PySem.F.slot_list_append PySem.F.type_list_append mt_append (pv 7) (pa_cons pe_int pa_nil)))
      (pss_one (ps_ret (pe_and (pe_cmpR (op_eqT hr.units) (pv 3) (pe_lst (pa_cons (pv 0) (pa_cons (pv 1) pa_nil))) (nomark _)) (pe_one (pe_cmpR (op_eqT hr.units) (pe_call (ok_rest_divided0 T) (hr.mono (by omega)) rfl T.m_rest_divided T.F_rest_divided.kp T.b_rest_divided .nil pass0 (pa_cons (pe_ix ix_list (pv 3) pe_int (fun _ _ => rfl)) (pa_cons (pe_ix ix_list (pv 3) pe_int (fun _ _ => rfl)) (pa_cons (pv 2) pa_nil)))) (pv 8) (nomark _))))))))))))))))), ?_⟩
  obtain ⟨pp, pm, la, lb, ba, bb, zb, za⟩ := id hd
  have m0 : 0 < m := by have := pp.1; omega
  refine ⟨_, rfl, p1, _, rfl, .inl (SqL.of h1), fun pa hpa => ?_⟩
  refine ⟨_, rfl, p2, _, rfl, .inl (SqL.of (upd_keep h2 hpa)), fun pb hpb => ?_⟩
  refine ⟨small_len (by simp), fun ph hph => ?_⟩
  have s1 : Same H (upd (upd (upd H pa (.lst (as.map V.int))) pb (.lst (bs.map V.int))) ph (.lst [.ref pa, .ref pb])) := (same_new hpa _).trans ((same_new hpb _).trans (same_new hph _))
  have ea : upd (upd (upd H pa (.lst (as.map V.int))) pb (.lst (bs.map V.int))) ph (.lst [.ref pa, .ref pb]) pa = some (.lst (as.map V.int)) := upd_keep (upd_keep upd_same hpb) hph
  have eb : upd (upd (upd H pa (.lst (as.map V.int))) pb (.lst (bs.map V.int))) ph (.lst [.ref pa, .ref pb]) pb = some (.lst (bs.map V.int)) := upd_keep upd_same hph
  have eh : upd (upd (upd H pa (.lst (as.map V.int))) pb (.lst (bs.map V.int))) ph (.lst [.ref pa, .ref pb]) ph = some (.lst [.ref pa, .ref pb]) := upd_same
  generalize upd (upd (upd H pa (.lst (as.map V.int))) pb (.lst (bs.map V.int))) ph (.lst [.ref pa, .ref pb]) = H1 at *
  have t0 : atI [V.ref pa, V.ref pb] 0 = some (.ref pa) := rfl
  have t1 : atI [V.ref pa, V.ref pb] 1 = some (.ref pb) := rfl
  refine ⟨_, rfl, ph, _, _, _, rfl, rfl, SqL.of eh, t0, _, rfl, ph, _, _, _, rfl, rfl, SqL.of eh, t1, _, rfl, ?_⟩
  refine spAsked_mk ⟨pa, pb, as, bs, m, rfl, SqL.of ea, SqL.of eb, hd, ?_⟩
  by_cases hne : bs = []
  · refine .inl ⟨hne, fun pk pe H2 s2 ek ee => ?_⟩
    refine ⟨pk, _, rfl, SqT.of ek, rfl, ?_⟩
    walk_at "rd"
    intro pq hpq
    have k1 : Same H1 (upd H2 pq (.lst [.ref p1, .ref p2])) := s2.trans (same_new hpq _)
    have eq' : upd H2 pq (.lst [.ref p1, .ref p2]) pq = some (.lst [.ref p1, .ref p2]) := upd_same
    have ee3 : upd H2 pq (.lst [.ref p1, .ref p2]) pe = some (errO pe T.C_NoNumber) := upd_keep ee hpq
    generalize upd H2 pq (.lst [.ref p1, .ref p2]) = H3 at *
    refine ⟨_, _, dt_two (SqL.of (k1 _ _ eh)) (SqL.of (k1 _ _ ea)) (SqL.of (k1 _ _ eb)), dt_two (SqL.of eq') (SqL.of (k1 _ _ (s1 _ _ h1))) (SqL.of (k1 _ _ (s1 _ _ h2))), ⟨tr_two _ _, tr_two _ _⟩, fun b hb => ?_⟩
    rw [hb.mpr rfl]
    walk_at "rd"
    intro pe2 hpe2
    have s4 := same_new (H := H3) hpe2 (.lst [])
    refine ⟨dInts bs, dInts [], dt_lst ((k1.trans s4).seq (SqL.of (s1 _ _ h2))) (dt_ints bs), dt_lst (SqL.of upd_same) (dt_ints []), ⟨tr_one _, tr_one _⟩, fun b hb => ?_⟩
    cases hb.mpr (dints_nil.mpr hne)
    walk_at "rd"
    refine spRefused_mk ⟨pe, rfl, s4 _ _ ee3, fun H' s5 => q _ (s1.trans (k1.trans (s4.trans s5)))⟩
  · refine .inr ⟨hne, fun pk pt pq pr qs rs H2 s2 fq fr ek et eq er out => ?_⟩
    obtain ⟨lq, lr, dv, bq, br, zq, zr⟩ := id out
    refine ⟨pk, _, rfl, SqT.of ek, rfl, ?_⟩
    walk_at "rd"
    intro pz hpz
    have k1 : Same H1 (upd H2 pz (.lst [.ref p1, .ref p2])) := s2.trans (same_new hpz _)
    have ez : upd H2 pz (.lst [.ref p1, .ref p2]) pz = some (.lst [.ref p1, .ref p2]) := upd_same
    have et3 : upd H2 pz (.lst [.ref p1, .ref p2]) pt = some (.tup [.ref pq, .ref pr]) := upd_keep et hpz
    have eq3 : upd H2 pz (.lst [.ref p1, .ref p2]) pq = some (.lst (qs.map V.int)) := upd_keep eq hpz
    have er3 : upd H2 pz (.lst [.ref p1, .ref p2]) pr = some (.lst (rs.map V.int)) := upd_keep er hpz
    generalize upd H2 pz (.lst [.ref p1, .ref p2]) = H3 at *
    refine ⟨_, _, dt_two (SqL.of (k1 _ _ eh)) (SqL.of (k1 _ _ ea)) (SqL.of (k1 _ _ eb)), dt_two (SqL.of ez) (SqL.of (k1 _ _ (s1 _ _ h1))) (SqL.of (k1 _ _ (s1 _ _ h2))), ⟨tr_two _ _, tr_two _ _⟩, fun b hb => ?_⟩
    rw [hb.mpr rfl]
    walk_at "rd"
    intro pe2 hpe2
    have s4 := same_new (H := H3) hpe2 (.lst [])
    refine ⟨dInts bs, dInts [], dt_lst ((k1.trans s4).seq (SqL.of (s1 _ _ h2))) (dt_ints bs), dt_lst (SqL.of upd_same) (dt_ints []), ⟨tr_one _, tr_one _⟩, fun b hb => ?_⟩
    have hb' : b = false := by
      cases b with
      | false => rfl
      | true => exact absurd (dints_nil.mp (hb.mp rfl)) hne
    subst hb'
    generalize upd H3 pe2 (.lst []) = H4 at *
    have k4 : Same H1 H4 := k1.trans s4
    have et4 := s4 _ _ et3
    have eq4 := s4 _ _ eq3
    have er4 := s4 _ _ er3
    walk_at "rd"
    refine ⟨_, _, _, _, rfl, .tup et4, kit_self _ _, ?_⟩
    walk_at "rd"
    refine ⟨pt, _, rfl, .inr (SqT.of et4), ?_⟩
    walk_at "rd"
    refine ⟨pq, qs, m, rfl, eq4, ⟨bq, zq⟩, fun H5 s5 => ?_⟩
    walk_at "rd"
    refine ⟨pr, rs, m, rfl, s5 _ _ er4, ⟨br, zr⟩, fun H6 s6 => ?_⟩
    have k6 : Same H1 H6 := k4.trans (s5.trans s6)
    have eq6 := (s5.trans s6) _ _ eq4
    have er6 := (s5.trans s6) _ _ er4
    have h16 : H6 p1 = some (.lst (as.map V.int)) := k6 _ _ (s1 _ _ h1)
    have h26 : H6 p2 = some (.lst (bs.map V.int)) := k6 _ _ (s1 _ _ h2)
    clear s5 s6 eq4 er4 et4 s4 eq3 er3 et3
    walk_at "rd"
    refine ⟨pr, _, rfl, .inl (SqL.of er6), ?_⟩
    walk_at "rd"
    refine ⟨p2, _, rfl, .inl (SqL.of h26), ?_⟩
    rw [List.length_map, List.length_map]
    walk_at "rd"
    refine itd (fun z => ?_) (fun _ => ?_)
    · exact absurd z (by omega)
    walk_at "rd"
    refine spAgain_mk ⟨pq, p2, pr, qs, bs, rs, m, rfl, SqL.of eq6, SqL.of h26, SqL.of er6, ⟨m0, pm, by omega, lb, by omega, bq, bb, br⟩, fun pg ks H7 s7 eg hk zk => ?_⟩
    refine ⟨_, rfl, dInts ks, dInts as, dt_lst (SqL.of eg) (dt_ints ks), dt_lst (SqL.of (s7 _ _ h16)) (dt_ints as), ⟨tr_one _, tr_one _⟩, fun b hb => ?_⟩
    rw [hb.mpr (by rw [again_eq m0 ba za dv hk zk])]
    have eq7 := s7 _ _ eq6
    have er7 := s7 _ _ er6
    have k7 := k6.trans s7
    walk_at "rd"
    refine ⟨pq, _, rfl, .inl (SqL.of eq7), fun pu hpu => ?_⟩
    walk_at "rd"
    refine ⟨pr, _, rfl, .inl (SqL.of (upd_keep er7 hpu)), fun pv hpv => ?_⟩
    walk_at "rd"
    intro pw hpw
    have nqu : pq ≠ pu := ne_of_none eq7 hpu
    have nru : pr ≠ pu := ne_of_none er7 hpu
    have nqv : pq ≠ pv := ne_of_none (upd_keep (o := .lst (qs.map V.int)) eq7 hpu) hpv
    have nrv : pr ≠ pv := ne_of_none (upd_keep (o := .lst (qs.map V.int)) er7 hpu) hpv
    have nqw : pq ≠ pw := ne_of_none (upd_keep (o := .lst (rs.map V.int)) (upd_keep (o := .lst (qs.map V.int)) eq7 hpu) hpv) hpw
    have nrw : pr ≠ pw := ne_of_none (upd_keep (o := .lst (rs.map V.int)) (upd_keep (o := .lst (qs.map V.int)) er7 hpu) hpv) hpw
    have s8 : Same H7 (upd (upd (upd H7 pu (.lst (qs.map V.int))) pv (.lst (rs.map V.int))) pw (.tup [.ref pu, .ref pv])) := (same_new hpu _).trans ((same_new hpv _).trans (same_new hpw _))
    have eu8 : upd (upd (upd H7 pu (.lst (qs.map V.int))) pv (.lst (rs.map V.int))) pw (.tup [.ref pu, .ref pv]) pu = some (.lst (qs.map V.int)) := upd_keep (upd_keep upd_same hpv) hpw
    have ev8 : upd (upd (upd H7 pu (.lst (qs.map V.int))) pv (.lst (rs.map V.int))) pw (.tup [.ref pu, .ref pv]) pv = some (.lst (rs.map V.int)) := upd_keep upd_same hpw
    have ew8 : upd (upd (upd H7 pu (.lst (qs.map V.int))) pv (.lst (rs.map V.int))) pw (.tup [.ref pu, .ref pv]) pw = some (.tup [.ref pu, .ref pv]) := upd_same
    generalize upd (upd (upd H7 pu (.lst (qs.map V.int))) pv (.lst (rs.map V.int))) pw (.tup [.ref pu, .ref pv]) = H8 at *
    have eq8 := s8 _ _ eq7
    have er8 := s8 _ _ er7
    have k8 := k7.trans s8
    refine ⟨_, rfl, .inl ⟨rfl, _, SqL.of eq8⟩, pq, _, _, rfl, rfl, eq8, by rw [List.length_map]; exact small1000 (by omega), ?_⟩
    have k9 : Same H1 (upd H8 pq (.lst (qs.map V.int ++ [.int 1]))) := same_upd k8 fq _
    have eu9 : upd H8 pq (.lst (qs.map V.int ++ [.int 1])) pu = some (.lst (qs.map V.int)) := by rw [upd_ne (Ne.symm nqu)]; exact eu8
    have ev9 : upd H8 pq (.lst (qs.map V.int ++ [.int 1])) pv = some (.lst (rs.map V.int)) := by rw [upd_ne (Ne.symm nqv)]; exact ev8
    have ew9 : upd H8 pq (.lst (qs.map V.int ++ [.int 1])) pw = some (.tup [.ref pu, .ref pv]) := by rw [upd_ne (Ne.symm nqw)]; exact ew8
    obtain ⟨zs, er9, lz⟩ : ∃ zs : List V, upd H8 pq (.lst (qs.map V.int ++ [.int 1])) pr = some (.lst zs) ∧ zs.length ≤ 200 := by
      by_cases e : pr = pq
      · exact ⟨_, by rw [e, upd_same], by rw [List.length_append, List.length_map]; show _ + 1 ≤ _; omega⟩
      · exact ⟨_, by rw [upd_ne e]; exact er8, by rw [List.length_map]; omega⟩
    generalize upd H8 pq (.lst (qs.map V.int ++ [.int 1])) = H9 at *
    walk_at "rd"
    refine ⟨.inl ⟨rfl, _, SqL.of er9⟩, pr, _, _, rfl, rfl, er9, small1000 (by omega), ?_⟩
    have k10 : Same H1 (upd H9 pr (.lst (zs ++ [.int 1]))) := same_upd k9 fr _
    have eu10 : upd H9 pr (.lst (zs ++ [.int 1])) pu = some (.lst (qs.map V.int)) := by rw [upd_ne (Ne.symm nru)]; exact eu9
    have ev10 : upd H9 pr (.lst (zs ++ [.int 1])) pv = some (.lst (rs.map V.int)) := by rw [upd_ne (Ne.symm nrv)]; exact ev9
    have ew10 : upd H9 pr (.lst (zs ++ [.int 1])) pw = some (.tup [.ref pu, .ref pv]) := by rw [upd_ne (Ne.symm nrw)]; exact ew9
    generalize upd H9 pr (.lst (zs ++ [.int 1])) = H10 at *
    walk_at "rd"
    intro px hpx
    have s11 := same_new (H := H10) hpx (.lst [.ref p1, .ref p2])
    have ex : upd H10 px (.lst [.ref p1, .ref p2]) px = some (.lst [.ref p1, .ref p2]) := upd_same
    generalize upd H10 px (.lst [.ref p1, .ref p2]) = H11 at *
    have k11 := k10.trans s11
    refine ⟨_, _, dt_two (SqL.of (k11 _ _ eh)) (SqL.of (k11 _ _ ea)) (SqL.of (k11 _ _ eb)), dt_two (SqL.of ex) (SqL.of (k11 _ _ (s1 _ _ h1))) (SqL.of (k11 _ _ (s1 _ _ h2))), ⟨tr_two _ _, tr_two _ _⟩, fun b hb => ?_⟩
    rw [hb.mpr rfl]
    refine ⟨_, rfl, ?_⟩
    refine ⟨_, rfl, ph, _, _, _, rfl, rfl, SqL.of (k11 _ _ eh), t0, _, rfl, ph, _, _, _, rfl, rfl, SqL.of (k11 _ _ eh), t1, _, rfl, ?_⟩
    refine spRest0_mk ⟨pa, pb, as, bs, m, rfl, SqL.of (k11 _ _ ea), SqL.of (k11 _ _ eb), hd, hne, fun pt2 pq2 pr2 qs2 rs2 H12 s12 _ _ _ et12 eq12 er12 out2 => ?_⟩
    obtain ⟨lq2, lr2, dv2, bq2, br2, zq2, zr2⟩ := id out2
    have lb0 : 0 < bs.length := List.length_pos_iff.mpr hne
    have bl := get_mod m0 bb (bs.length - 1)
    have nzl := zb.resolve_left hne
    have hu := div_unique pp lb0 ⟨by omega, bl.2⟩ bq2 bq br2 br lr2 lr zq2 zq zr2 zr dv2 dv
    have k12 := s11.trans s12
    refine ⟨_, rfl, _, _, dt_twoT (SqT.of et12) (SqL.of eq12) (SqL.of er12), dt_twoT (SqT.of (k12 _ _ ew10)) (SqL.of (k12 _ _ eu10)) (SqL.of (k12 _ _ ev10)), ⟨tr_twoT _ _, tr_twoT _ _⟩, fun b hb => ?_⟩
    rw [hb.mpr (by rw [hu.1, hu.2])]
    exact q _ (s1.trans (k11.trans s12))
end

end Toy

set_option Elab.async false
set_option linter.all false
set_option maxRecDepth 100000
set_option maxHeartbeats 4000000
namespace Toy
open PySem L2 Num
local macro_rules | `(tactic| walk_at "hp") => `(tactic| first
  | assumption
  | exact upd_same
  | exact upd_keep (by walk_at "hp") (by assumption)
  | (rw [upd_ne (by first | assumption | exact Ne.symm (by assumption))]; walk_at "hp")
  | exact Same.get (by assumption) (by walk_at "hp"))
local macro_rules | `(tactic| walk_at "side") => `(tactic| first
  | exact mulOk_small (by omega) (by omega)
  | exact mulOk_smallR (by omega) (by omega)
  | exact cdivP_small (by omega) (by omega)
  | exact cpow_small (by decide) (by decide) (by decide)
  | (show (0 : Int) < _; omega)
  | (with_reducible show _ ≤ sizeLine; exact small_len (by simp only [List.length_cons, List.length_nil]; omega)))
local macro_rules | `(tactic| walk_at "rd1") => `(tactic| first
  | refine ⟨_, rfl, ?_⟩
  | refine ⟨_, _, rfl, rfl, ?_⟩
  | refine ⟨rfl, ?_⟩
  | refine ⟨_, _, rfl, ?_⟩
  | refine ⟨_, _, rfl, SqT.of (by walk_at "hp"), rfl, ?_⟩
  | refine ⟨_, _, _, _, rfl, rfl, SqL.of (by walk_at "hp"), (by assumption), ?_⟩
  | refine ⟨_, _, _, _, rfl, rfl, SqT.of (by walk_at "hp"), (by assumption), ?_⟩
  | (refine ⟨?sidegoal, ?_⟩; (case sidegoal => walk_at "side")))
local macro_rules | `(tactic| walk_at "rd") => `(tactic| repeat walk_at "rd1")

section
variable {P : Program} {w : World} {K : PySem.W.Frag} {mg : Str → Option Value} {base : Heap}
theorem ok_law (T : Tx K mg) : FnOk P w K mg base CX0 7 T.f_law T.fd_law ["_law_script"] (spLaw K) := by
  refine T.F_law.ok sc_law (fun vs H Q E h => ?_) (fun cdv A outer s H vs Q E hr h => ?_)
  · obtain ⟨a, ns, rfl, _⟩ := h
    rfl
  obtain ⟨a, ns, rfl, hS, h63, q⟩ := h
  refine ⟨_, (@pss_cons _ _ _ _ _ (ps_set (i := 1) sc_law.nd rfl (by first | exact Or.inl rfl | exact Or.inr rfl) (pe_call (ok_prime T) (hr.mono (by omega)) rfl T.m_prime T.F_prime.kp T.b_prime .nil pass0 (pa_cons (pe_ix ix_list (pe_call (ok_things T) (hr.mono (by omega)) rfl T.m_things T.F_things.kp T.b_things .nil pass0 (pa_cons (pe_call (ok_cell T) (hr.mono (by omega)) rfl T.m_cell T.F_cell.kp T.b_cell .nil pass0 (pa_cons (pv 0) (pa_cons pe_int pa_nil))) (pa_cons pe_int pa_nil))) pe_int (fun _ _ => rfl)) pa_nil)))
      (@pss_cons _ _ _ _ _ (ps_for PassesOwn.never rfl (pi_list (pe_op op_cat (pe_lst (pa_cons (pe_call (ok_cell T) (hr.mono (by omega)) rfl T.m_cell T.F_cell.kp T.b_cell .nil pass0 (pa_cons (pv 0) (pa_cons pe_int pa_nil))) pa_nil)) (pe_slice sl_list (pv 0) (po_some pe_int) (po_some pe_int)))) (pg_name (i := 2) sc_law.nd rfl (by first | exact Or.inl rfl | exact Or.inr rfl)) (@pss_cons _ _ _ _ _ (ps_set (i := 3) sc_law.nd rfl (by first | exact Or.inl rfl | exact Or.inr rfl) (pe_call (ok_things T) (hr.mono (by omega)) rfl T.m_things T.F_things.kp T.b_things .nil pass0 (pa_cons (pv 2) (pa_cons pe_int pa_nil))))
      (@pss_cons _ _ _ _ _ (ps_set (i := 4) sc_law.nd rfl (by first | exact Or.inl rfl | exact Or.inr rfl) (pe_call (ok_row T) (hr.mono (by omega)) rfl T.m_row T.F_row.kp T.b_row .nil pass0 (pa_cons (pv 3) (pa_cons pe_int (pa_cons (pv 1) pa_nil)))))
      (@pss_cons _ _ _ _ _ (ps_set (i := 5) sc_law.nd rfl (by first | exact Or.inl rfl | exact Or.inr rfl) (pe_call (ok_row T) (hr.mono (by omega)) rfl T.m_row T.F_row.kp T.b_row .nil pass0 (pa_cons (pv 3) (pa_cons pe_int (pa_cons (pv 1) pa_nil)))))
      (pss_cut (ps_if (PW.pt (pw_and (pt_cmpR op_eq (pe_op op_mod (pe_ix ix_list (pv 3) pe_int (fun _ _ => rfl)) pe_int) pe_int (nomark _)) (pw_and1 (pt_cmpR op_lt (pe_op op_add (pe_callB call_len_seq (by rfl) T.z_len PySem.boot_len (pa_cons (pv 4) pa_nil)) (pe_callB call_len_seq (by rfl) T.z_len PySem.boot_len (pa_cons (pv 5) pa_nil))) pe_int (nomark _))))) (pss_one (ps_set (i := 4) sc_law.nd rfl (by first | exact Or.inl rfl | exact Or.inr rfl) (pe_call (ok_product T) (hr.mono (by omega)) rfl T.m_product T.F_product.kp T.b_product .nil pass0 (pa_cons (pv 4) (pa_cons (pv 5) (pa_cons (pv 1) pa_nil)))))) pss_nil)
      (pss_one (ps_if (pt_not (pt_val (pe_call (ok_right T) (hr.mono (by omega)) rfl T.m_right T.F_right.kp T.b_right .nil pass0 (pa_cons (pv 4) (pa_cons (pv 5) (pa_cons (pv 1) pa_nil)))))) (pss_one (ps_ret pe_bl)) pss_nil)))))))
      (pss_one (ps_ret pe_bl)))), ?_⟩
  walk_at "rd"
  refine ⟨a, ns, 0, rfl, hS, by decide, fun z0 => ?_⟩
  walk_at "rd"
  refine ⟨by decide, by decide, fun px xs H1 s1 _ hpx hxl hxb => ?_⟩
  have b0 := getD_mem hxb (k := 0) (by omega)
  have a0 : atI (xs.map V.int) 0 = some (.int (xs.getD 0 0)) := at_ints (by decide) (by omega)
  generalize xs.getD 0 0 = x0 at b0 a0
  walk_at "rd"
  refine ⟨b0.1, fun m H2 pm m2 s2 => ?_⟩
  have hm : 0 < m := by have := pm.1; omega
  have s02 := s1.trans s2
  walk_at "rd"
  refine ⟨a, ns, 1, rfl, s02.seq hS, by decide, fun z1 => ?_⟩
  walk_at "rd"
  intro p3 h3
  walk_at "rd"
  refine ⟨a, _, rfl, (s02.trans (same_new h3 _)).seq hS, fun p4 h4 => ?_⟩
  obtain ⟨ms, ems, lms, _⟩ := cut_ints ns (some 2) (some 30)
  refine ⟨p3, p4, _, _, rfl, rfl, (by walk_at "hp"), (by walk_at "hp"), ?_, fun p5 h5 => ?_⟩
  · rw [ems, List.length_map]
    refine small_len ?_
    show 1 + _ ≤ _
    omega
  have el : [V.int z1] ++ cutV (ns.map V.int) (some 2) (some 30) = (z1 :: ms).map V.int := by
    rw [ems]
    rfl
  rw [el]
  refine ⟨p5, rfl, ⟨_, SqL.of upd_same⟩, for_list (K := K) (a := p5) (xs := (z1 :: ms).map V.int) (fun i σ H2 => ∃ (v2 v3 v4 v5 : Option V), H2 p5 = some (.lst ((z1 :: ms).map V.int)) ∧ σ = [some (.ref a), some (.int m), v2, v3, v4, v5]) ?_ ?_ ?_ ?_⟩
  · exact ⟨_, _, _, _, upd_same, rfl⟩
  · rintro i σ H2 _ ⟨v2, v3, v4, v5, h, rfl⟩
    exact SqL.of h
  · rintro i x σ H3 hx ⟨v2, v3, v4, v5, h, rfl⟩
    obtain ⟨z, rfl, _, hi⟩ := ints_get hx
    walk_at "rd"
    refine ⟨by decide, by decide, fun py ys H4 s4 _ hpy hyl hyb => ?_⟩
    walk_at "rd"
    refine ⟨py, ys, 0, m, rfl, SqL.of hpy, ⟨by omega, by decide, by decide, hm⟩, fun po os H5 s5 f5 eo go => ?_⟩
    walk_at "rd"
    refine ⟨py, ys, 12, m, rfl, SqL.of (s5 _ _ hpy), ⟨by omega, by decide, by decide, hm⟩, fun pr rs H6 s6 f6 er gr => ?_⟩
    have b23 : atI (ys.map V.int) 23 = some (.int (ys.getD 23 0)) := at_ints (by decide) (by omega)
    generalize ys.getD 23 0 = y23 at b23
    have s36 := s4.trans (s5.trans s6)
    have eo6 := s6 _ _ eo
    have lo := go.1
    have lr := gr.1
    refine ⟨fun σ' H' => ∃ (pn : Addr) (qs : List Int), (Same H3 H' ∧ H' pn = some (.lst (qs.map V.int)) ∧ H' pr = some (.lst (rs.map V.int)) ∧ Good m qs) ∧ σ' = [some (.ref a), some (.int m), some (.int z), some (.ref py), some (.ref pn), some (.ref pr)], ?_, ?_⟩
    · refine ⟨_, rfl, py, _, _, _, rfl, rfl, SqL.of ((s5.trans s6) _ _ hpy), b23, ?_⟩
      walk_at "rd"
      refine itd (fun _ => ?_) (fun _ => ?_)
      · refine ⟨_, rfl, po, _, rfl, .inl (SqL.of eo6), _, rfl, pr, _, rfl, .inl (SqL.of er), ?_⟩
        rw [List.length_map, List.length_map]
        walk_at "rd"
        refine itd (fun hlt => ?_) (fun _ => ?_)
        · walk_at "rd"
          refine ⟨po, pr, os, rs, m, rfl, SqL.of eo6, SqL.of er, ⟨hm, by omega, by omega, fun x hx => by have := go.2.1 x hx; omega, fun x hx => by have := gr.2.1 x hx; omega⟩, fun pn qs H7 s7 f7 e7 tr => ?_⟩
          have pl := prod_len tr
          have gd := prod_good hm tr
          exact ⟨pn, qs, ⟨s36.trans s7, e7, s7 _ _ er, ⟨by omega, gd⟩⟩, rfl⟩
        · exact ⟨po, os, ⟨s36, eo6, er, go⟩, rfl⟩
      · exact ⟨po, os, ⟨s36, eo6, er, go⟩, rfl⟩
    rintro σ' H7 ⟨pn, qs, ⟨s37, en7, er7, gq⟩, rfl⟩
    have lq := gq.1
    walk_at "rd"
    refine spRight_mk ⟨pn, pr, qs, rs, m, rfl, en7, er7, ⟨pm, m2, by omega, by omega, gq.2.1, gr.2.1, gr.2.2, gq.2.2⟩, fun H8 s8 => ?_⟩
    walk_at "rd"
    exact ⟨_, _, _, _, (s37.trans s8) _ _ h, rfl⟩
  · rintro σ H2 ⟨v2, v3, v4, v5, h, rfl⟩
    exact q _
end

theorem all_mk {l : PySem.W.OpenLaw} {w : World} {K : PySem.W.Frag} {h : Heap} {mg : Str → Option Value} {fa : Addr} (X : K.In h) (G : h.Ns mainGlobals mg) (hfa : mg "law" = some (.ref fa))
    {f0 : Addr} {od0 an0 : Option Addr} {sl0 : Array (Option Value)} {oc0 kV0 dc0 pm0 cd0 ct0 : Value}
    (a0 : PySem.W.nsIn K mainGlobals "common" = some (some (.ref f0))) (l0 : K.lookup f0 = some ⟨oc0, od0, .func (PySem.W.fnOf "common" "common" (defArgs s_common) (defBody s_common) (defScope s_common) .none kV0 dc0 pm0 an0 cd0 ct0), sl0⟩) (c0 : PySem.W.codeIn K cd0 "common" = true) (k0 : PySem.W.keepIn K (.ref f0) = true)
    {f1 : Addr} {od1 an1 : Option Addr} {sl1 : Array (Option Value)} {oc1 kV1 dc1 pm1 cd1 ct1 : Value}
    (a1 : PySem.W.nsIn K mainGlobals "trimmed" = some (some (.ref f1))) (l1 : K.lookup f1 = some ⟨oc1, od1, .func (PySem.W.fnOf "trimmed" "trimmed" (defArgs s_trimmed) (defBody s_trimmed) (defScope s_trimmed) .none kV1 dc1 pm1 an1 cd1 ct1), sl1⟩) (c1 : PySem.W.codeIn K cd1 "trimmed" = true) (k1 : PySem.W.keepIn K (.ref f1) = true)
    {f2 : Addr} {od2 an2 : Option Addr} {sl2 : Array (Option Value)} {oc2 kV2 dc2 pm2 cd2 ct2 : Value}
    (a2 : PySem.W.nsIn K mainGlobals "inverse" = some (some (.ref f2))) (l2 : K.lookup f2 = some ⟨oc2, od2, .func (PySem.W.fnOf "inverse" "inverse" (defArgs s_inverse) (defBody s_inverse) (defScope s_inverse) .none kV2 dc2 pm2 an2 cd2 ct2), sl2⟩) (c2 : PySem.W.codeIn K cd2 "inverse" = true) (k2 : PySem.W.keepIn K (.ref f2) = true)
    {f3 : Addr} {od3 an3 : Option Addr} {sl3 : Array (Option Value)} {oc3 kV3 dc3 pm3 cd3 ct3 : Value}
    (a3 : PySem.W.nsIn K mainGlobals "divided_by" = some (some (.ref f3))) (l3 : K.lookup f3 = some ⟨oc3, od3, .func (PySem.W.fnOf "divided_by" "divided_by" (defArgs s_divided_by) (defBody s_divided_by) (defScope s_divided_by) .none kV3 dc3 pm3 an3 cd3 ct3), sl3⟩) (c3 : PySem.W.codeIn K cd3 "divided_by" = true) (k3 : PySem.W.keepIn K (.ref f3) = true)
    {f4 : Addr} {od4 an4 : Option Addr} {sl4 : Array (Option Value)} {oc4 kV4 dc4 pm4 cd4 ct4 : Value}
    (a4 : PySem.W.nsIn K mainGlobals "rest_divided" = some (some (.ref f4))) (l4 : K.lookup f4 = some ⟨oc4, od4, .func (PySem.W.fnOf "rest_divided" "rest_divided" (defArgs s_rest_divided) (defBody s_rest_divided) (defScope s_rest_divided) .none kV4 dc4 pm4 an4 cd4 ct4), sl4⟩) (c4 : PySem.W.codeIn K cd4 "rest_divided" = true) (k4 : PySem.W.keepIn K (.ref f4) = true)
    {f5 : Addr} {od5 an5 : Option Addr} {sl5 : Array (Option Value)} {oc5 kV5 dc5 pm5 cd5 ct5 : Value}
    (a5 : PySem.W.nsIn K mainGlobals "_law_things" = some (some (.ref f5))) (l5 : K.lookup f5 = some ⟨oc5, od5, .func (PySem.W.fnOf "_law_things" "_law_things" (defArgs s_things) (defBody s_things) (defScope s_things) .none kV5 dc5 pm5 an5 cd5 ct5), sl5⟩) (c5 : PySem.W.codeIn K cd5 "_law_things" = true) (k5 : PySem.W.keepIn K (.ref f5) = true)
    {f6 : Addr} {od6 an6 : Option Addr} {sl6 : Array (Option Value)} {oc6 kV6 dc6 pm6 cd6 ct6 : Value}
    (a6 : PySem.W.nsIn K mainGlobals "_law_cell" = some (some (.ref f6))) (l6 : K.lookup f6 = some ⟨oc6, od6, .func (PySem.W.fnOf "_law_cell" "_law_cell" (defArgs s_cell) (defBody s_cell) (defScope s_cell) .none kV6 dc6 pm6 an6 cd6 ct6), sl6⟩) (c6 : PySem.W.codeIn K cd6 "_law_cell" = true) (k6 : PySem.W.keepIn K (.ref f6) = true)
    {f7 : Addr} {od7 an7 : Option Addr} {sl7 : Array (Option Value)} {oc7 kV7 dc7 pm7 cd7 ct7 : Value}
    (a7 : PySem.W.nsIn K mainGlobals "_law_is_prime" = some (some (.ref f7))) (l7 : K.lookup f7 = some ⟨oc7, od7, .func (PySem.W.fnOf "_law_is_prime" "_law_is_prime" (defArgs s_is_prime) (defBody s_is_prime) (defScope s_is_prime) .none kV7 dc7 pm7 an7 cd7 ct7), sl7⟩) (c7 : PySem.W.codeIn K cd7 "_law_is_prime" = true) (k7 : PySem.W.keepIn K (.ref f7) = true)
    {f8 : Addr} {od8 an8 : Option Addr} {sl8 : Array (Option Value)} {oc8 kV8 dc8 pm8 cd8 ct8 : Value}
    (a8 : PySem.W.nsIn K mainGlobals "_law_prime" = some (some (.ref f8))) (l8 : K.lookup f8 = some ⟨oc8, od8, .func (PySem.W.fnOf "_law_prime" "_law_prime" (defArgs s_prime) (defBody s_prime) (defScope s_prime) .none kV8 dc8 pm8 an8 cd8 ct8), sl8⟩) (c8 : PySem.W.codeIn K cd8 "_law_prime" = true) (k8 : PySem.W.keepIn K (.ref f8) = true)
    {f9 : Addr} {od9 an9 : Option Addr} {sl9 : Array (Option Value)} {oc9 kV9 dc9 pm9 cd9 ct9 : Value}
    (a9 : PySem.W.nsIn K mainGlobals "_law_cut" = some (some (.ref f9))) (l9 : K.lookup f9 = some ⟨oc9, od9, .func (PySem.W.fnOf "_law_cut" "_law_cut" (defArgs s_cut) (defBody s_cut) (defScope s_cut) .none kV9 dc9 pm9 an9 cd9 ct9), sl9⟩) (c9 : PySem.W.codeIn K cd9 "_law_cut" = true) (k9 : PySem.W.keepIn K (.ref f9) = true)
    {f10 : Addr} {od10 an10 : Option Addr} {sl10 : Array (Option Value)} {oc10 kV10 dc10 pm10 cd10 ct10 : Value}
    (a10 : PySem.W.nsIn K mainGlobals "_law_product" = some (some (.ref f10))) (l10 : K.lookup f10 = some ⟨oc10, od10, .func (PySem.W.fnOf "_law_product" "_law_product" (defArgs s_product) (defBody s_product) (defScope s_product) .none kV10 dc10 pm10 an10 cd10 ct10), sl10⟩) (c10 : PySem.W.codeIn K cd10 "_law_product" = true) (k10 : PySem.W.keepIn K (.ref f10) = true)
    {f11 : Addr} {od11 an11 : Option Addr} {sl11 : Array (Option Value)} {oc11 kV11 dc11 pm11 cd11 ct11 : Value}
    (a11 : PySem.W.nsIn K mainGlobals "_law_whole" = some (some (.ref f11))) (l11 : K.lookup f11 = some ⟨oc11, od11, .func (PySem.W.fnOf "_law_whole" "_law_whole" (defArgs s_whole) (defBody s_whole) (defScope s_whole) .none kV11 dc11 pm11 an11 cd11 ct11), sl11⟩) (c11 : PySem.W.codeIn K cd11 "_law_whole" = true) (k11 : PySem.W.keepIn K (.ref f11) = true)
    {f12 : Addr} {od12 an12 : Option Addr} {sl12 : Array (Option Value)} {oc12 kV12 dc12 pm12 cd12 ct12 : Value}
    (a12 : PySem.W.nsIn K mainGlobals "_law_by" = some (some (.ref f12))) (l12 : K.lookup f12 = some ⟨oc12, od12, .func (PySem.W.fnOf "_law_by" "_law_by" (defArgs s_by) (defBody s_by) (defScope s_by) .none kV12 dc12 pm12 an12 cd12 ct12), sl12⟩) (c12 : PySem.W.codeIn K cd12 "_law_by" = true) (k12 : PySem.W.keepIn K (.ref f12) = true)
    {f13 : Addr} {od13 an13 : Option Addr} {sl13 : Array (Option Value)} {oc13 kV13 dc13 pm13 cd13 ct13 : Value}
    (a13 : PySem.W.nsIn K mainGlobals "_law_row" = some (some (.ref f13))) (l13 : K.lookup f13 = some ⟨oc13, od13, .func (PySem.W.fnOf "_law_row" "_law_row" (defArgs s_row) (defBody s_row) (defScope s_row) .none kV13 dc13 pm13 an13 cd13 ct13), sl13⟩) (c13 : PySem.W.codeIn K cd13 "_law_row" = true) (k13 : PySem.W.keepIn K (.ref f13) = true)
    {f14 : Addr} {od14 an14 : Option Addr} {sl14 : Array (Option Value)} {oc14 kV14 dc14 pm14 cd14 ct14 : Value}
    (a14 : PySem.W.nsIn K mainGlobals "_law_again" = some (some (.ref f14))) (l14 : K.lookup f14 = some ⟨oc14, od14, .func (PySem.W.fnOf "_law_again" "_law_again" (defArgs s_again) (defBody s_again) (defScope s_again) .none kV14 dc14 pm14 an14 cd14 ct14), sl14⟩) (c14 : PySem.W.codeIn K cd14 "_law_again" = true) (k14 : PySem.W.keepIn K (.ref f14) = true)
    {f15 : Addr} {od15 an15 : Option Addr} {sl15 : Array (Option Value)} {oc15 kV15 dc15 pm15 cd15 ct15 : Value}
    (a15 : PySem.W.nsIn K mainGlobals "_law_asked" = some (some (.ref f15))) (l15 : K.lookup f15 = some ⟨oc15, od15, .func (PySem.W.fnOf "_law_asked" "_law_asked" (defArgs s_asked) (defBody s_asked) (defScope s_asked) .none kV15 dc15 pm15 an15 cd15 ct15), sl15⟩) (c15 : PySem.W.codeIn K cd15 "_law_asked" = true) (k15 : PySem.W.keepIn K (.ref f15) = true)
    {f16 : Addr} {od16 an16 : Option Addr} {sl16 : Array (Option Value)} {oc16 kV16 dc16 pm16 cd16 ct16 : Value}
    (a16 : PySem.W.nsIn K mainGlobals "_law_refused" = some (some (.ref f16))) (l16 : K.lookup f16 = some ⟨oc16, od16, .func (PySem.W.fnOf "_law_refused" "_law_refused" (defArgs s_refused) (defBody s_refused) (defScope s_refused) .none kV16 dc16 pm16 an16 cd16 ct16), sl16⟩) (c16 : PySem.W.codeIn K cd16 "_law_refused" = true) (k16 : PySem.W.keepIn K (.ref f16) = true)
    {f17 : Addr} {od17 an17 : Option Addr} {sl17 : Array (Option Value)} {oc17 kV17 dc17 pm17 cd17 ct17 : Value}
    (a17 : PySem.W.nsIn K mainGlobals "_law_right" = some (some (.ref f17))) (l17 : K.lookup f17 = some ⟨oc17, od17, .func (PySem.W.fnOf "_law_right" "_law_right" (defArgs s_right) (defBody s_right) (defScope s_right) .none kV17 dc17 pm17 an17 cd17 ct17), sl17⟩) (c17 : PySem.W.codeIn K cd17 "_law_right" = true) (k17 : PySem.W.keepIn K (.ref f17) = true)
    {f18 : Addr} {od18 an18 : Option Addr} {sl18 : Array (Option Value)} {oc18 kV18 dc18 pm18 cd18 ct18 : Value}
    (a18 : PySem.W.nsIn K mainGlobals "law" = some (some (.ref f18))) (l18 : K.lookup f18 = some ⟨oc18, od18, .func (PySem.W.fnOf "law" "law" (defArgs s_law) (defBody s_law) (defScope s_law) .none kV18 dc18 pm18 an18 cd18 ct18), sl18⟩) (c18 : PySem.W.codeIn K cd18 "law" = true) (k18 : PySem.W.keepIn K (.ref f18) = true)
    (z_ValueError : PySem.W.nsIn K mainGlobals "ValueError" = some none)
    (z_bool : PySem.W.nsIn K mainGlobals "bool" = some none)
    (z_int : PySem.W.nsIn K mainGlobals "int" = some none)
    (z_isinstance : PySem.W.nsIn K mainGlobals "isinstance" = some none)
    (z_len : PySem.W.nsIn K mainGlobals "len" = some none)
    (z_list : PySem.W.nsIn K mainGlobals "list" = some none)
    (z_max : PySem.W.nsIn K mainGlobals "max" = some none)
    (z_range : PySem.W.nsIn K mainGlobals "range" = some none)
    (z_tuple : PySem.W.nsIn K mainGlobals "tuple" = some none)
    (x_k_ib : PySem.W.kitOne K (.type "int") (.type "bool") = some false)
    {C_HouseError : Addr} (y_HouseError : PySem.W.nsIn K mainGlobals "HouseError" = some (some (.ref C_HouseError))) (y1_HouseError : PySem.W.excIn K C_HouseError bmV "ValueError.__new__" = true) (y2_HouseError : PySem.W.findIn K (.ref C_HouseError) "__getattribute__" = some (some (.builtin "BaseException.__getattribute__"))) (y3_HouseError : PySem.W.findIn K (.ref C_HouseError) "__getattr__" = some none) (y4_HouseError : PySem.W.findIn K (.ref C_HouseError) "__class__" = some (some (.builtin "object.__class__"))) (y5_HouseError : PySem.W.mroIn K C_HouseError (.type "object") = some true) (y6_HouseError : PySem.W.mroIn K C_HouseError (.type "BaseException") = some true)
    {C_NoNumber : Addr} (y_NoNumber : PySem.W.nsIn K mainGlobals "NoNumber" = some (some (.ref C_NoNumber))) (y1_NoNumber : PySem.W.excIn K C_NoNumber bmV "ValueError.__new__" = true) (y2_NoNumber : PySem.W.findIn K (.ref C_NoNumber) "__getattribute__" = some (some (.builtin "BaseException.__getattribute__"))) (y3_NoNumber : PySem.W.findIn K (.ref C_NoNumber) "__getattr__" = some none) (y4_NoNumber : PySem.W.findIn K (.ref C_NoNumber) "__class__" = some (some (.builtin "object.__class__"))) (y5_NoNumber : PySem.W.mroIn K C_NoNumber (.type "object") = some true) (y6_NoNumber : PySem.W.mroIn K C_NoNumber (.type "BaseException") = some true)
    {C_NoRow : Addr} (y_NoRow : PySem.W.nsIn K mainGlobals "NoRow" = some (some (.ref C_NoRow)))
    {C_NoValue : Addr} (y_NoValue : PySem.W.nsIn K mainGlobals "NoValue" = some (some (.ref C_NoValue)))
    {C_NoText : Addr} (y_NoText : PySem.W.nsIn K mainGlobals "NoText" = some (some (.ref C_NoText)))
    {C_NoRoot : Addr} (y_NoRoot : PySem.W.nsIn K mainGlobals "NoRoot" = some (some (.ref C_NoRoot)))
    {C_TooFar : Addr} (y_TooFar : PySem.W.nsIn K mainGlobals "TooFar" = some (some (.ref C_TooFar)))
    {C_NoLine : Addr} (y_NoLine : PySem.W.nsIn K mainGlobals "NoLine" = some (some (.ref C_NoLine)))
    (w_k_NoNumber_NoNumber : PySem.W.kitOne K (.ref C_NoNumber) (.ref C_NoNumber) = some true)
    (w_k_NoNumber_NoRow : PySem.W.kitOne K (.ref C_NoNumber) (.ref C_NoRow) = some false)
    (w_k_NoNumber_NoValue : PySem.W.kitOne K (.ref C_NoNumber) (.ref C_NoValue) = some false)
    (w_k_NoNumber_NoText : PySem.W.kitOne K (.ref C_NoNumber) (.ref C_NoText) = some false)
    (w_k_NoNumber_NoRoot : PySem.W.kitOne K (.ref C_NoNumber) (.ref C_NoRoot) = some false)
    (w_k_NoNumber_TooFar : PySem.W.kitOne K (.ref C_NoNumber) (.ref C_TooFar) = some false)
    (w_k_NoNumber_NoLine : PySem.W.kitOne K (.ref C_NoNumber) (.ref C_NoLine) = some false)
    (w_k_NoNumber_ValueError : PySem.W.kitOne K (.ref C_NoNumber) (.type "ValueError") = some true)
    (w_u_NoNumber_HouseError : PySem.W.mroIn K C_NoNumber (.ref C_HouseError) = some true)
    : ∃ fd : FuncData, (∀ (s : Shared) (v : Value), BindsTo s fd ⟨[v], []⟩ [("_law_script", v)]) ∧ ∀ base : Heap, K.In base → base.Ns mainGlobals mg → FnOk l.prog w K mg base CX0 7 fa fd ["_law_script"] (spLaw K) := by
  have e := hfa.symm.trans (PySem.W.mg_of X G a18)
  cases e
  have F0 := fun_mk (st := s_common) l0 c0 k0
  have b0 := F0.binds (ps := ["one", "other"]) fun _ _ _ _ _ _ us hl => match us, hl with | [_, _], _ => rfl
  have F1 := fun_mk (st := s_trimmed) l1 c1 k1
  have b1 := F1.binds (ps := ["numbers"]) fun _ _ _ _ _ _ us hl => match us, hl with | [_], _ => rfl
  have F2 := fun_mk (st := s_inverse) l2 c2 k2
  have b2 := F2.binds (ps := ["number", "modulus"]) fun _ _ _ _ _ _ us hl => match us, hl with | [_, _], _ => rfl
  have F3 := fun_mk (st := s_divided_by) l3 c3 k3
  have b3 := F3.binds (ps := ["one", "other", "modulus"]) fun _ _ _ _ _ _ us hl => match us, hl with | [_, _, _], _ => rfl
  have F4 := fun_mk (st := s_rest_divided) l4 c4 k4
  have b4 := F4.binds (ps := ["one", "other", "prime"]) fun _ _ _ _ _ _ us hl => match us, hl with | [_, _, _], _ => rfl
  have F5 := fun_mk (st := s_things) l5 c5 k5
  have b5 := F5.binds (ps := ["_law_cell_here", "_law_many"]) fun _ _ _ _ _ _ us hl => match us, hl with | [_, _], _ => rfl
  have F6 := fun_mk (st := s_cell) l6 c6 k6
  have b6 := F6.binds (ps := ["_law_script", "_law_k"]) fun _ _ _ _ _ _ us hl => match us, hl with | [_, _], _ => rfl
  have F7 := fun_mk (st := s_is_prime) l7 c7 k7
  have b7 := F7.binds (ps := ["_law_number"]) fun _ _ _ _ _ _ us hl => match us, hl with | [_], _ => rfl
  have F8 := fun_mk (st := s_prime) l8 c8 k8
  have b8 := F8.binds (ps := ["_law_x"]) fun _ _ _ _ _ _ us hl => match us, hl with | [_], _ => rfl
  have F9 := fun_mk (st := s_cut) l9 c9 k9
  have b9 := F9.binds (ps := ["_law_numbers"]) fun _ _ _ _ _ _ us hl => match us, hl with | [_], _ => rfl
  have F10 := fun_mk (st := s_product) l10 c10 k10
  have b10 := F10.binds (ps := ["_law_one", "_law_other", "_law_base"]) fun _ _ _ _ _ _ us hl => match us, hl with | [_, _, _], _ => rfl
  have F11 := fun_mk (st := s_whole) l11 c11 k11
  have b11 := F11.binds (ps := ["_law_found"]) fun _ _ _ _ _ _ us hl => match us, hl with | [_], _ => rfl
  have F12 := fun_mk (st := s_by) l12 c12 k12
  have b12 := F12.binds (ps := ["_law_found", "_law_prime_here"]) fun _ _ _ _ _ _ us hl => match us, hl with | [_, _], _ => rfl
  have F13 := fun_mk (st := s_row) l13 c13 k13
  have b13 := F13.binds (ps := ["_law_xs", "_law_at", "_law_prime_here"]) fun _ _ _ _ _ _ us hl => match us, hl with | [_, _, _], _ => rfl
  have F14 := fun_mk (st := s_again) l14 c14 k14
  have b14 := F14.binds (ps := ["_law_quotient", "_law_other", "_law_rest", "_law_prime_here"]) fun _ _ _ _ _ _ us hl => match us, hl with | [_, _, _, _], _ => rfl
  have F15 := fun_mk (st := s_asked) l15 c15 k15
  have b15 := F15.binds (ps := ["_law_one", "_law_other", "_law_prime_here"]) fun _ _ _ _ _ _ us hl => match us, hl with | [_, _, _], _ => rfl
  have F16 := fun_mk (st := s_refused) l16 c16 k16
  have b16 := F16.binds (ps := ["_law_caught"]) fun _ _ _ _ _ _ us hl => match us, hl with | [_], _ => rfl
  have F17 := fun_mk (st := s_right) l17 c17 k17
  have b17 := F17.binds (ps := ["_law_one", "_law_other", "_law_prime_here"]) fun _ _ _ _ _ _ us hl => match us, hl with | [_, _, _], _ => rfl
  have F18 := fun_mk (st := s_law) l18 c18 k18
  have b18 := F18.binds (ps := ["_law_script"]) fun _ _ _ _ _ _ us hl => match us, hl with | [_], _ => rfl
  let T : Tx K mg := ⟨_, _, F0, PySem.W.mg_of X G a0, b0, _, _, F1, PySem.W.mg_of X G a1, b1, _, _, F2, PySem.W.mg_of X G a2, b2, _, _, F3, PySem.W.mg_of X G a3, b3, _, _, F4, PySem.W.mg_of X G a4, b4, _, _, F5, PySem.W.mg_of X G a5, b5, _, _, F6, PySem.W.mg_of X G a6, b6, _, _, F7, PySem.W.mg_of X G a7, b7, _, _, F8, PySem.W.mg_of X G a8, b8, _, _, F9, PySem.W.mg_of X G a9, b9, _, _, F10, PySem.W.mg_of X G a10, b10, _, _, F11, PySem.W.mg_of X G a11, b11, _, _, F12, PySem.W.mg_of X G a12, b12, _, _, F13, PySem.W.mg_of X G a13, b13, _, _, F14, PySem.W.mg_of X G a14, b14, _, _, F15, PySem.W.mg_of X G a15, b15, _, _, F16, PySem.W.mg_of X G a16, b16, _, _, F17, PySem.W.mg_of X G a17, b17, _, _, F18, PySem.W.mg_of X G a18, b18, PySem.W.mg_none_of X G z_ValueError, PySem.W.mg_none_of X G z_bool, PySem.W.mg_none_of X G z_int, PySem.W.mg_none_of X G z_isinstance, PySem.W.mg_none_of X G z_len, PySem.W.mg_none_of X G z_list, PySem.W.mg_none_of X G z_max, PySem.W.mg_none_of X G z_range, PySem.W.mg_none_of X G z_tuple, x_k_ib, _, PySem.W.mg_of X G y_HouseError, ⟨y1_HouseError, y2_HouseError, y3_HouseError, y4_HouseError, y5_HouseError, y6_HouseError⟩, _, PySem.W.mg_of X G y_NoNumber, ⟨y1_NoNumber, y2_NoNumber, y3_NoNumber, y4_NoNumber, y5_NoNumber, y6_NoNumber⟩, _, PySem.W.mg_of X G y_NoRow, _, PySem.W.mg_of X G y_NoValue, _, PySem.W.mg_of X G y_NoText, _, PySem.W.mg_of X G y_NoRoot, _, PySem.W.mg_of X G y_TooFar, _, PySem.W.mg_of X G y_NoLine, w_k_NoNumber_NoNumber, w_k_NoNumber_NoRow, w_k_NoNumber_NoValue, w_k_NoNumber_NoText, w_k_NoNumber_NoRoot, w_k_NoNumber_TooFar, w_k_NoNumber_NoLine, w_k_NoNumber_ValueError, w_u_NoNumber_HouseError⟩
  exact ⟨_, fun s v => .of_eq rfl, fun base _ _ => ok_law T⟩
theorem walk {l : PySem.W.OpenLaw} {q : Program} {loose : List Str} {XP : (Str → Option Value) → Heap → Prop} {YP : World → Heap → Prop} {d : DefRec} {K : Params → PySem.W.Frag} (hn : l.most = some 63) (hdf : d.params.defaults = [])
    (hY : ∀ (w : World) (h : Heap), YP w h → (K w.params).In h)
    (F : ∀ (w : World) (mg : Str → Option Value) (fa : Addr) (h : Heap), (K w.params).In h → h.Ns mainGlobals mg → mg d.name = some (.ref fa) →
      ∃ fd : FuncData, (∀ (s : Shared) (u : Value), BindsTo s fd ⟨[u], []⟩ [("_law_script", u)]) ∧ ∀ base : Heap, (K w.params).In base → base.Ns mainGlobals mg → FnOk l.prog w (K w.params) mg base CX0 7 fa fd ["_law_script"] (spLaw (K w.params))) :
    PySem.W.WalkO q loose XP YP l.row.toRowW d [] (fun f vs => PySem.call f vs) :=
  L2.walk_of (n := 63) (k := 7) (x := "_law_script") (CX := fun _ => CX0) (sp := fun w => spLaw (K w.params)) hn (by decide) hdf ⟨rfl, by decide, by decide⟩ hY F (fun _ _ a ns hl _ hS => ⟨a, ns, rfl, hS, hl, fun _ => rfl⟩) fun _ _ _ _ _ z => z
end Toy
open PySem PySem.W PyProof.Rows
set_option maxRecDepth 100000 in
set_option maxHeartbeats 0 in
theorem PySem.Challenge.cw_paperwright_k28_division_by_a_prime_holds : PySem.Challenge.rw_paperwright_k28_division_by_a_prime.Holds := by
  w_on; o_law; k_head; (case hw => w_witness2)
  k_fill
  refine Toy.walk (l := PySem.Challenge.rw_paperwright_k28_division_by_a_prime) rfl rfl (fun w h Y => PySem.W.kIn_of Y) ?F
  case F =>
    intro w mg fa h KX G hmg
    refine' Toy.all_mk KX G hmg ?a0 ?l0 ?c0 ?k0 ?a1 ?l1 ?c1 ?k1 ?a2 ?l2 ?c2 ?k2 ?a3 ?l3 ?c3 ?k3 ?a4 ?l4 ?c4 ?k4 ?a5 ?l5 ?c5 ?k5 ?a6 ?l6 ?c6 ?k6 ?a7 ?l7 ?c7 ?k7 ?a8 ?l8 ?c8 ?k8 ?a9 ?l9 ?c9 ?k9 ?a10 ?l10 ?c10 ?k10 ?a11 ?l11 ?c11 ?k11 ?a12 ?l12 ?c12 ?k12 ?a13 ?l13 ?c13 ?k13 ?a14 ?l14 ?c14 ?k14 ?a15 ?l15 ?c15 ?k15 ?a16 ?l16 ?c16 ?k16 ?a17 ?l17 ?c17 ?k17 ?a18 ?l18 ?c18 ?k18 ?z_ValueError ?z_bool ?z_int ?z_isinstance ?z_len ?z_list ?z_max ?z_range ?z_tuple ?x_k_ib ?y_HouseError ?y1_HouseError ?y2_HouseError ?y3_HouseError ?y4_HouseError ?y5_HouseError ?y6_HouseError ?y_NoNumber ?y1_NoNumber ?y2_NoNumber ?y3_NoNumber ?y4_NoNumber ?y5_NoNumber ?y6_NoNumber ?y_NoRow ?y_NoValue ?y_NoText ?y_NoRoot ?y_TooFar ?y_NoLine ?w_k_NoNumber_NoNumber ?w_k_NoNumber_NoRow ?w_k_NoNumber_NoValue ?w_k_NoNumber_NoText ?w_k_NoNumber_NoRoot ?w_k_NoNumber_TooFar ?w_k_NoNumber_NoLine ?w_k_NoNumber_ValueError ?w_u_NoNumber_HouseError
    (case a0 => k_is)
    (case l0 => k_is)
    (case c0 => k_is)
    (case k0 => k_is)
    (case a1 => k_is)
    (case l1 => k_is)
    (case c1 => k_is)
    (case k1 => k_is)
    (case a2 => k_is)
    (case l2 => k_is)
    (case c2 => k_is)
    (case k2 => k_is)
    (case a3 => k_is)
    (case l3 => k_is)
    (case c3 => k_is)
    (case k3 => k_is)
    (case a4 => k_is)
    (case l4 => k_is)
    (case c4 => k_is)
    (case k4 => k_is)
    (case a5 => k_is)
    (case l5 => k_is)
    (case c5 => k_is)
    (case k5 => k_is)
    (case a6 => k_is)
    (case l6 => k_is)
    (case c6 => k_is)
    (case k6 => k_is)
    (case a7 => k_is)
    (case l7 => k_is)
    (case c7 => k_is)
    (case k7 => k_is)
    (case a8 => k_is)
    (case l8 => k_is)
    (case c8 => k_is)
    (case k8 => k_is)
    (case a9 => k_is)
    (case l9 => k_is)
    (case c9 => k_is)
    (case k9 => k_is)
    (case a10 => k_is)
    (case l10 => k_is)
    (case c10 => k_is)
    (case k10 => k_is)
    (case a11 => k_is)
    (case l11 => k_is)
    (case c11 => k_is)
    (case k11 => k_is)
    (case a12 => k_is)
    (case l12 => k_is)
    (case c12 => k_is)
    (case k12 => k_is)
    (case a13 => k_is)
    (case l13 => k_is)
    (case c13 => k_is)
    (case k13 => k_is)
    (case a14 => k_is)
    (case l14 => k_is)
    (case c14 => k_is)
    (case k14 => k_is)
    (case a15 => k_is)
    (case l15 => k_is)
    (case c15 => k_is)
    (case k15 => k_is)
    (case a16 => k_is)
    (case l16 => k_is)
    (case c16 => k_is)
    (case k16 => k_is)
    (case a17 => k_is)
    (case l17 => k_is)
    (case c17 => k_is)
    (case k17 => k_is)
    (case a18 => k_is)
    (case l18 => k_is)
    (case c18 => k_is)
    (case k18 => k_is)
    (case z_ValueError => k_is)
    (case z_bool => k_is)
    (case z_int => k_is)
    (case z_isinstance => k_is)
    (case z_len => k_is)
    (case z_list => k_is)
    (case z_max => k_is)
    (case z_range => k_is)
    (case z_tuple => k_is)
    (case x_k_ib => kit_is)
    (case y_HouseError => k_is)
    (case y1_HouseError => k_exc)
    (case y2_HouseError => k_is)
    (case y3_HouseError => k_is)
    (case y4_HouseError => k_is)
    (case y5_HouseError => k_is)
    (case y6_HouseError => k_is)
    (case y_NoNumber => k_is)
    (case y1_NoNumber => k_exc)
    (case y2_NoNumber => k_is)
    (case y3_NoNumber => k_is)
    (case y4_NoNumber => k_is)
    (case y5_NoNumber => k_is)
    (case y6_NoNumber => k_is)
    (case y_NoRow => k_is)
    (case y_NoValue => k_is)
    (case y_NoText => k_is)
    (case y_NoRoot => k_is)
    (case y_TooFar => k_is)
    (case y_NoLine => k_is)
    (case w_k_NoNumber_NoNumber => kit_is)
    (case w_k_NoNumber_NoRow => kit_is)
    (case w_k_NoNumber_NoValue => kit_is)
    (case w_k_NoNumber_NoText => kit_is)
    (case w_k_NoNumber_NoRoot => kit_is)
    (case w_k_NoNumber_TooFar => kit_is)
    (case w_k_NoNumber_NoLine => kit_is)
    (case w_k_NoNumber_ValueError => kit_is)
    (case w_u_NoNumber_HouseError => k_is)

