import PyProof.Rows.All
import Wide.All
import OpenK.AllK
import Wide.FinOn
import Lean
import PyProof.EqAt
import PyProof.EqKinds
import PyProof.TupleCall
import PySem.Challenge.RW_paperwright_k32_whole_rows
set_option Elab.async false
set_option linter.all false
set_option maxRecDepth 100000

namespace L2
open PySem PySem.Spec PyProof.Rows

noncomputable abbrev Key := Sum Int Str
noncomputable def keyIs : Key → Value → Bool
  | .inl k, v => Value.isInt k v
  | .inr x, v => Value.isStrOf x v
noncomputable def keyH (w : World) : Key → Int
  | .inl k => hashInt k
  | .inr x => hashStr w x
theorem keyIs_shape : ∀ {k : Key} {v : Value}, keyIs k v = true → (∃ i t, k = Sum.inl i ∧ v = Value.int i t) ∨ (∃ x t, k = Sum.inr x ∧ v = Value.str x t)
  | .inl i, v, h => by
    obtain ⟨t, e⟩ := Value.isInt_shape (k := i) (v := v) h
    exact .inl ⟨i, t, rfl, e⟩
  | .inr x, v, h => by
    obtain ⟨t, e⟩ := Value.isStrOf_shape (x := x) (v := v) h
    exact .inr ⟨x, t, rfl, e⟩
theorem key_ll (a b : Int) : decide ((Sum.inl a : Key) = Sum.inl b) = (a == b) := by
  by_cases e : a = b
  · subst e; simp
  · have h : ¬ (Sum.inl a : Key) = Sum.inl b := fun q => e (Sum.inl.inj q)
    rw [decide_eq_false h]
    exact (beq_eq_false_iff_ne.mpr e).symm
theorem key_rr (a b : Str) : decide ((Sum.inr a : Key) = Sum.inr b) = decide (a = b) := by
  by_cases e : a = b
  · subst e; simp
  · have h : ¬ (Sum.inr a : Key) = Sum.inr b := fun q => e (Sum.inr.inj q)
    rw [decide_eq_false h, decide_eq_false e]
theorem key_lr (a : Int) (b : Str) : decide ((Sum.inl a : Key) = Sum.inr b) = false := decide_eq_false (fun q => nomatch q)
theorem key_rl (a : Str) (b : Int) : decide ((Sum.inr a : Key) = Sum.inl b) = false := decide_eq_false (fun q => nomatch q)

noncomputable def mixKind (prog : Program) (w : World) : PySem.KeyKind prog w Key where
  is := keyIs
  hash := keyH w
  inj := fun v a b ha hb => by
    rcases keyIs_shape ha with ⟨i, t, rfl, rfl⟩ | ⟨x, t, rfl, rfl⟩
    · rcases keyIs_shape hb with ⟨j, u, rfl, e⟩ | ⟨y, u, rfl, e⟩
      · injection e with e1 _; rw [e1]
      · exact nomatch e
    · rcases keyIs_shape hb with ⟨j, u, rfl, e⟩ | ⟨y, u, rfl, e⟩
      · exact nomatch e
      · injection e with e1 _; rw [e1]
  byValue := fun k v h => by
    rcases keyIs_shape h with ⟨i, t, rfl, rfl⟩ | ⟨x, t, rfl, rfl⟩ <;> rfl
  pyHash := fun hv h => by
    rcases keyIs_shape hv with ⟨i, t, rfl, rfl⟩ | ⟨x, t, rfl, rfl⟩
    · exact wpAny_pyHash_int h
    · exact wpAny_pyHash_str h
  eqBool := fun hu hv h => by
    rcases keyIs_shape hu with ⟨i, t, rfl, rfl⟩ | ⟨x, t, rfl, rfl⟩
    · rcases keyIs_shape hv with ⟨j, u, rfl, rfl⟩ | ⟨y, u, rfl, rfl⟩
      · rw [key_ll] at h; exact wpAny_eqBool_int h
      · rw [key_lr] at h; exact SeqAt.EqAt.int_str i t y u _ _ _ _ h
    · rcases keyIs_shape hv with ⟨j, u, rfl, rfl⟩ | ⟨y, u, rfl, rfl⟩
      · rw [key_rl] at h; exact SeqAt.EqAt.str_int x t j u _ _ _ _ h
      · rw [key_rr] at h; exact wpAny_eqBool_str h
  «strs» := fun k x t v h => by
    rcases keyIs_shape h with ⟨i, u, rfl, e⟩ | ⟨y, u, rfl, e⟩
    · exact nomatch e
    · injection e with e1 _
      subst e1
      cases v <;> rfl

end L2

namespace L2
open PySem PySem.Spec PyProof.Rows

inductive V where
  | non | bl (b : Bool) | int (i : Int) | str (x : Str) | byt (b : Array UInt8) | flt (b : UInt64) | ref (a : Addr) | ty (n : String)
  deriving DecidableEq

noncomputable def RelV : V → Value → Prop
  | .non, u => u = Value.none
  | .bl b, u => u = Value.bool b
  | .int i, u => ∃ t, u = Value.int i t
  | .str x, u => ∃ t, u = Value.str x t
  | .byt b, u => ∃ t, u = Value.bytes b t
  | .flt b, u => ∃ t, u = Value.float b t
  | .ref a, u => u = Value.ref a
  | .ty n, u => u = Value.type n

noncomputable abbrev Vals : List V → List Value → Prop := Paired RelV
theorem Vals.length {xs : List V} {us : List Value} (r : Vals xs us) : xs.length = us.length := Paired.length r
theorem Vals.get : ∀ {xs : List V} {us : List Value} {i : Nat} {x : V}, Vals xs us → xs[i]? = some x → ∃ u, us[i]? = some u ∧ RelV x u
  | _, _, _, _, .nil, e => by simp at e
  | _, _, 0, _, .cons r _, e => by simp at e; subst e; exact ⟨_, rfl, r⟩
  | _, _, i + 1, x, .cons _ t, e => by
    obtain ⟨u, h1, h2⟩ := Vals.get (i := i) (x := x) t (by simpa using e)
    exact ⟨u, by simpa using h1, h2⟩
theorem Vals.append : ∀ {xs ys : List V} {us ws : List Value}, Vals xs us → Vals ys ws → Vals (xs ++ ys) (us ++ ws)
  | _, _, _, _, .nil, s => s
  | _, _, _, _, .cons r t, s => .cons r (Vals.append t s)
theorem Vals.take : ∀ {xs : List V} {us : List Value} (n : Nat), Vals xs us → Vals (xs.take n) (us.take n)
  | _, _, 0, _ => .nil
  | _, _, _ + 1, .nil => .nil
  | _, _, n + 1, .cons r t => .cons r (Vals.take n t)
theorem Vals.drop : ∀ {xs : List V} {us : List Value} (n : Nat), Vals xs us → Vals (xs.drop n) (us.drop n)
  | _, _, 0, r => r
  | _, _, _ + 1, .nil => .nil
  | _, _, n + 1, .cons _ t => Vals.drop n t
noncomputable def RelO : Option V → Option Value → Prop
  | some v, some u => RelV v u
  | none, none => True
  | _, _ => False
noncomputable def KV {κ : Type} : List (κ × V) → List (κ × Value) → Prop := Paired fun (p : κ × V) (q : κ × Value) => p.1 = q.1 ∧ RelV p.2 q.2

noncomputable def kV : Key → V
  | .inl i => .int i
  | .inr x => .str x

inductive HO where
  
  | lst (xs : List V)
  
  | tup (xs : List V)
  
  | dK (kvs : List (Key × V)) | dT (kvs : List (List Key × V))
  
  | set (S : Int → Bool) (n : Nat)
  
  | ins (C dx : Addr) (fs : List (Str × V))
  
  | own (x : Addr)
  
  | xd (fs : List (Str × V))
  
  | met (f x : Addr)
  
  | rng (lo hi : Int)
  
  | frz (o : Obj) (u : HO)
  
  | tbl (ps : Array Value)
  
  | ext (φ : Heap → Prop)

noncomputable abbrev Hp := Addr → Option HO
noncomputable def upd (H : Hp) (a : Addr) (o : HO) : Hp := fun b => if b = a then some o else H b
theorem upd_same {H : Hp} {a : Addr} {o : HO} : upd H a o a = some o := by unfold upd; rw [if_pos rfl]
theorem upd_ne {H : Hp} {a b : Addr} {o : HO} (h : b ≠ a) : upd H a o b = H b := by unfold upd; rw [if_neg h]
theorem ne_of {H : Hp} {a b : Addr} {o u : HO} (h : H a = some o) (h' : H b = some u) (d : o ≠ u) : a ≠ b := by
  intro e; subst e; rw [h] at h'; exact d (Option.some.inj h')
theorem ne_of_none {H : Hp} {a b : Addr} {o : HO} (h : H a = some o) (h' : H b = none) : a ≠ b := by
  intro e; subst e; rw [h] at h'; cases h'

section
variable (P : Program) (w : World)
noncomputable def ObjOk (H : Hp) (h : Heap) (a : Addr) : HO → Prop
  | .lst xs => xs.length ≤ sizeLine ∧ ∃ (its : List Value) (n : Nat), Vals xs its ∧ h.get? a = some { cls := .type "list", data := .seq its.toArray n }
  | .tup xs => xs.length ≤ sizeLine ∧ ∃ its : List Value, Vals xs its ∧ IsTup h a its.toArray
  | .dK kvs => kvs.length ≤ sizeLine ∧ (a == sysModules) = false ∧ ∃ vs, KV kvs vs ∧ h.DictOf (mixKind P w) a vs
  | .dT kvs => kvs.length ≤ sizeLine ∧ (a == sysModules) = false ∧ ∃ xs : List (List Key × Addr × Value),
      Paired (fun (p : List Key × V) (q : List Key × Addr × Value) => p.1 = q.1 ∧ H q.2.1 = some (.tup (p.1.map kV)) ∧ RelV p.2 q.2.2) kvs xs ∧
      ∃ o es ep, h.get? a = some o ∧ o.ExactDict ∧ o.data = .dict es ep ∧ es.toList = xs.map (entryOfKey (tupleKind (mixKind P w))) ∧ (xs.map (·.1)).Nodup
  | .set S n => h.SetOf (intKind P w) a S n
  | .ins C dx fs => H dx = some (.own a) ∧ fs.length ≤ 1000 ∧ dx ≠ a ∧ h.get? a = some (PySem.W.instObj C dx) ∧
      ∃ mA, h.Ns1 dx mA ∧ (∀ f, RelO (fs.lookup f) (mA f)) ∧ PySem.Within mA (fs.map (·.1))
  | .own _ => ∃ o, h.get? a = some o
  | .xd fs => ∃ mA, h.Ns1 a mA ∧ ∀ f, RelO (fs.lookup f) (mA f)
  | .rng lo hi => ∃ t u v, h.get? a = some { cls := .type "range", data := .fields #[.int lo t, .int hi u, .int 1 v] }
  | .frz o u => h.get? a = some o ∧ ObjOk H h a u
  | .tbl ps => h.get? a = some { cls := .none, data := .fields ps }
  | .met f x => h.get? a = some (PySem.W.methodObj (.ref f) (.ref x))
  | .ext φ => φ h ∧ (∃ o, h.get? a = some o) ∧ ∀ h1 h2 : Heap, φ h1 → (∀ o, h1.get? a = some o → h2.get? a = some o) → φ h2

noncomputable def HOk (H : Hp) (h : Heap) : Prop := ∀ a o, H a = some o → ObjOk P w H h a o
end

section
variable {P : Program} {w : World} {H H' : Hp} {h h' : Heap} {a : Addr} {o : HO}
theorem ObjOk.lt (x : ObjOk P w H h a o) : a < h.objs.size := by
  cases o with
  | lst xs => obtain ⟨_, _, _, _, e⟩ := x; exact Heap.lt_size e
  | tup xs => obtain ⟨_, _, _, p⟩ := x; exact p.lt
  | dK kvs => obtain ⟨_, _, _, _, o, _, _, e, _⟩ := x; exact Heap.lt_size e
  | dT kvs => obtain ⟨_, _, _, _, o, _, _, e, _⟩ := x; exact Heap.lt_size e
  | set S n => obtain ⟨o, _, _, _, e, _⟩ := x; exact Heap.lt_size e
  | ins C dx fs => obtain ⟨_, _, _, e, _⟩ := x; exact Heap.lt_size e
  | own y => obtain ⟨_, e⟩ := x; exact Heap.lt_size e
  | xd fs => obtain ⟨_, ⟨_, _, _, e, _⟩, _⟩ := x; exact Heap.lt_size e
  | rng lo hi => obtain ⟨_, _, _, e⟩ := x; exact Heap.lt_size e
  | frz ob u => obtain ⟨e, _⟩ := x; exact Heap.lt_size e
  | tbl ps => exact Heap.lt_size (show h.get? a = some _ from x)
  | met f y => exact Heap.lt_size (show h.get? a = some _ from x)
  | ext φ => obtain ⟨_, ⟨_, e⟩, _⟩ := x; exact Heap.lt_size e
theorem Paired.mapP {α β : Type} {F G : α → β → Prop} : ∀ {l₁ : List α} {l₂ : List β}, Paired F l₁ l₂ → (∀ a b, F a b → G a b) → Paired G l₁ l₂
  | _, _, .nil, _ => .nil
  | _, _, .cons r t, f => .cons (f _ _ r) (Paired.mapP t f)
theorem ObjOk.stay (x : ObjOk P w H h a o) (k : ∀ b u, (b = a ∨ H b = some (.own a)) → h.get? b = some u → h'.get? b = some u)
    (ho : ∀ b, H b = some (.own a) → H' b = some (.own a)) (ht : ∀ b xs, H b = some (.tup xs) → H' b = some (.tup xs)) : ObjOk P w H' h' a o := by
  induction o with
  | lst xs => obtain ⟨z, its, n, r, e⟩ := x; exact ⟨z, its, n, r, k _ _ (.inl rfl) e⟩
  | tup xs => obtain ⟨z, its, r, ob, e, c⟩ := x; exact ⟨z, its, r, ob, k _ _ (.inl rfl) e, c⟩
  | dK kvs => obtain ⟨z, y, vs, r, ob, es, ep, e, c⟩ := x; exact ⟨z, y, vs, r, ob, es, ep, k _ _ (.inl rfl) e, c⟩
  | dT kvs =>
    obtain ⟨z, y, xs, r, ob, es, ep, e, c⟩ := x
    exact ⟨z, y, xs, Paired.mapP r fun p q z => ⟨z.1, ht _ _ z.2.1, z.2.2⟩, ob, es, ep, k _ _ (.inl rfl) e, c⟩
  | set S n => obtain ⟨ob, es, ep, t, e, c⟩ := x; exact ⟨ob, es, ep, t, k _ _ (.inl rfl) e, c⟩
  | ins C dx fs =>
    obtain ⟨d, z, ne, e, mA, ⟨od, es, ep, e2, c⟩, r⟩ := x
    exact ⟨ho _ d, z, ne, k _ _ (.inl rfl) e, mA, ⟨od, es, ep, k _ _ (.inr d) e2, c⟩, r⟩
  | own y => obtain ⟨ob, e⟩ := x; exact ⟨ob, k _ _ (.inl rfl) e⟩
  | xd fs => obtain ⟨mA, ⟨od, es, ep, e, c⟩, r⟩ := x; exact ⟨mA, ⟨od, es, ep, k _ _ (.inl rfl) e, c⟩, r⟩
  | rng lo hi => obtain ⟨t, u, v, e⟩ := x; exact ⟨t, u, v, k _ _ (.inl rfl) e⟩
  | frz ob u ih => obtain ⟨e, q⟩ := x; exact ⟨k _ _ (.inl rfl) e, ih q⟩
  | tbl ps =>
    have e : h.get? a = some { cls := .none, data := .fields ps } := x
    show h'.get? a = some { cls := .none, data := .fields ps }
    exact k a _ (.inl rfl) e
  | met f y =>
    have e : h.get? a = some (PySem.W.methodObj (.ref f) (.ref y)) := x
    show h'.get? a = some (PySem.W.methodObj (.ref f) (.ref y))
    exact k a _ (.inl rfl) e
  | ext φ => obtain ⟨p, ⟨o, e⟩, st⟩ := x; exact ⟨st _ _ p fun o q => k _ _ (.inl rfl) q, ⟨o, k _ _ (.inl rfl) e⟩, st⟩
theorem HOk.lt (x : HOk P w H h) (e : H a = some o) : a < h.objs.size := (x a o e).lt
theorem HOk.fresh (x : HOk P w H h) (e : h.objs.size ≤ a) : H a = none := by
  cases q : H a with
  | none => rfl
  | some u => exact absurd (Nat.lt_of_lt_of_le (x.lt q) e) (Nat.lt_irrefl _)

theorem HOk.kept (x : HOk P w H h) (k : ∀ b u, h.get? b = some u → h'.get? b = some u) : HOk P w H h' := fun a o e =>
  (x a o e).stay (fun b u _ q => k b u q) (fun _ q => q) fun _ _ q => q

theorem HOk.laid (x : HOk P w H h) (k : ∀ b u, h.get? b = some u → h'.get? b = some u) (hp : h.objs.size ≤ a) (new : ObjOk P w (upd H a o) h' a o) : HOk P w (upd H a o) h' := fun b u e => by
  have hn := x.fresh hp
  by_cases hb : b = a
  · subst hb; rw [upd_same] at e; cases e; exact new
  · rw [upd_ne hb] at e
    exact (x b u e).stay (fun c v _ q => k c v q) (fun c q => by rw [upd_ne (ne_of_none q hn)]; exact q) fun c xs q => by rw [upd_ne (ne_of_none q hn)]; exact q
end

noncomputable def Rd (H : Hp) (a : Addr) (u : HO) : Prop := H a = some u ∨ ∃ o, H a = some (.frz o u)
theorem Rd.ok {P : Program} {w : World} {H : Hp} {h : Heap} {a : Addr} {u : HO} (r : Rd H a u) (x : HOk P w H h) : ObjOk P w H h a u := by
  rcases r with r | ⟨o, r⟩
  · exact x a u r
  · obtain ⟨_, q⟩ := x a _ r
    exact q

noncomputable def Mut : Option HO → Prop
  | some (.lst _) => True
  | some (.dK _) => True
  | some (.dT _) => True
  | some (.set _ _) => True
  | some (.ins _ _ _) => True
  | some (.ext _) => True
  | _ => False
section
variable {P : Program} {w : World} {H : Hp} {h h' : Heap} {x e : Addr} {o' : HO}

theorem HOk.write (ok : HOk P w H h) (mu : Mut (H x)) (he : e = x ∨ H e = some (.own x)) (k : ∀ b u, b ≠ e → h.get? b = some u → h'.get? b = some u) (heo : ∃ u, h'.get? e = some u)
    (new : ObjOk P w (upd H x o') h' x o') : HOk P w (upd H x o') h' := fun b u q => by
  have nown : ∀ c y, H c = some (.own y) → c ≠ x := fun c y r z => by subst z; rw [r] at mu; exact mu
  have ntup : ∀ c xs, H c = some (.tup xs) → c ≠ x := fun c xs r z => by subst z; rw [r] at mu; exact mu
  by_cases hb : b = x
  · subst hb; rw [upd_same] at q; cases q; exact new
  · rw [upd_ne hb] at q
    by_cases hbe : b = e
    · have q' : H b = some (.own x) := by
        rcases he with z | z
        · exact absurd (hbe.trans z) hb
        · rw [hbe]; exact z
      rw [q] at q'; cases q'
      obtain ⟨v, hv⟩ := heo
      exact ⟨v, by rw [hbe]; exact hv⟩
    · refine (ok b u q).stay (fun c v hc r => k c v ?_ r) (fun c r => by rw [upd_ne (nown c b r)]; exact r) fun c xs r => by rw [upd_ne (ntup c xs r)]; exact r
      rcases hc with rfl | hc
      · exact hbe
      · rintro rfl
        rcases he with z | z
        · exact nown c b hc z
        · rw [hc] at z; cases z; exact hb rfl
end

structure Un (fs ex : List Addr) (H H' : Hp) (h h' : Heap) : Prop where
  keep : ∀ b o, h.get? b = some o → H b = none → b ∉ fs → b ∉ ex → h'.get? b = some o
  slot : ∀ b o, h.get? b = some o → H b = none → b ∈ fs → b ∉ ex → ∃ sl, h'.get? b = some { o with slots := sl }
  free : ∀ b o, h.get? b = some o → H b = none → b ∉ ex → H' b = none
  there : ∀ b o, h.get? b = some o → b ∉ ex → ∃ o', h'.get? b = some o'
  tups : ∀ b xs, H b = some (.tup xs) → H' b = some (.tup xs)
  frzs : ∀ b o u, H b = some (.frz o u) → H' b = some (.frz o u)
  tbls : ∀ b ps, H b = some (.tbl ps) → ∃ more, H' b = some (.tbl (ps ++ more))
section
variable {fs fs' ex ex' : List Addr} {H H1 H2 : Hp} {h h1 h2 h' : Heap} {a x e : Addr} {o : HO}
theorem Un.any (u : Un fs ex H H1 h h1) {b : Addr} {ob : Obj} (q : h.get? b = some ob) (n : H b = none) (hx : b ∉ ex) : ∃ sl, h1.get? b = some { ob with slots := sl } := by
  by_cases hb : b ∈ fs
  · exact u.slot b ob q n hb hx
  · exact ⟨ob.slots, u.keep b ob q n hb hx⟩
theorem Un.kept (k : ∀ b u, h.get? b = some u → h'.get? b = some u) : Un fs ex H H h h' :=
  ⟨fun b ob q _ _ _ => k b ob q, fun b ob q _ _ _ => ⟨ob.slots, k b ob q⟩, fun _ _ _ n _ => n, fun b ob q _ => ⟨ob, k b ob q⟩, fun _ _ q => q, fun _ _ _ q => q, fun _ ps q => ⟨#[], by rw [q]; simp⟩⟩
theorem Un.refl : Un fs ex H H h h := Un.kept fun _ _ q => q
theorem Un.laid (k : ∀ b u, h.get? b = some u → h'.get? b = some u) (hp : h.objs.size ≤ a) (hn : H a = none) : Un fs ex H (upd H a o) h h' where
  keep := fun b u q _ _ _ => k b u q
  slot := fun b u q _ _ _ => ⟨u.slots, k b u q⟩
  free := fun b u q n _ => by rw [upd_ne (Nat.ne_of_lt (Nat.lt_of_lt_of_le (Heap.lt_size q) hp))]; exact n
  there := fun b u q _ => ⟨u, k b u q⟩
  tups := fun b xs q => by rw [upd_ne (ne_of_none q hn)]; exact q
  frzs := fun b u xs q => by rw [upd_ne (ne_of_none q hn)]; exact q
  tbls := fun b ps q => ⟨#[], by rw [upd_ne (ne_of_none q hn), q]; simp⟩
theorem Un.write (mu : Mut (H x)) (he : e = x ∨ H e = some (.own x)) (k : ∀ b u, b ≠ e → h.get? b = some u → h'.get? b = some u) (heo : ∃ u, h'.get? e = some u) : Un fs ex H (upd H x o) h h' := by
  have hx : ∀ b, H b = none → b ≠ x := fun b n z => by subst z; rw [n] at mu; exact mu
  have hb : ∀ b, H b = none → b ≠ e := fun b n z => by
    subst z
    rcases he with r | r
    · exact hx b n r
    · rw [n] at r; cases r
  have hm : ∀ b u, H b = some u → ¬ Mut (some u) → b ≠ x := fun b u q nm z => by subst z; rw [q] at mu; exact nm mu
  refine ⟨fun b u q n _ _ => k b u (hb b n) q, fun b u q n _ _ => ⟨u.slots, k b u (hb b n) q⟩, fun b u q n _ => by rw [upd_ne (hx b n)]; exact n, fun b u q _ => ?_,
    fun b xs q => by rw [upd_ne (hm b _ q fun z => z)]; exact q, fun b u xs q => by rw [upd_ne (hm b _ q fun z => z)]; exact q, fun b ps q => ⟨#[], by rw [upd_ne (hm b _ q fun z => z), q]; simp⟩⟩
  by_cases hbe : b = e
  · subst hbe; exact heo
  · exact ⟨u, k b u hbe q⟩
end

noncomputable def trk (h : Heap) (H : Hp) : List Addr := (List.range h.objs.size).filter fun a => (H a).isSome
noncomputable def hidT (h : Heap) (H : Hp) : Heap := PySem.W.hideAll h (trk h H)
theorem hidT_size (h : Heap) (H : Hp) : (hidT h H).objs.size = h.objs.size := PySem.W.hideAll_size _ _
theorem hidT_get {h : Heap} {H : Hp} {b : Addr} {o : Obj} (e : h.get? b = some o) (n : H b = none) : (hidT h H).get? b = some o :=
  PySem.W.hideAll_get _ e fun hm => by
    have q : (H b).isSome = true := (List.mem_filter.mp hm).2
    rw [n] at q; simp at q
theorem of_hidT {h : Heap} {H : Hp} {b : Addr} {o : Obj} (e : (hidT h H).get? b = some o) : h.get? b = some o ∧ H b = none := by
  have e' : h.get? b = some o := PySem.W.of_hideAll (trk h H) e
  refine ⟨e', ?_⟩
  cases q : H b with
  | none => rfl
  | some x =>
    have hm : b ∈ trk h H := List.mem_filter.mpr ⟨List.mem_range.mpr (Heap.lt_size e'), by simp [q]⟩
    have z : (hidT h H).get? b = none := PySem.W.hideAll_none (trk h H) hm
    rw [z] at e; cases e

noncomputable def allNews (g h : Heap) (L : Addr) : List (Addr × Obj) := (List.range h.objs.size).filterMap fun a => if a = L ∨ (g.get? a).isSome = true then none else (h.get? a).map fun o => (a, o)
noncomputable def rest (g h : Heap) (L d : Addr) : List (Addr × Obj) := (allNews g h L).filter fun p => decide (p.1 ≠ d)
end L2

namespace L2
open PySem PySem.Spec PyProof.Rows

structure Mod (K : PySem.W.Frag) (mg : Str → Option Value) (base : Heap) : Prop where
  kin : K.In base
  glob : base.Ns mainGlobals mg
  blt : ∃ mb, base.Ns builtinsNs mb ∧ ∀ x : Str, x ≠ "__name__" → mb x = bootBuiltins x
  nolimit : base.NoLimit

set_option genInjectivity false in
set_option genSizeOf false in
structure Cx where
  prog : Program
  w : World
  K : PySem.W.Frag
  mg : Str → Option Value
  base : Heap
  A : Around
  N : List Str
  s₀ : Shared
  H₀ : Hp
  env : Env
  outer : List Env
  stack : List Env
  ex : List Addr
  fn : Str → Bool
  calm : Bool
  pn : List (Addr × Obj)
  xe : Value → Shared → Prop

noncomputable def frs (l : List Env) : List Addr := l.filterMap (·.frame)
noncomputable abbrev Cx.fs (X : Cx) : List Addr := frs X.outer

noncomputable def Vis (sc : Scope) (x : Str) : Prop := sc.names.lookup x = some .local ∨ sc.names.lookup x = some .cell ∨ sc.names.lookup x = some .free
noncomputable def Loc (sc : Scope) (x : Str) : Prop := sc.names.lookup x = some .local ∨ sc.names.lookup x = some .cell
noncomputable def Look (env : Env) (h : Heap) (m : Str → Option Value) (x : Str) (u : Value) : Prop :=
  (env.kindOf x = some .local ∧ m x = some u) ∨ ((env.kindOf x = some .cell ∨ env.kindOf x = some .free) ∧ ∃ c, env.cells.lookup x = some c ∧ h.IsCell c (some u))

structure Cx.Ok (X : Cx) : Prop where
  mod : Mod X.K X.mg X.base
  kind : X.env.scope.kind = .function
  glob : X.env.globals = mainGlobals
  blt : X.env.builtins = builtinsNs
  above : X.s₀.heap.objs.size ≤ X.env.locals
  inj : ∀ x y c, X.env.cells.lookup x = some c → X.env.cells.lookup y = some c → x = y
  has : ∀ x, (X.env.kindOf x = some .cell ∨ X.env.kindOf x = some .free) → ∃ c, X.env.cells.lookup x = some c
  cab : ∀ x c, X.fn x = true → X.env.cells.lookup x = some c → X.s₀.heap.objs.size ≤ c
  hd : X.calm = true → X.A.handled = none
  frames : X.A.frames = some X.stack
  stk : X.stack = X.outer ∨ (X.stack = X.env :: X.outer ∧ X.env.frame = some X.env.locals)
  exf : ∀ b ∈ X.ex, b ≠ X.env.locals ∧ ∀ x c, X.env.cells.lookup x = some c → c ≠ b
  bs : ∀ b o, X.base.get? b = some o → X.s₀.heap.get? b = some o ∧ X.H₀ b = none
  bsz : X.base.objs.size ≤ X.s₀.heap.objs.size
  noex : ∀ b o, X.base.get? b = some o → b ∉ X.ex
  exfs : ∀ b ∈ X.ex, b ∉ X.fs
  funs : X.s₀.heap.FunFrames X.base X.outer
  frf : ∀ b ∈ X.fs, X.H₀ b = none

structure Inv (X : Cx) (pins : List (Addr × Obj)) (σ : List (Option V)) (H : Hp) (s : Shared) : Prop where
  ok : X.Ok
  os : s.os = X.s₀.os
  bare : AllBare s.gens
  base : Un X.fs X.ex X.H₀ H X.s₀.heap s.heap
  loc : ∃ m, s.heap.Ns X.env.locals m ∧ ∀ (i : Nat) (x : Str) (v : V), X.N[i]? = some x → σ[i]? = some (some v) → Vis X.env.scope x → ∃ u, RelV v u ∧ Look X.env s.heap m x u
  cell : ∀ x c, X.env.cells.lookup x = some c → ∃ v, s.heap.IsCell c v
  free : H X.env.locals = none
  freeC : ∀ x c, X.env.cells.lookup x = some c → H c = none
  pin : ∀ p ∈ X.pn ++ pins, s.heap.get? p.1 = some p.2 ∧ H p.1 = none ∧ p.1 ≠ X.env.locals ∧ p.1 ∉ X.fs ∧ ∀ v, p.2.data ≠ .cell v
  hok : HOk X.prog X.w H s.heap
  len : σ.length = X.N.length

section
variable {X : Cx} {pins : List (Addr × Obj)} {σ : List (Option V)} {H H' : Hp} {s : Shared} {h' : Heap}

theorem Cx.Ok.nofr (ok : X.Ok) {b : Addr} {o : Obj} (e : X.base.get? b = some o) : b ∉ X.fs := fun hb => by
  have := (ok.funs.mem hb).1
  rw [e] at this; cases this
theorem Inv.bs (I : Inv X pins σ H s) : ∀ b o, X.base.get? b = some o → s.heap.get? b = some o ∧ H b = none := fun b o e =>
  ⟨I.base.keep b o (I.ok.bs b o e).1 (I.ok.bs b o e).2 (I.ok.nofr e) (I.ok.noex b o e), I.base.free b o (I.ok.bs b o e).1 (I.ok.bs b o e).2 (I.ok.noex b o e)⟩
theorem Inv.bk (I : Inv X pins σ H s) : ∀ b o, X.base.get? b = some o → s.heap.get? b = some o := fun b o e => (I.bs b o e).1
theorem Inv.mod (I : Inv X pins σ H s) : Mod X.K X.mg X.base := I.ok.mod
theorem Inv.kIn (I : Inv X pins σ H s) : X.K.In s.heap := I.ok.mod.kin.keeps I.bk
theorem Inv.lt (I : Inv X pins σ H s) : X.env.locals < s.heap.objs.size := let ⟨_, hn, _⟩ := I.loc; hn.lt
theorem Inv.sz (I : Inv X pins σ H s) : X.s₀.heap.objs.size ≤ s.heap.objs.size := Nat.le_trans I.ok.above (Nat.le_of_lt I.lt)
theorem Inv.nofs (I : Inv X pins σ H s) {a : Addr} (h : s.heap.objs.size ≤ a) : a ∉ X.fs := fun hb => by
  obtain ⟨_, o, ho, _⟩ := I.ok.funs.mem hb
  exact absurd (Nat.lt_of_lt_of_le (Heap.lt_size ho) (Nat.le_trans I.sz h)) (Nat.lt_irrefl _)
theorem Inv.cne (I : Inv X pins σ H s) : ∀ x c, X.env.cells.lookup x = some c → c ≠ X.env.locals := fun x c e z => by
  obtain ⟨v, o, ho, hd⟩ := I.cell x c e
  obtain ⟨m, ⟨o', es, ep, ho', hd', _⟩, _⟩ := I.loc
  rw [z, ho'] at ho; cases ho; rw [hd'] at hd; cases hd
theorem Inv.funs (I : Inv X pins σ H s) : s.heap.FunFrames X.base X.outer := by
  have all : ∀ (l : List Env), (∀ b ∈ frs l, b ∈ X.fs) → X.s₀.heap.FunFrames X.base l → s.heap.FunFrames X.base l := by
    intro l
    induction l with
    | nil => intro _ _; trivial
    | cons env r ih =>
      intro hs hl
      obtain ⟨hk, ⟨L, o, hf, hn, ho, hd⟩, hr⟩ := hl
      have hL : L ∈ X.fs := hs L (by unfold frs; rw [List.filterMap_cons, hf]; exact List.mem_cons_self)
      obtain ⟨sl, e⟩ := I.base.slot L o ho (I.ok.frf L hL) hL fun z => I.ok.exfs L z hL
      exact ⟨hk, ⟨L, _, hf, hn, e, hd⟩, ih (fun b hb => hs b (by unfold frs; rw [List.filterMap_cons, hf]; exact List.mem_cons_of_mem _ hb)) hr⟩
  exact all X.outer (fun _ hb => hb) I.ok.funs

theorem Inv.stack (I : Inv X pins σ H s) : s.heap.FunFrames X.base X.stack := by
  rcases I.ok.stk with e | ⟨e, hf⟩
  · rw [e]; exact I.funs
  · rw [e]
    obtain ⟨m, hn, _⟩ := I.loc
    refine .cons (by rw [I.ok.kind]; decide) hf hn ?_ I.funs
    exact Heap.get?_none_of_le (Nat.le_trans I.ok.bsz I.ok.above)
theorem Inv.stkSub (I : Inv X pins σ H s) : ∀ b ∈ frs X.stack, b ∈ X.env.locals :: X.fs := fun b hb => by
  rcases I.ok.stk with e | ⟨e, hf⟩
  · rw [e] at hb; exact List.mem_cons_of_mem _ hb
  · rw [e] at hb
    unfold frs at hb
    rw [List.filterMap_cons, hf] at hb
    exact hb
theorem Inv.stkFree (I : Inv X pins σ H s) : ∀ b ∈ frs X.stack, H b = none := fun b hb => by
  rcases List.mem_cons.mp (I.stkSub b hb) with e | hb
  · rw [e]; exact I.free
  · obtain ⟨_, o, ho, _⟩ := I.ok.funs.mem hb
    exact I.base.free b o ho (I.ok.frf b hb) fun z => I.ok.exfs b z hb

theorem Inv.step {g' : Array GenState} {t' : Nat} {d' : Drawn} {ch : List Addr} (I : Inv X pins σ H s)
    (hch : ∀ b ∈ ch, (b ∈ X.ex ∨ X.s₀.heap.objs.size ≤ b) ∧ b ≠ X.env.locals ∧ (∀ x c, X.env.cells.lookup x = some c → c ≠ b) ∧ ∀ p ∈ X.pn ++ pins, p.1 ≠ b)
    (keep : ∀ b o, b ≠ X.env.locals → b ∉ X.fs → b ∉ ch → s.heap.get? b = some o → H b = none → h'.get? b = some o)
    (slot : ∀ b o, b ≠ X.env.locals → b ∈ X.fs → b ∉ ch → s.heap.get? b = some o → H b = none → ∃ sl, h'.get? b = some { o with slots := sl }) (free : ∀ b o, b ∉ ch → s.heap.get? b = some o → H b = none → H' b = none)
    (there : ∀ b o, b ∉ ch → s.heap.get? b = some o → ∃ o', h'.get? b = some o')
    (tups : ∀ b xs, H b = some (.tup xs) → H' b = some (.tup xs)) (frzs : ∀ b o u, H b = some (.frz o u) → H' b = some (.frz o u)) (tbls : ∀ b ps, H b = some (.tbl ps) → ∃ more, H' b = some (.tbl (ps ++ more)))
    (ns : ∀ m, s.heap.Ns X.env.locals m → h'.Ns X.env.locals m) (hok : HOk X.prog X.w H' h') (hg : AllBare g') :
    Inv X pins σ H' { s with heap := h', gens := g', drawn := d', toks := t' } := by
  have neL : ∀ b o, X.s₀.heap.get? b = some o → b ≠ X.env.locals := fun b o e => Nat.ne_of_lt (Nat.lt_of_lt_of_le (Heap.lt_size e) I.ok.above)
  have neC : ∀ b o, X.s₀.heap.get? b = some o → b ∉ X.ex → b ∉ ch := fun b o e hx hb => by
    rcases (hch b hb).1 with z | z
    · exact hx z
    · exact absurd (Nat.lt_of_lt_of_le (Heap.lt_size e) z) (Nat.lt_irrefl _)
  have cellK : ∀ x c, X.env.cells.lookup x = some c → ∀ v, s.heap.IsCell c v → h'.IsCell c v := fun x c e v ⟨o, ho, hd⟩ => by
    have nch : c ∉ ch := fun z => (hch c z).2.2.1 x c e rfl
    by_cases hc : c ∈ X.fs
    · obtain ⟨sl, q⟩ := slot c o (I.cne x c e) hc nch ho (I.freeC x c e)
      exact ⟨_, q, hd⟩
    · exact ⟨o, keep c o (I.cne x c e) hc nch ho (I.freeC x c e), hd⟩
  refine ⟨I.ok, I.os, hg, ⟨fun b o e n hb hx => ?_, fun b o e n hb hx => ?_, fun b o e n hx => ?_, fun b o e hx => ?_, fun b xs e => tups b xs (I.base.tups b xs e), fun b o xs e => frzs b o xs (I.base.frzs b o xs e), fun b ps e => ?_⟩, ?_, fun x c e => ?_, ?_, fun x c e => ?_, fun p hp => ?_, hok, I.len⟩
  · exact keep b o (neL b o e) hb (neC b o e hx) (I.base.keep b o e n hb hx) (I.base.free b o e n hx)
  · obtain ⟨sl, e1⟩ := I.base.slot b o e n hb hx
    obtain ⟨sl', e2⟩ := slot b _ (neL b o e) hb (neC b o e hx) e1 (I.base.free b o e n hx)
    exact ⟨sl', e2⟩
  · obtain ⟨o', e1⟩ := I.base.there b o e hx
    exact free b o' (neC b o e hx) e1 (I.base.free b o e n hx)
  · obtain ⟨o', e1⟩ := I.base.there b o e hx
    exact there b o' (neC b o e hx) e1
  · obtain ⟨m1, e1⟩ := I.base.tbls b ps e
    obtain ⟨m2, e2⟩ := tbls b _ e1
    exact ⟨m1 ++ m2, by rw [e2, Array.append_assoc]⟩
  · obtain ⟨m, hn, hl⟩ := I.loc
    refine ⟨m, ns m hn, fun i x v e1 e2 e3 => ?_⟩
    obtain ⟨u, r, l⟩ := hl i x v e1 e2 e3
    refine ⟨u, r, ?_⟩
    rcases l with l | ⟨k, c, e, z⟩
    · exact .inl l
    · exact .inr ⟨k, c, e, cellK x c e _ z⟩
  · obtain ⟨v, z⟩ := I.cell x c e
    exact ⟨v, cellK x c e v z⟩
  · obtain ⟨m, ⟨o, _, _, ho, _⟩, _⟩ := I.loc
    exact free _ o (fun z => (hch _ z).2.1 rfl) ho I.free
  · obtain ⟨v, o, ho, hd⟩ := I.cell x c e
    exact free c o (fun z => (hch c z).2.2.1 x c e rfl) ho (I.freeC x c e)
  · obtain ⟨e, n, ne, nf, d⟩ := I.pin p hp
    have nch : p.1 ∉ ch := fun z => (hch p.1 z).2.2.2 p hp rfl
    exact ⟨keep p.1 p.2 ne nf nch e n, free p.1 p.2 nch e n, ne, nf, d⟩

theorem Inv.un {t' : Nat} (I : Inv X pins σ H s) (u : Un X.fs [] H H' s.heap h') (hok : HOk X.prog X.w H' h') : Inv X pins σ H' { s with heap := h', toks := t' } := by
  obtain ⟨m, ⟨o, es, ep, ho, r⟩, _⟩ := id I.loc
  obtain ⟨sl, hL⟩ := u.any ho I.free (by simp)
  exact I.step (g' := s.gens) (d' := s.drawn) (ch := []) (fun _ z => nomatch z) (fun b o _ hb _ e n => u.keep b o e n hb (by simp)) (fun b o _ hb _ e n => u.slot b o e n hb (by simp)) (fun b o _ e n => u.free b o e n (by simp)) (fun b o _ e => u.there b o e (by simp)) u.tups u.frzs u.tbls (fun m' hm => by
    obtain ⟨o', es', ep', ho', r'⟩ := hm
    rw [ho] at ho'; cases ho'
    exact ⟨_, es', ep', hL, r'⟩) hok I.bare

theorem Inv.call {g' : Array GenState} {t' : Nat} {d' : Drawn} {ch : List Addr} (I : Inv X pins σ H s) (u : Un (frs X.stack) ch H H' s.heap h') (hok : HOk X.prog X.w H' h') (hg : AllBare g')
    (hch : ∀ b ∈ ch, (b ∈ X.ex ∨ X.s₀.heap.objs.size ≤ b) ∧ b ≠ X.env.locals ∧ (∀ x c, X.env.cells.lookup x = some c → c ≠ b) ∧ ∀ p ∈ X.pn ++ pins, p.1 ≠ b) :
    Inv X pins σ H' { s with heap := h', gens := g', drawn := d', toks := t' } := by
  obtain ⟨m, ⟨o, es, ep, ho, r⟩, _⟩ := id I.loc
  obtain ⟨sl, hL⟩ := u.any ho I.free fun z => (hch _ z).2.1 rfl
  exact I.step (ch := ch) hch (fun b o hL hb hc e n => u.keep b o e n (fun z => (List.mem_cons.mp (I.stkSub b z)).elim hL hb) hc) (fun b o _ _ hc e n => u.any e n hc) (fun b o hc e n => u.free b o e n hc) (fun b o hc e => u.there b o e hc) u.tups u.frzs u.tbls (fun m' hm => by
    obtain ⟨o', es', ep', ho', r'⟩ := hm
    rw [ho] at ho'; cases ho'
    exact ⟨_, es', ep', hL, r'⟩) hok hg

theorem Inv.turned {t' : Nat} {it : Addr} (I : Inv X pins σ H s) (k : ∀ b o, b ≠ it → s.heap.get? b = some o → h'.get? b = some o) (hn : H it = none) (hL : it ≠ X.env.locals)
    (h1 : it ∈ X.ex ∨ X.s₀.heap.objs.size ≤ it) (h2 : ∀ x c, X.env.cells.lookup x = some c → c ≠ it) (h3 : ∀ p ∈ X.pn ++ pins, p.1 ≠ it) : Inv X pins σ H { s with heap := h', toks := t' } := by
  have nit : ∀ b u, H b = some u → b ≠ it := fun b u e z => by rw [z, hn] at e; cases e
  refine I.step (g' := s.gens) (d' := s.drawn) (ch := [it]) (fun b hb => ?_) (fun b o _ _ hc e _ => k b o (fun z => hc (by simp [z])) e) (fun b o _ _ hc e _ => ⟨o.slots, k b o (fun z => hc (by simp [z])) e⟩) (fun _ _ _ _ n => n)
    (fun b o hc e => ⟨o, k b o (fun z => hc (by simp [z])) e⟩) (fun _ _ e => e) (fun _ _ _ e => e) (fun b ps e => ⟨#[], by rw [e]; simp⟩) (fun m hm => ?_) (fun b u e => ?_) I.bare
  · have e : b = it := by simpa using hb
    subst e
    exact ⟨h1, hL, h2, h3⟩
  · obtain ⟨o, es, ep, ho, r⟩ := hm
    exact ⟨o, es, ep, k _ o (Ne.symm hL) ho, r⟩
  · refine (I.hok b u e).stay (fun c v hc q => k c v ?_ q) (fun _ q => q) fun _ _ q => q
    rcases hc with z | z
    · rw [z]; exact nit b u e
    · exact nit c _ z
theorem Inv.tok (I : Inv X pins σ H s) (t : Nat) : Inv X pins σ H { s with toks := t } := I.un (h' := s.heap) (t' := t) Un.refl I.hok

theorem Inv.kept {t' : Nat} (I : Inv X pins σ H s) (k : ∀ b u, s.heap.get? b = some u → h'.get? b = some u) : Inv X pins σ H { s with heap := h', toks := t' } := I.un (Un.kept k) (I.hok.kept k)

theorem Inv.laid {a : Addr} {o : HO} {t' : Nat} (I : Inv X pins σ H s) (k : ∀ b u, s.heap.get? b = some u → h'.get? b = some u) (hp : s.heap.objs.size ≤ a) (new : ObjOk X.prog X.w (upd H a o) h' a o) :
    Inv X pins σ (upd H a o) { s with heap := h', toks := t' } := I.un (Un.laid k hp (I.hok.fresh hp)) (I.hok.laid k hp new)

theorem Inv.write {x e : Addr} {o : HO} {t' : Nat} (I : Inv X pins σ H s) (mu : Mut (H x)) (he : e = x ∨ H e = some (.own x)) (k : ∀ b u, b ≠ e → s.heap.get? b = some u → h'.get? b = some u) (heo : ∃ u, h'.get? e = some u)
    (new : ObjOk X.prog X.w (upd H x o) h' x o) : Inv X pins σ (upd H x o) { s with heap := h', toks := t' } := I.un (Un.write mu he k heo) (I.hok.write mu he k heo new)

theorem Inv.pins_of {pins' : List (Addr × Obj)} (I : Inv X pins σ H s) (h : ∀ p ∈ pins', s.heap.get? p.1 = some p.2 ∧ H p.1 = none ∧ p.1 ≠ X.env.locals ∧ p.1 ∉ X.fs ∧ ∀ v, p.2.data ≠ .cell v) : Inv X pins' σ H s :=
  ⟨I.ok, I.os, I.bare, I.base, I.loc, I.cell, I.free, I.freeC, fun p hp => (List.mem_append.mp hp).elim (fun z => I.pin p (List.mem_append_left _ z)) (h p), I.hok, I.len⟩

theorem nodup_ix {N : List Str} (hN : N.Nodup) {i j : Nat} {x : Str} (a : N[i]? = some x) (b : N[j]? = some x) : i = j := by
  obtain ⟨h1, e1⟩ := List.getElem?_eq_some_iff.mp a
  obtain ⟨h2, e2⟩ := List.getElem?_eq_some_iff.mp b
  exact (List.getElem_inj hN).mp (e1.trans e2.symm)

theorem store_ok2 {M : Model} {A : Around} {E : Value → Shared → Prop} {i : Nat} {x : Str} {v : V} {u : Value} {Q : Unit → Shared → Prop} (I : Inv X pins σ H s) (hN : X.N.Nodup) (hi : X.N[i]? = some x) (hx : Loc X.env.scope x) (r : RelV v u)
    (h : ∀ s', Inv X pins (σ.set i (some v)) H s' → (∃ a, Heap.SameBut a s.heap s'.heap ∧ (a = X.env.locals ∨ X.env.cells.lookup x = some a)) → Q () s') (hf : X.fn x = true ∨ X.env.scope.names.lookup x = some .local := by first | exact .inl rfl | exact .inr rfl | assumption) : wpAny M A (storeName X.env x u) Q E s := by
  obtain ⟨m, hn, hl⟩ := id I.loc
  have hcls : (X.env.scope.kind == .class || (X.env.scope.kind == .module && X.env.locals != X.env.globals)) = false := by rw [I.ok.kind]; rfl
  have hiσ : i < σ.length := by rw [I.len]; exact (List.getElem?_eq_some_iff.mp hi).1
  have cne := I.cne
  have tracked : ∀ {a : Addr} {h' : Heap}, (∃ o, s.heap.get? a = some o ∧ H a = none) → Heap.SameBut a s.heap h' → HOk X.prog X.w H h' := fun {a h'} ha hs b ob e => by
    obtain ⟨_, _, hfree⟩ := ha
    refine (I.hok b ob e).stay (fun c w' hc q => (hs.2 c ?_).trans q) (fun _ q => q) fun _ _ q => q
    rintro rfl
    rcases hc with rfl | hc
    · rw [hfree] at e; cases e
    · rw [hfree] at hc; cases hc
  rcases hx with hk | hk
  · refine wpAny_storeName_local hk hn (fun h' hn' hs => ?_) hcls
    obtain ⟨oL, _, _, hoL, _⟩ := id hn
    refine h _ ⟨I.ok, I.os, I.bare, ⟨fun b o e n hb hx => ?_, fun b o e n hb hx => ?_, I.base.free, fun b o e hx => ?_, I.base.tups, I.base.frzs, I.base.tbls⟩, ⟨_, hn', fun j y v' e1 e2 e3 => ?_⟩, fun y c e => ?_, I.free, I.freeC, fun p hp => ?_, tracked ⟨oL, hoL, I.free⟩ hs, by simpa using I.len⟩ ⟨_, hs, .inl rfl⟩
    · exact (hs.2 b (Nat.ne_of_lt (Nat.lt_of_lt_of_le (Heap.lt_size e) I.ok.above))).trans (I.base.keep b o e n hb hx)
    · obtain ⟨sl, e1⟩ := I.base.slot b o e n hb hx
      exact ⟨sl, (hs.2 b (Nat.ne_of_lt (Nat.lt_of_lt_of_le (Heap.lt_size e) I.ok.above))).trans e1⟩
    · obtain ⟨o', e1⟩ := I.base.there b o e hx
      exact ⟨o', (hs.2 b (Nat.ne_of_lt (Nat.lt_of_lt_of_le (Heap.lt_size e) I.ok.above))).trans e1⟩
    · by_cases hj : j = i
      · subst hj
        rw [hi] at e1; cases e1
        rw [List.getElem?_set_self hiσ] at e2
        cases e2
        exact ⟨u, r, .inl ⟨hk, by simp⟩⟩
      · rw [List.getElem?_set_ne (Ne.symm hj)] at e2
        obtain ⟨u', r', q⟩ := hl j y v' e1 e2 e3
        refine ⟨u', r', ?_⟩
        rcases q with ⟨k, e⟩ | ⟨k, c, e, z⟩
        · refine .inl ⟨k, ?_⟩
          have : y ≠ x := fun e => hj (nodup_ix hN e1 (e ▸ hi))
          simp [this, e]
        · exact .inr ⟨k, c, e, z.sameBut hs (cne y c e)⟩
    · obtain ⟨w', z⟩ := I.cell y c e
      exact ⟨w', z.sameBut hs (cne y c e)⟩
    · obtain ⟨e, n, ne, nf, d⟩ := I.pin p hp
      exact ⟨(hs.2 p.1 ne).trans e, n, ne, nf, d⟩
  · have hfn : X.fn x = true := by
      rcases hf with z | z
      · exact z
      · rw [z] at hk; cases hk
    obtain ⟨c, hc⟩ := I.ok.has x (.inl hk)
    obtain ⟨w', z⟩ := I.cell x c hc
    refine wpAny_storeName_cell I.ok.kind hk hc z (fun h' hc' hs => ?_)
    obtain ⟨oc, hoc, hocd⟩ := id z
    refine h { s with heap := h' } ⟨I.ok, I.os, I.bare, ⟨fun b o e n hb hx => ?_, fun b o e n hb hx => ?_, I.base.free, fun b o e hx => ?_, I.base.tups, I.base.frzs, I.base.tbls⟩, ⟨m, hn.sameBut hs (Ne.symm (cne x c hc)), fun j y v' e1 e2 e3 => ?_⟩, fun y c' e => ?_, I.free, I.freeC, fun p hp => ?_, tracked ⟨oc, hoc, I.freeC x c hc⟩ hs, by simpa using I.len⟩ ⟨c, hs, .inr hc⟩
    · exact (hs.2 b (Nat.ne_of_lt (Nat.lt_of_lt_of_le (Heap.lt_size e) (I.ok.cab x c hfn hc)))).trans (I.base.keep b o e n hb hx)
    · obtain ⟨sl, e1⟩ := I.base.slot b o e n hb hx
      exact ⟨sl, (hs.2 b (Nat.ne_of_lt (Nat.lt_of_lt_of_le (Heap.lt_size e) (I.ok.cab x c hfn hc)))).trans e1⟩
    · obtain ⟨o', e1⟩ := I.base.there b o e hx
      exact ⟨o', (hs.2 b (Nat.ne_of_lt (Nat.lt_of_lt_of_le (Heap.lt_size e) (I.ok.cab x c hfn hc)))).trans e1⟩
    · by_cases hj : j = i
      · subst hj
        rw [hi] at e1; cases e1
        rw [List.getElem?_set_self hiσ] at e2
        cases e2
        exact ⟨u, r, .inr ⟨.inl hk, c, hc, hc'⟩⟩
      · rw [List.getElem?_set_ne (Ne.symm hj)] at e2
        obtain ⟨u', r', q⟩ := hl j y v' e1 e2 e3
        refine ⟨u', r', ?_⟩
        rcases q with q | ⟨k, c', e, z'⟩
        · exact .inl q
        · refine .inr ⟨k, c', e, z'.sameBut hs ?_⟩
          rintro rfl
          exact hj (nodup_ix hN e1 (I.ok.inj _ _ _ e hc ▸ hi))
    · by_cases hcc : c' = c
      · subst hcc; exact ⟨_, hc'⟩
      · obtain ⟨w2, z2⟩ := I.cell y c' e
        exact ⟨w2, z2.sameBut hs hcc⟩
    · obtain ⟨e, n, ne, nf, d⟩ := I.pin p hp
      refine ⟨(hs.2 p.1 ?_).trans e, n, ne, nf, d⟩
      intro q
      rw [q, hoc] at e
      have q' : oc = p.2 := Option.some.inj e
      exact d w' (by rw [← q']; exact hocd)
theorem store_ok {M : Model} {A : Around} {E : Value → Shared → Prop} {i : Nat} {x : Str} {v : V} {u : Value} {Q : Unit → Shared → Prop} (I : Inv X pins σ H s) (hN : X.N.Nodup) (hi : X.N[i]? = some x) (hx : Loc X.env.scope x) (r : RelV v u)
    (h : ∀ s', Inv X pins (σ.set i (some v)) H s' → Q () s') (hf : X.fn x = true ∨ X.env.scope.names.lookup x = some .local := by first | exact .inl rfl | exact .inr rfl | assumption) : wpAny M A (storeName X.env x u) Q E s :=
  store_ok2 I hN hi hx r (fun s' I' _ => h s' I') hf

theorem Inv.call' {s' : Shared} {ch : List Addr} (I : Inv X pins σ H s) (ho : s'.os = s.os) (u : Un (frs X.stack) ch H H' s.heap s'.heap) (hok : HOk X.prog X.w H' s'.heap) (hg : AllBare s'.gens)
    (hch : ∀ b ∈ ch, (b ∈ X.ex ∨ X.s₀.heap.objs.size ≤ b) ∧ b ≠ X.env.locals ∧ (∀ x c, X.env.cells.lookup x = some c → c ≠ b) ∧ ∀ p ∈ X.pn ++ pins, p.1 ≠ b) : Inv X pins σ H' s' := by
  obtain ⟨h', g', d', t', o'⟩ := s'
  have e : o' = s.os := ho
  subst e
  exact I.call (g' := g') (t' := t') (d' := d') u hok hg hch
end

noncomputable abbrev XK := Value → Option Addr → Hp → Prop
noncomputable abbrev St := List (Option V)
noncomputable abbrev VK := V → Hp → Prop

noncomputable abbrev TE := St → Hp → VK → Prop
noncomputable abbrev TT := St → Hp → (Bool → Hp → Prop) → Prop
noncomputable abbrev TA := St → Hp → (List V → Hp → Prop) → Prop

set_option genInjectivity false in
set_option genSizeOf false in
structure Ends where
  nx : St → Hp → Prop
  rt : VK
  bk : St → Hp → Prop := fun _ _ => False
  ct : St → Hp → Prop := fun _ _ => False
noncomputable abbrev TS := Ends → St → Hp → Prop

noncomputable def EP (X : Cx) (pins : List (Addr × Obj)) (σ : St) (Q : VK) (u : Value) (s' : Shared) : Prop := ∃ v H', Inv X pins σ H' s' ∧ RelV v u ∧ Q v H'
noncomputable def TP (X : Cx) (pins : List (Addr × Obj)) (σ : St) (Q : Bool → Hp → Prop) (b : Bool) (s' : Shared) : Prop := ∃ H', Inv X pins σ H' s' ∧ Q b H'
noncomputable def AP (X : Cx) (pins : List (Addr × Obj)) (σ : St) (Q : List V → Hp → Prop) (us : List Value) (s' : Shared) : Prop := ∃ vs H', Inv X pins σ H' s' ∧ Vals vs us ∧ Q vs H'
noncomputable def SP (X : Cx) (pins : List (Addr × Obj)) (D : Ends) (f : Flow) (s' : Shared) : Prop :=
  match f with
  | .next => ∃ σ' H', Inv X pins σ' H' s' ∧ D.nx σ' H'
  | .brk => ∃ σ' H', Inv X pins σ' H' s' ∧ D.bk σ' H'
  | .cont => ∃ σ' H', Inv X pins σ' H' s' ∧ D.ct σ' H'
  | .ret u => ∃ v σ' H', Inv X pins σ' H' s' ∧ RelV v u ∧ D.rt v H'

noncomputable def PE (X : Cx) (e : Expr) (t : TE) : Prop :=
  ∀ (pins : List (Addr × Obj)) (s : Shared) (σ : St) (H : Hp) (Q : VK), Inv X pins σ H s → t σ H Q → wpAny (model X.prog X.w) X.A (eval e X.env) (EP X pins σ Q) X.xe s
noncomputable def PT (X : Cx) (e : Expr) (t : TT) : Prop :=
  ∀ (pins : List (Addr × Obj)) (s : Shared) (σ : St) (H : Hp) (Q : Bool → Hp → Prop), Inv X pins σ H s → t σ H Q → wpAny (model X.prog X.w) X.A (isTrue e X.env (eval e X.env)) (TP X pins σ Q) X.xe s

noncomputable def PW (X : Cx) (e : Expr) (t : TT) : Prop :=
  ∀ (whole : Sem Value) (pins : List (Addr × Obj)) (s : Shared) (σ : St) (H : Hp) (Q : Bool → Hp → Prop), Inv X pins σ H s → t σ H Q → wpAny (model X.prog X.w) X.A (isTrue e X.env whole) (TP X pins σ Q) X.xe s
theorem PW.pt {X : Cx} {e : Expr} {t : TT} (h : PW X e t) : PT X e t := h _

noncomputable def PA (X : Cx) (es : List Expr) (t : TA) : Prop :=
  ∀ (pos : Pos) (pins : List (Addr × Obj)) (s : Shared) (σ : St) (H : Hp) (Q : List V → Hp → Prop), Inv X pins σ H s → t σ H Q → wpAny (model X.prog X.w) X.A (spliced (backTo pos (starEach es X.env))) (AP X pins σ Q) X.xe s
noncomputable def PS (X : Cx) (st : Stmt) (t : TS) : Prop :=
  ∀ (pins : List (Addr × Obj)) (s : Shared) (σ : St) (H : Hp) (D : Ends), Inv X pins σ H s → t D σ H → wpAny (model X.prog X.w) X.A (exec st X.env) (SP X pins D) X.xe s
noncomputable def PSs (X : Cx) (st : List Stmt) (t : TS) : Prop :=
  ∀ (pins : List (Addr × Obj)) (s : Shared) (σ : St) (H : Hp) (D : Ends), Inv X pins σ H s → t D σ H → wpAny (model X.prog X.w) X.A (execs st X.env) (SP X pins D) X.xe s

theorem thn {α : Type} {t : Sem α} {Q Q' : α → Shared → Prop} {M : Model} {A : Around} {E : Value → Shared → Prop} {s : Shared} (h : wpAny M A t Q E s) (hQ : ∀ a s, Q a s → Q' a s) : wpAny M A t Q' E s := wpAny_mono h hQ fun _ _ x => x
end L2

namespace L2
open PySem PySem.Spec PyProof.Rows
section
variable {X : Cx}

noncomputable def tVar (i : Nat) : TE := fun σ H Q => ∃ v, σ[i]? = some (some v) ∧ Q v H
noncomputable def tC (v : V) : TE := fun _ H Q => Q v H
theorem pe_var {i : Nat} {x : Str} {pos : Pos} (hN : X.N[i]? = some x) (hv : Vis X.env.scope x) (hd : (x == ("__debug__" : Str)) = false := by decide) (hcd : (x == ("__classdict__" : Str)) = false := by decide) : PE X (.Name x pos) (tVar i) := by
  intro pins s σ H Q I h
  obtain ⟨v, e, h⟩ := h
  obtain ⟨m, hn, hl⟩ := I.loc
  obtain ⟨u, r, l⟩ := hl i x v hN e hv
  have fin : EP X pins σ Q u s := ⟨v, H, I, r, h⟩
  rcases l with ⟨hk, hm⟩ | ⟨hk, c, hc, hcell⟩
  · exact wpAny_Name (wpAny_loadName_local I.ok.kind hk hn hm fin) hd
  · rcases hk with hk | hk
    · exact wpAny_Name (wpAny_loadName_cell I.ok.kind hk hc hcell fin) hd
    · exact wpAny_Name (wpAny_loadName_free I.ok.kind hk hc hcell fin hcd) hd
theorem pe_int {i j pos} : PE X (.Constant (.int i) j pos) (tC (.int i)) := fun _ _ _ H _ I h => wpAny_Constant_int ⟨.int i, H, I.tok _, ⟨_, rfl⟩, h⟩
theorem pe_bl {b j pos} : PE X (.Constant (.bool b) j pos) (tC (.bl b)) := fun _ _ _ H _ I h => Constant_bool ⟨.bl b, H, I, rfl, h⟩
theorem pe_non {j pos} : PE X (.Constant .none j pos) (tC .non) := fun _ _ _ H _ I h => Constant_none ⟨.non, H, I, rfl, h⟩
theorem pe_str {x j pos} : PE X (.Constant (.str x) j pos) (tC (.str x)) := fun _ _ _ H _ I h => Calls.Constant_str ⟨.str x, H, I.tok _, ⟨_, rfl⟩, h⟩

noncomputable def Gl (X : Cx) (x : Str) : Prop := X.env.kindOf x = some .globalImplicit
theorem ld_glob {E : Value → Shared → Prop} {pins : List (Addr × Obj)} {s : Shared} {σ : St} {H : Hp} {x : Str} {u : Value} {pos : Pos} {Q : Value → Shared → Prop} (I : Inv X pins σ H s) (hg : Gl X x) (hm : X.mg x = some u) (h : Q u s)
    (hd : (x == ("__debug__" : Str)) = false := by decide) : wpAny (model X.prog X.w) X.A (eval (.Name x pos) X.env) Q E s :=
  Calls.Name_function_global I.ok.kind hg (Calls.loadGlobal_global (by rw [I.ok.glob]; exact I.mod.glob.keeps I.bk) hm h) hd
theorem ld_blt {E : Value → Shared → Prop} {pins : List (Addr × Obj)} {s : Shared} {σ : St} {H : Hp} {x : Str} {u : Value} {pos : Pos} {Q : Value → Shared → Prop} (I : Inv X pins σ H s) (hg : Gl X x) (hm : X.mg x = none) (hv : bootBuiltins x = some u) (h : Q u s)
    (hn : x ≠ "__name__" := by decide) (hd : (x == ("__debug__" : Str)) = false := by decide) : wpAny (model X.prog X.w) X.A (eval (.Name x pos) X.env) Q E s := by
  obtain ⟨mb, h1, h2⟩ := I.mod.blt
  exact Calls.Name_function_global I.ok.kind hg (Calls.loadGlobal_builtin (by rw [I.ok.glob]; exact I.mod.glob.keeps I.bk) hm (by rw [I.ok.blt]; exact h1.keeps I.bk) ((h2 x hn).trans hv) h) hd

theorem pe_glob {x : Str} {v : V} {u : Value} {pos : Pos} (hg : Gl X x) (hm : X.mg x = some u) (r : RelV v u) (hd : (x == ("__debug__" : Str)) = false := by decide) : PE X (.Name x pos) (tC v) :=
  fun _ _ _ H _ I h => ld_glob I hg hm ⟨v, H, I, r, h⟩ hd
theorem pe_bltn {x : Str} {v : V} {u : Value} {pos : Pos} (hg : Gl X x) (hm : X.mg x = none) (hv : bootBuiltins x = some u) (r : RelV v u) (hn : x ≠ "__name__" := by decide) (hd : (x == ("__debug__" : Str)) = false := by decide) : PE X (.Name x pos) (tC v) :=
  fun _ _ _ H _ I h => ld_blt I hg hm hv ⟨v, H, I, r, h⟩ hn hd

variable {a b : Expr} {ta tb : TE} {pos : Pos}
noncomputable def tB (t : TE) : TT := fun σ H Q => t σ H fun x H1 => ∃ c, x = .bl c ∧ Q c H1
theorem pt_val {e : Expr} {t : TE} (h : PE X e t) (he : ∀ whole, isTrue e X.env whole = (do let v ← whole; standAt e.pos; holding [v] (truthy v)) := by intro _; rfl) : PT X e (tB t) := by
  intro pins s σ H Q I hw
  refine isTrue_plain (thn (h pins s σ H _ I hw) fun v s1 ⟨x, H1, I1, r1, q1⟩ => ?_) (he _)
  obtain ⟨d, rfl, q⟩ := q1
  cases r1
  exact wpAny_truthy_bool ⟨H1, I1, q⟩

variable {tA tB' : TT} {rest : List Expr}
noncomputable def tAnd (t u : TT) : TT := fun σ H Q => t σ H fun c H1 => if c = true then u σ H1 Q else Q false H1
noncomputable def tOr (t u : TT) : TT := fun σ H Q => t σ H fun c H1 => if c = true then Q true H1 else u σ H1 Q
noncomputable def tNot (t : TT) : TT := fun σ H Q => t σ H fun c H1 => Q (!c) H1
theorem pw_and1 (ha : PT X a tA) : PW X (.BoolOp .And [a] pos) tA := by
  intro wh pins s σ H Q I h
  refine isTrue_and (thn (ha pins s σ H Q I h) fun c s1 e => ?_)
  cases c with
  | true => exact isTrue_and_nil e
  | false => exact e
theorem pw_or1 (ha : PT X a tA) : PW X (.BoolOp .Or [a] pos) tA := by
  intro wh pins s σ H Q I h
  refine isTrue_or (thn (ha pins s σ H Q I h) fun c s1 e => ?_)
  cases c with
  | false => exact isTrue_or_nil e
  | true => exact e
theorem pw_and (ha : PT X a tA) (hb : PW X (.BoolOp .And (b :: rest) pos) tB') : PW X (.BoolOp .And (a :: b :: rest) pos) (tAnd tA tB') := by
  intro wh pins s σ H Q I h
  refine isTrue_and (thn (ha pins s σ H _ I h) fun c s1 ⟨H1, I1, q1⟩ => ?_)
  cases c with
  | true => exact hb wh pins s1 σ H1 Q I1 q1
  | false => exact ⟨H1, I1, q1⟩
theorem pw_or (ha : PT X a tA) (hb : PW X (.BoolOp .Or (b :: rest) pos) tB') : PW X (.BoolOp .Or (a :: b :: rest) pos) (tOr tA tB') := by
  intro wh pins s σ H Q I h
  refine isTrue_or (thn (ha pins s σ H _ I h) fun c s1 ⟨H1, I1, q1⟩ => ?_)
  cases c with
  | true => exact ⟨H1, I1, q1⟩
  | false => exact hb wh pins s1 σ H1 Q I1 q1
theorem pt_not (ha : PT X a tA) : PT X (.UnaryOp .Not a pos) (tNot tA) := by
  intro pins s σ H Q I h
  exact isTrue_not (ha pins s σ H (fun c H1 => Q (!c) H1) I h)

noncomputable def tAndV (ta tb : TE) : TE := fun σ H Q => ta σ H fun x H1 => ∃ c, x = .bl c ∧ if c = true then tb σ H1 Q else Q (.bl false) H1
noncomputable def tNotV (ta : TE) : TE := fun σ H Q => ta σ H fun x H1 => ∃ c, x = .bl c ∧ Q (.bl (!c)) H1
theorem pe_one {op} {t : TE} (h : PE X a t) : PE X (.BoolOp op [a] pos) t := fun pins s σ H Q I hw => BoolOp_one (h pins s σ H Q I hw)
theorem pe_and (ha : PE X a ta) (hb : PE X (.BoolOp .And (b :: rest) pos) tb) : PE X (.BoolOp .And (a :: b :: rest) pos) (tAndV ta tb) := by
  intro pins s σ H Q I h
  refine BoolOp_and (thn (ha pins s σ H _ I h) fun v s1 ⟨x, H1, I1, r1, q1⟩ => ?_)
  obtain ⟨c, rfl, q1⟩ := q1
  cases r1
  refine wpAny_truthy_bool ?_
  cases c with
  | true => exact hb pins s1 σ H1 Q I1 q1
  | false => exact ⟨.bl false, H1, I1, rfl, q1⟩
theorem pe_not (ha : PE X a ta) : PE X (.UnaryOp .Not a pos) (tNotV ta) := by
  intro pins s σ H Q I h
  refine UnaryOp_ (thn (ha pins s σ H _ I h) fun v s1 ⟨x, H1, I1, r1, q1⟩ => ?_)
  obtain ⟨c, rfl, q1⟩ := q1
  cases r1
  exact not_of (wpAny_truthy_bool ⟨.bl (!c), H1, I1, rfl, q1⟩)

end
end L2

namespace L2
open PySem PySem.Spec PyProof.Rows

noncomputable def SqL (K : PySem.W.Frag) (H : Hp) (a : Addr) (xs : List V) : Prop :=
  Rd H a (.lst xs) ∨
    ∃ (o : Obj) (its : Array Value) (n : Nat), K.lookup a = some o ∧ o.cls = .type "list" ∧ o.dict = none ∧ o.data = .seq its n ∧ its.size ≤ sizeLine ∧ Vals xs its.toList
noncomputable def SqT (K : PySem.W.Frag) (H : Hp) (a : Addr) (xs : List V) : Prop :=
  Rd H a (.tup xs) ∨
    ∃ (o : Obj) (its : Array Value) (n : Nat), K.lookup a = some o ∧ o.cls = .type "tuple" ∧ o.data = .seq its n ∧ its.size ≤ sizeLine ∧ Vals xs its.toList
noncomputable def absV : Value → Option V
  | .none => some .non
  | .bool b => some (.bl b)
  | .int i _ => some (.int i)
  | .str x _ => some (.str x)
  | .bytes b _ => some (.byt b)
  | .float b _ => some (.flt b)
  | .ref a => some (.ref a)
  | .type n => some (.ty n)
  | _ => none
theorem RelV.abs {x : V} {u : Value} (r : RelV x u) : absV u = some x := by
  cases x with
  | non => cases r; rfl
  | bl _ => cases r; rfl
  | int _ => obtain ⟨t, rfl⟩ := r; rfl
  | str _ => obtain ⟨t, rfl⟩ := r; rfl
  | byt _ => obtain ⟨t, rfl⟩ := r; rfl
  | flt _ => obtain ⟨t, rfl⟩ := r; rfl
  | ref _ => cases r; rfl
  | ty _ => cases r; rfl
theorem RelV.inj {x y : V} {u : Value} (r : RelV x u) (q : RelV y u) : x = y := Option.some.inj (r.abs.symm.trans q.abs)
theorem Vals.inj : ∀ {xs ys : List V} {us : List Value}, Vals xs us → Vals ys us → xs = ys
  | _, _, _, .nil, .nil => rfl
  | _, _, _, .cons r t, .cons r' t' => by rw [r.inj r', Vals.inj t t']
section
variable {X : Cx} {pins : List (Addr × Obj)} {σ : St} {H : Hp} {s : Shared} {a : Addr} {xs ys : List V}
theorem SqL.of {K : PySem.W.Frag} (h : H a = some (.lst xs)) : SqL K H a xs := .inl (.inl h)
theorem SqT.of {K : PySem.W.Frag} (h : H a = some (.tup xs)) : SqT K H a xs := .inl (.inl h)
theorem Inv.list (I : Inv X pins σ H s) (h : SqL X.K H a xs) : ∃ its : List Value, Vals xs its ∧ PlainL s.heap a its.toArray ∧ xs.length ≤ sizeLine := by
  rcases h with h | ⟨o, its, n, hk, hc, hd, hs, hz, r⟩
  · obtain ⟨z, its, n, r, e⟩ := h.ok I.hok
    exact ⟨its, r, ⟨_, n, e, rfl, rfl, rfl⟩, z⟩
  · refine ⟨its.toList, r, ⟨o, n, I.kIn a o hk, hc, hd, by simpa using hs⟩, ?_⟩
    have e := r.length
    simp only [Array.length_toList] at e
    omega
theorem Inv.tuple (I : Inv X pins σ H s) (h : SqT X.K H a xs) : ∃ its : List Value, Vals xs its ∧ IsTup s.heap a its.toArray ∧ xs.length ≤ sizeLine := by
  rcases h with h | ⟨o, its, n, hk, hc, hs, hz, r⟩
  · obtain ⟨z, its, r, p⟩ := h.ok I.hok
    exact ⟨its, r, p, z⟩
  · refine ⟨its.toList, r, ⟨o, I.kIn a o hk, hc, n, by simpa using hs⟩, ?_⟩
    have e := r.length
    simp only [Array.length_toList] at e
    omega
theorem Inv.list_inj (I : Inv X pins σ H s) (h : SqL X.K H a xs) (h' : SqL X.K H a ys) : xs = ys := by
  obtain ⟨its, r, ⟨o, n, e, _, _, d⟩, _⟩ := I.list h
  obtain ⟨its', r', ⟨o', n', e', _, _, d'⟩, _⟩ := I.list h'
  rw [e] at e'; cases e'
  rw [d] at d'
  injection d' with d1 _
  have : its = its' := by simpa using congrArg Array.toList d1
  subst this
  exact r.inj r'
end

noncomputable abbrev Cx.wish (X : Cx) (E : Value → Shared → Prop) : Cx := { X with xe := E }

noncomputable abbrev Cx.nox (X : Cx) : Cx := X.wish fun _ _ => False
theorem Cx.Ok.wish {X : Cx} (ok : X.Ok) (E : Value → Shared → Prop) : (X.wish E).Ok :=
  ⟨ok.mod, ok.kind, ok.glob, ok.blt, ok.above, ok.inj, ok.has, ok.cab, ok.hd, ok.frames, ok.stk, ok.exf, ok.bs, ok.bsz, ok.noex, ok.exfs, ok.funs, ok.frf⟩
theorem Cx.Ok.unwish {X : Cx} {E : Value → Shared → Prop} (ok : (X.wish E).Ok) : X.Ok :=
  ⟨ok.mod, ok.kind, ok.glob, ok.blt, ok.above, ok.inj, ok.has, ok.cab, ok.hd, ok.frames, ok.stk, ok.exf, ok.bs, ok.bsz, ok.noex, ok.exfs, ok.funs, ok.frf⟩
section
variable {X : Cx} {pins : List (Addr × Obj)} {σ : St} {H : Hp} {s : Shared} {E : Value → Shared → Prop}
theorem Inv.wish (I : Inv X pins σ H s) (E : Value → Shared → Prop) : Inv (X.wish E) pins σ H s := ⟨I.ok.wish E, I.os, I.bare, I.base, I.loc, I.cell, I.free, I.freeC, I.pin, I.hok, I.len⟩
theorem Inv.unwish (I : Inv (X.wish E) pins σ H s) : Inv X pins σ H s := ⟨I.ok.unwish, I.os, I.bare, I.base, I.loc, I.cell, I.free, I.freeC, I.pin, I.hok, I.len⟩
theorem SP.unwish {D : Ends} {f : Flow} {s' : Shared} (h : SP (X.wish E) pins D f s') : SP X pins D f s' := by
  cases f with
  | next => obtain ⟨σ', H', I, q⟩ := h; exact ⟨σ', H', I.unwish, q⟩
  | brk => obtain ⟨σ', H', I, q⟩ := h; exact ⟨σ', H', I.unwish, q⟩
  | cont => obtain ⟨σ', H', I, q⟩ := h; exact ⟨σ', H', I.unwish, q⟩
  | ret u => obtain ⟨v, σ', H', I, r, q⟩ := h; exact ⟨v, σ', H', I.unwish, r, q⟩
theorem PSs.nox {st : List Stmt} {t : TS} (h : PSs X.nox st t) : PSs X st t := fun pins s σ H D I hw =>
  wpAny_mono (h pins s σ H D (I.wish _) hw) (fun _ _ q => q.unwish) fun _ _ z => False.elim z
end

section
variable {X : Cx} {st : Stmt} {rest : List Stmt} {t u : TS} {e : Expr} {te : TE} {pos : Pos}
noncomputable def tNext : TS := fun D σ H => D.nx σ H
noncomputable def tSeq (t u : TS) : TS := fun D σ H => t { D with nx := u D } σ H
theorem pss_nil : PSs X [] tNext := fun _ _ σ H _ I h => wpAny_execs_nil ⟨σ, H, I, h⟩
theorem pss_cons (h1 : PS X st t) (h2 : PSs X rest u) : PSs X (st :: rest) (tSeq t u) := by
  intro pins s σ H D I h
  refine wpAny_execs_cons (thn (h1 pins s σ H { D with nx := u D } I h) fun f s1 q => ?_)
  cases f with
  | next =>
    obtain ⟨σ', H', I', q⟩ := q
    exact h2 pins s1 σ' H' D I' q
  | ret v => exact q
  | brk => exact q
  | cont => exact q
theorem pss_one (h1 : PS X st t) : PSs X [st] t := by
  intro pins s σ H D I h
  refine wpAny_execs_cons (thn (h1 pins s σ H D I h) fun f s1 q => ?_)
  cases f with
  | next => exact wpAny_execs_nil q
  | ret v => exact q
  | brk => exact q
  | cont => exact q
theorem Inv.quiet {pins : List (Addr × Obj)} {σ : St} {H : Hp} {s : Shared} (I : Inv X pins σ H s) : interactive X.env = false := by simp [interactive, I.ok.kind]

noncomputable def tDrop (te : TE) : TS := fun D σ H => te σ H fun _ H1 => D.nx σ H1
theorem ps_expr (he : PE X e te) (hs : swapsWith e none pos.line X.env = pure false := by rfl) : PS X (.Expr e pos) (tDrop te) := by
  intro pins s σ H D I h
  exact wpAny_Expr_any (thn (he pins s σ H _ I h) fun v s1 ⟨x, H1, I1, r1, q1⟩ => ⟨σ, H1, I1, q1⟩) I.quiet hs
noncomputable def tRet (te : TE) : TS := fun D σ H => te σ H D.rt
theorem ps_ret (he : PE X e te) : PS X (.Return (some e) pos) (tRet te) := by
  intro pins s σ H D I h
  exact wpAny_Return_some (thn (he pins s σ H _ I h) fun v s1 ⟨x, H1, I1, r1, q1⟩ => ⟨x, σ, H1, I1, r1, q1⟩)
noncomputable def tIfS (c : TT) (t u : TS) : TS := fun D σ H => c σ H fun b H1 => if b = true then t D σ H1 else u D σ H1
theorem ps_if {c : Expr} {a b : List Stmt} {tc : TT} (hc : PT X c tc) (ha : PSs X a t) (hb : PSs X b u) : PS X (.If c a b pos) (tIfS tc t u) := by
  intro pins s σ H D I h
  refine wpAny_If (thn (hc pins s σ H _ I h) fun d s1 ⟨H1, I1, q1⟩ => ?_)
  cases d with
  | true => exact ha pins s1 σ H1 D I1 q1
  | false => exact hb pins s1 σ H1 D I1 q1

noncomputable def tNever : TS := fun _ _ _ => False
theorem pss_never {sts : List Stmt} : PSs X sts tNever := fun _ _ _ _ _ _ h => h.elim
end

noncomputable abbrev TG := V → St → Hp → (St → Hp → Prop) → Prop
noncomputable abbrev TGs := List V → St → Hp → (St → Hp → Prop) → Prop
noncomputable def PG (X : Cx) (target : Expr) (t : TG) : Prop :=
  ∀ (pins : List (Addr × Obj)) (s : Shared) (σ : St) (H : Hp) (v : V) (u : Value) (Q : St → Hp → Prop), Inv X pins σ H s → RelV v u → t v σ H Q →
    wpAny (model X.prog X.w) X.A (assign target X.env u) (fun _ s' => ∃ σ' H', Inv X pins σ' H' s' ∧ Q σ' H') X.xe s

noncomputable def PGs (X : Cx) (ts : List Expr) (t : TGs) : Prop :=
  ∀ (pins : List (Addr × Obj)) (s : Shared) (σ : St) (H : Hp) (vs : List V) (us : List Value) (Q : St → Hp → Prop), Inv X pins σ H s → Vals vs us → t vs σ H Q →
    wpAny (model X.prog X.w) X.A (assignInOrder ((assignEach ts X.env).map (·.2)) us) (fun _ s' => ∃ σ' H', Inv X pins σ' H' s' ∧ Q σ' H') X.xe s

section
variable {X : Cx} {pos : Pos}
noncomputable def gName (i : Nat) : TG := fun v σ H Q => Q (σ.set i (some v)) H
theorem pg_name {i : Nat} {x : Str} (hN : X.N.Nodup) (hi : X.N[i]? = some x) (hx : Loc X.env.scope x) (hf : X.fn x = true ∨ X.env.scope.names.lookup x = some .local := by first | exact .inl rfl | exact .inr rfl | assumption) : PG X (.Name x pos) (gName i) := by
  intro pins s σ H v u Q I r h
  exact wpAny_assign_Name (store_ok I hN hi hx r (fun s' I' => ⟨_, H, I', h⟩) hf)
noncomputable def gNil : TGs := fun vs σ H Q => vs = [] ∧ Q σ H
noncomputable def gCons (t : TG) (u : TGs) : TGs := fun vs σ H Q => ∃ v r, vs = v :: r ∧ t v σ H fun σ' H' => u r σ' H' Q
theorem pgs_nil : PGs X [] gNil := by
  intro pins s σ H vs us Q I r h
  obtain ⟨e, h⟩ := h
  subst e
  cases r
  exact assignInOrder_nil ⟨σ, H, I, h⟩
theorem pgs_cons {e : Expr} {es : List Expr} {t : TG} {u : TGs} (h1 : PG X e t) (h2 : PGs X es u)
    (hs : (assignEach (e :: es) X.env).map (·.2) = assign e X.env :: (assignEach es X.env).map (·.2) := by rfl) : PGs X (e :: es) (gCons t u) := by
  intro pins s σ H vs us Q I r h
  obtain ⟨v, vr, e1, h⟩ := h
  subst e1
  cases r with
  | cons r rr =>
    rw [hs]
    refine assignInOrder_cons (thn (h1 pins s σ H _ _ _ I r h) fun _ s1 ⟨σ1, H1, I1, q1⟩ => ?_)
    exact h2 pins s1 σ1 H1 _ _ Q I1 rr q1

noncomputable def gTup (K : PySem.W.Frag) (n : Nat) (t : TGs) : TG := fun v σ H Q => ∃ a xs, v = .ref a ∧ SqT K H a xs ∧ xs.length = n ∧ t xs σ H Q
theorem pg_tup {es : List Expr} {k : Nat} {t : TGs} {n : Nat} (hc : X.calm = true) (h : PGs X es t)
    (hn : (assignEach es X.env).length = n := by rfl) (hst : (assignEach es X.env).findIdx? (·.1) = none := by rfl) : PG X (.Tuple es k pos) (gTup X.K n t) := by
  intro pins s σ H v u Q I r hw
  obtain ⟨a, xs, e1, hq, hl, hw⟩ := hw
  subst e1
  cases r
  obtain ⟨its, rv, ht, hz⟩ := I.tuple hq
  refine assign_Tuple_tuple (I.ok.hd hc) ht (by simp [hn, ← hl, rv.length]) hst fun h' hx => ?_
  have I1 : Inv X pins σ H { s with heap := h' } := I.kept (t' := s.toks) fun b o e => hx b o (Nat.ne_of_lt (Heap.lt_size e)) e
  exact h pins _ σ H xs _ Q I1 (by simpa using rv) hw

noncomputable def tAsg (te : TE) (g : TG) : TS := fun D σ H => te σ H fun x H1 => g x σ H1 D.nx
theorem ps_asg {tg e : Expr} {te : TE} {g : TG} (he : PE X e te) (hg : PG X tg g) (hs : swapsWithSole [tg] e pos.line X.env = pure false := by rfl) (hw : swappedStores [tg] e X.env = pure none := by rfl)
    (h1 : (assignEach [tg] X.env).map (·.2) = [assign tg X.env] := by rfl) : PS X (.Assign [tg] e pos) (tAsg te g) := by
  intro pins s σ H D I h
  refine wpAny_Assign_stores (thn (he pins s σ H _ I h) fun v s1 ⟨x, H1, I1, r1, q1⟩ => ?_) hs hw
  rw [h1]
  exact thn (hg pins s1 σ H1 x v _ I1 r1 q1) fun _ s2 q => q

theorem ps_set {i : Nat} {x : Str} {e : Expr} {te : TE} {pos' : Pos} (hN : X.N.Nodup) (hi : X.N[i]? = some x) (hx : Loc X.env.scope x) (he : PE X e te) (hs : swapsWith e (some (.Name x pos')) pos.line X.env = pure false := by rfl) (hf : X.fn x = true ∨ X.env.scope.names.lookup x = some .local := by first | exact .inl rfl | exact .inr rfl | assumption) :
    PS X (.Assign [.Name x pos'] e pos) (tAsg te (gName i)) := by
  intro pins s σ H D I h
  refine wpAny_Assign_Name (thn (he pins s σ H _ I h) fun v s1 ⟨y, H1, I1, r1, q1⟩ => ?_) hs
  exact store_ok I1 hN hi hx r1 (fun s2 I2 => ⟨_, H1, I2, q1⟩) hf

noncomputable def tPar (i j : Nat) (ta : TA) : TS := fun D σ H => ta σ H fun vs H1 => ∃ v w, vs = [v, w] ∧ D.nx ((σ.set i (some v)).set j (some w)) H1
theorem ps_par {i j : Nat} {x y : Str} {a b : Expr} {ta : TA} {px py pt : Pos} {kt k2 pt2} (hc : X.calm = true) (hN : X.N.Nodup) (hi : X.N[i]? = some x) (hj : X.N[j]? = some y) (hij : i ≠ j)
    (hx : X.env.scope.names.lookup x = some .local) (hy : X.env.scope.names.lookup y = some .local) (ha : PA X [a, b] ta)
    (hw : swappedStores [.Tuple [.Name x px, .Name y py] kt pt] (.Tuple [a, b] k2 pt2) X.env = pure (some [x, y]))
    (hs : swapsWithSole [.Tuple [.Name x px, .Name y py] kt pt] (.Tuple [a, b] k2 pt2) pos.line X.env = pure false := by rfl) :
    PS X (.Assign [.Tuple [.Name x px, .Name y py] kt pt] (.Tuple [a, b] k2 pt2) pos) (tPar i j ta) := by
  intro pins s σ H D I h
  rw [exec_Assign_arm]
  refine wpAny_bind (wpAny_standAt ?_)
  rw [hs]
  refine wpAny_bind (wpAny_pure ?_)
  rw [if_neg (by decide)]
  refine wpAny_bind (Tuple_ (thn (ha _ pins s σ H _ I h) fun us s1 ⟨vs, H1, I1, r1, q1⟩ => ?_))
  obtain ⟨v, w, e1, q1⟩ := q1
  subst e1
  obtain ⟨u1, u2, rfl, rv, rw'⟩ : ∃ u1 u2, us = [u1, u2] ∧ RelV v u1 ∧ RelV w u2 := by
    cases r1 with
    | cons p q =>
      cases q with
      | cons p' q' =>
        cases q'
        exact ⟨_, _, rfl, p, p'⟩
  refine wpAny_newObj_type ?_ (by show 2 ≤ sizeLine; decide)
  have I2 : Inv X pins σ H1 { s1 with heap := s1.heap.push { cls := .type "tuple", data := .seq [u1, u2].toArray } } := I1.kept (t' := s1.toks) fun b o e => Heap.get?_push_of_some _ e
  rw [hw]
  refine wpAny_bind (wpAny_pure ?_)
  show wpAny (model X.prog X.w) X.A (do rule "assign.swapped-stores"; let items ← unpackItems (.ref s1.heap.objs.size) 2 none; assignInOrder [fun v => bindName X.env y v, fun v => bindName X.env x v] items.reverse; pure Flow.next) _ _ _
  refine wpAny_bind (wpAny_rule (wpAny_bind (unpackItems_tuple (items := #[u1, u2]) (I.ok.hd hc) (IsTup.new s1.heap _) fun h' hx' => ?_)))
  have I3 := I2.kept (h' := h') (t' := s1.toks) fun b o e => hx' b o (Nat.ne_of_lt (Heap.lt_size e)) e
  show wpAny _ _ (assignInOrder [fun v => bindName X.env y v, fun v => bindName X.env x v] [u2, u1] >>= fun _ => pure Flow.next) _ _ _
  refine wpAny_bind (assignInOrder_cons (wpAny_bindName (store_ok I3 hN hj (.inl hy) rw' (fun s2 I4 => ?_) (.inr hy))))
  refine assignInOrder_cons (wpAny_bindName (store_ok I4 hN hi (.inl hx) rv (fun s3 I5 => assignInOrder_nil (wpAny_pure ?_)) (.inr hx)))
  rw [List.set_comm _ _ (Ne.symm hij)] at I5
  exact ⟨_, H1, I5, q1⟩

end

section
variable {X : Cx} {pos : Pos}

noncomputable def tWhile (c : TT) (tb : TS) : TS := fun D σ H => ∃ W : Nat → St → Hp → Prop, (∃ m, W m σ H) ∧ ∀ m σ H, W m σ H →
  c σ H fun b H1 => if b = true then ∃ N : St → Hp → Prop, (∀ σ' H', N σ' H' → ∃ m', m' < m ∧ W m' σ' H') ∧ tb { D with nx := N, ct := N, bk := D.nx } σ H1 else D.nx σ H1
theorem ps_while {c : Expr} {body : List Stmt} {tc : TT} {tb : TS} (hp : PassesOwn (model X.prog X.w) X.A X.env X.xe) (hc : PT X c tc) (hb : PSs X body tb) : PS X (.While c body [] pos) (tWhile tc tb) := by
  intro pins s σ H D I h
  obtain ⟨W, ⟨m0, w0⟩, turn⟩ := h
  refine wpAny_While (codeAny_whileLoop (fun n s' => ∃ σ' H', Inv X pins σ' H' s' ∧ W n σ' H') ?_ m0 ⟨σ, H, I, w0⟩)
  rintro n s1 ⟨σ1, H1, I1, w1⟩
  refine wpAny_passesOwn hp (thn (hc pins s1 σ1 H1 _ I1 (turn n σ1 H1 w1)) fun b s2 ⟨H2, I2, q2⟩ => ?_)
  cases b with
  | true =>
    obtain ⟨N, hN, q2⟩ := q2
    rw [if_pos rfl]
    refine wpAny_passesOwn hp (thn (hb pins s2 σ1 H2 _ I2 q2) fun f s3 q3 => ?_)
    cases f with
    | next =>
      obtain ⟨σ3, H3, I3, n3⟩ := q3
      obtain ⟨m', hm, w3⟩ := hN σ3 H3 n3
      exact ⟨m', hm, σ3, H3, I3, w3⟩
    | cont =>
      obtain ⟨σ3, H3, I3, n3⟩ := q3
      obtain ⟨m', hm, w3⟩ := hN σ3 H3 n3
      exact ⟨m', hm, σ3, H3, I3, w3⟩
    | brk => exact q3
    | ret v => exact q3
  | false =>
    rw [if_neg Bool.false_ne_true]
    exact wpAny_execs_nil ⟨σ1, H2, I2, q2⟩
end

set_option genInjectivity false in
set_option genSizeOf false in
structure It where
  go : Nat → Hp → Prop
  yld : Nat → Hp → V → Hp → Prop
  stop : Nat → Hp → Prop

noncomputable def FpOk (X : Cx) (pins : List (Addr × Obj)) (H : Hp) (b : Addr) : Prop :=
  H b = none ∧ b ≠ X.env.locals ∧ b ∉ X.fs ∧ (b ∈ X.ex ∨ X.s₀.heap.objs.size ≤ b) ∧ (∀ x c, X.env.cells.lookup x = some c → c ≠ b) ∧ ∀ p ∈ X.pn ++ pins, p.1 ≠ b
theorem Inv.fpOk {X : Cx} {pins : List (Addr × Obj)} {σ : St} {H H' : Hp} {s : Shared} {b : Addr} (I : Inv X pins σ H s) (hb : s.heap.objs.size ≤ b) (hn : H' b = none) : FpOk X pins H' b := by
  refine ⟨hn, Nat.ne_of_gt (Nat.lt_of_lt_of_le I.lt hb), I.nofs hb, .inr (Nat.le_trans I.sz hb), fun x c e z => ?_, fun p hp z => ?_⟩
  · obtain ⟨v, q⟩ := I.cell x c e
    exact absurd (Nat.lt_of_lt_of_le q.lt (by rw [z]; exact hb)) (Nat.lt_irrefl _)
  · exact absurd (Nat.lt_of_lt_of_le (Heap.lt_size (I.pin p hp).1) (by rw [z]; exact hb)) (Nat.lt_irrefl _)
structure Turn (P : Program) (w : World) (K : PySem.W.Frag) (tg : Expr) (J : It) (fp : List Addr) (it : Addr) (tn : Nat → Heap → Prop) : Prop where
  mem : it ∈ fp
  obj : ∀ i h, tn i h → ∀ b ∈ fp, ∃ o, h.get? b = some o ∧ ∀ v, o.data ≠ .cell v
  keep : ∀ i h h', tn i h → (∀ b ∈ fp, ∀ o, h.get? b = some o → h'.get? b = some o) → tn i h'
  item : ∀ (X : Cx), X.prog = P → X.w = w → X.K = K → X.calm = true → ∀ (i : Nat) (pins : List (Addr × Obj)) (s : Shared) (σ : St) (H : Hp) (E : Value → Shared → Prop), Inv X pins σ H s → (∀ b ∈ fp, FpOk X pins H b) → tn i s.heap → J.go i H →
    wpAny (model P w) X.A (pyNext (.ref it)) (fun r s1 => ∃ u, r = some u ∧
      wpAny (model P w) X.A (letOwnedTupleGo tg (.ref it) u) (fun _ s2 => ∃ x H', Inv X pins σ H' s2 ∧ RelV x u ∧ J.yld i H x H' ∧ tn (i + 1) s2.heap ∧ ∀ b ∈ fp, H' b = none) E s1) E s
  done : ∀ (X : Cx), X.prog = P → X.w = w → X.K = K → X.calm = true → ∀ (i : Nat) (pins : List (Addr × Obj)) (s : Shared) (σ : St) (H : Hp) (E : Value → Shared → Prop), Inv X pins σ H s → (∀ b ∈ fp, FpOk X pins H b) → tn i s.heap → J.stop i H →
    wpAny (model P w) X.A (pyNext (.ref it)) (fun r s1 => r = none ∧ Inv X pins σ H s1) E s
  self : ∀ (A : Around) (i : Nat) (s : Shared) (Q : Value → Shared → Prop) (E : Value → Shared → Prop), tn i s.heap → Q (.ref it) s → wpAny (model P w) A (pyIter (.ref it)) Q E s
noncomputable abbrev TI := St → Hp → (It → Hp → Prop) → Prop

noncomputable def PIE (X : Cx) (pins : List (Addr × Obj)) (σ : St) (tg : Expr) (R : It → Hp → Prop) (itv : Value) (s2 : Shared) : Prop :=
  ∃ (it : Addr) (fp : List Addr) (tn : Nat → Heap → Prop) (J : It) (H' : Hp), itv = .ref it ∧ Inv X pins σ H' s2 ∧ Turn X.prog X.w X.K tg J fp it tn ∧ tn 0 s2.heap ∧ (∀ b ∈ fp, FpOk X pins H' b) ∧ R J H'
noncomputable def PI (X : Cx) (tg iter : Expr) (wi : TI) : Prop :=
  ∀ (pins : List (Addr × Obj)) (s : Shared) (σ : St) (H : Hp) (R : It → Hp → Prop), Inv X pins σ H s → wi σ H R →
    wpAny (model X.prog X.w) X.A (eval iter X.env) (fun v s1 => wpAny (model X.prog X.w) X.A (pyIter v) (PIE X pins σ tg R) X.xe s1) X.xe s

theorem go_of {M : Model} {A : Around} {E : Value → Shared → Prop} {s : Shared} {tg : Expr} {it : Addr} {u : Value} {o : Obj} {n : String} {vs : Array Value} {Q : Unit → Shared → Prop} (ho : s.heap.get? it = some o) (hc : o.cls = .type n) (hd : o.data = .fields vs)
    (hn : ["enumerate", "zip", "dict_itemiterator", "dict_reverseitemiterator", "odict_iterator", "itertools.zip_longest", "itertools.pairwise"].contains n = false) (hQ : Q () s) : wpAny M A (letOwnedTupleGo tg (.ref it) u) Q E s := by
  unfold letOwnedTupleGo
  cases tg <;> first
    | exact wpAny_pure hQ
    | (cases u <;> first
        | exact wpAny_pure hQ
        | (refine wpAny_bind (wpAny_load ho ?_)
           rw [hc, hd]
           show wpAny M A (if (["enumerate", "zip", "dict_itemiterator", "dict_reverseitemiterator", "odict_iterator", "itertools.zip_longest", "itertools.pairwise"].contains n && vs[0]? == some (rawInt _)) = true then _ else _) Q E s
           rw [if_neg (by intro h; rw [hn, Bool.false_and] at h; cases h)]
           exact wpAny_pure hQ))

noncomputable def Itl (K : PySem.W.Frag) (a : Addr) : It :=
  ⟨fun i H => ∃ xs x, SqL K H a xs ∧ xs[i]? = some x, fun i H x H' => H' = H ∧ ∀ xs, SqL K H a xs → xs[i]? = some x, fun i H => ∃ xs, SqL K H a xs ∧ xs.length ≤ i⟩
noncomputable def Itr (lo : Int) (n : Nat) : It := ⟨fun i _ => i < n, fun i H x H' => H' = H ∧ x = .int (lo + i), fun i _ => n ≤ i⟩
theorem turn_list {P : Program} {w : World} {K : PySem.W.Frag} {tg : Expr} (a it : Addr) : Turn P w K tg (Itl K a) [it] it (fun i h => h.IsListIter it a i) where
  mem := by simp
  obj := fun i h st b hb => by
    have e : b = it := by simpa using hb
    subst e
    obtain ⟨o, e, c, d⟩ := st
    exact ⟨o, e, fun v z => by rw [d] at z; cases z⟩
  keep := fun i h h' st k => st.at fun o e => k it (by simp) o e
  item := by
    intro X hP hw hK hc i pins s σ H E I hf st hg
    subst hP hw hK
    obtain ⟨xs, x, hq, hx⟩ := hg
    obtain ⟨its, rv, p, hz⟩ := I.list hq
    obtain ⟨u, hu, ru⟩ := rv.get hx
    obtain ⟨f0, f1, f2, f3, f4, f5⟩ := hf it (by simp)
    refine wpAny_pyNext_list_item st p.isList (x := u) (by simpa using hu) fun h' st' sb => ?_
    have I1 : Inv X pins σ H { s with heap := h' } := I.turned (t' := s.toks) (fun b o hb e => (sb.2 b hb).trans e) f0 f1 f3 f4 f5
    obtain ⟨o, e, c, d⟩ := id st'
    exact ⟨u, rfl, go_of (s := { s with heap := h' }) e c d (by decide) ⟨x, H, I1, ru, ⟨rfl, fun ys hy => by rw [I.list_inj hy hq]; exact hx⟩, st', fun b hb => (hf b hb).1⟩⟩
  done := by
    intro X hP hw hK hc i pins s σ H E I hf st hg
    subst hP hw hK
    obtain ⟨xs, hq, hx⟩ := hg
    obtain ⟨its, rv, p, hz⟩ := I.list hq
    obtain ⟨f0, f1, f2, f3, f4, f5⟩ := hf it (by simp)
    have hl := rv.length
    exact wpAny_pyNext_list_end (I.ok.hd hc) st p.isList (by simp; omega) fun h' eb => ⟨rfl, I.turned (t' := s.toks) (fun b o hb e => eb b o hb e) f0 f1 f3 f4 f5⟩
  self := fun _ _ _ _ _ st h => wpAny_pyIter_listiter st h
theorem turn_range {P : Program} {w : World} {K : PySem.W.Frag} {tg : Expr} (it : Addr) (lo : Int) (n : Nat) : Turn P w K tg (Itr lo n) [it] it (fun i h => IsRangeIter h it (lo + (i : Nat) * 1) ((n : Int) - (i : Nat)) 1) where
  mem := by simp
  obj := fun i h st b hb => by
    have e : b = it := by simpa using hb
    subst e
    exact ⟨_, st, fun v z => by
      have z' : Data.fields _ = Data.cell v := z
      cases z'⟩
  keep := fun i h h' st k => k it (by simp) _ st
  item := by
    intro X hP hw hK hc i pins s σ H E I hf st hg
    subst hP hw hK
    obtain ⟨f0, f1, f2, f3, f4, f5⟩ := hf it (by simp)
    have W := Walks.range (prog := X.prog) (w := X.w) (I.ok.hd hc) it lo 1 n
    refine W.item i s _ _ hg st fun v h' tk hv st' kk => ?_
    obtain ⟨t, rfl⟩ := hv
    have I1 : Inv X pins σ H { s with heap := h', toks := tk } := I.turned (fun b o hb e => kk b o (by simpa using hb) e) f0 f1 f3 f4 f5
    refine ⟨_, rfl, go_of (s := { s with heap := h', toks := tk }) (n := "range_iterator") st' rfl rfl (by decide) ⟨.int (lo + i), H, I1, ⟨t, ?_⟩, ⟨rfl, rfl⟩, st', fun b hb => (hf b hb).1⟩⟩
    rw [Int.mul_one]
  done := by
    intro X hP hw hK hc i pins s σ H E I hf st hg
    subst hP hw hK
    obtain ⟨f0, f1, f2, f3, f4, f5⟩ := hf it (by simp)
    exact wpAny_pyNext_range_end (I.ok.hd hc) st (by have : n ≤ i := hg; omega) fun h' eb => ⟨rfl, I.turned (t' := s.toks) (fun b o hb e => eb b o hb e) f0 f1 f3 f4 f5⟩
  self := fun _ _ _ _ _ st h => wpAny_pyIter_rangeiter st h
end L2

namespace L2
open PySem PySem.Spec PyProof.Rows
section
variable {X : Cx} {tg : Expr}
noncomputable def iList (K : PySem.W.Frag) (tl : TE) : TI := fun σ H R => tl σ H fun x H1 => ∃ a, x = .ref a ∧ (∃ xs, SqL K H1 a xs) ∧ R (Itl K a) H1
theorem pi_list {l : Expr} {tl : TE} (hl : PE X l tl) : PI X tg l (iList X.K tl) := by
  intro pins s σ H R I h
  refine thn (hl pins s σ H _ I h) fun v s1 ⟨x, H1, I1, r1, q1⟩ => ?_
  obtain ⟨a, e, ⟨xs, hq⟩, q⟩ := q1
  subst e
  cases r1
  obtain ⟨its, rv, p, hz⟩ := I1.list hq
  refine wpAny_pyIter_list p.isList ?_
  refine ⟨s1.heap.objs.size, [s1.heap.objs.size], _, _, H1, rfl, I1.kept (t' := s1.toks) fun b o e => Heap.get?_push_of_some _ e, turn_list a _, ⟨_, Heap.get?_push_size _ rfl, rfl, rfl⟩, fun b hb => ?_, q⟩
  have e : b = s1.heap.objs.size := by simpa using hb
  subst e
  exact I1.fpOk (Nat.le_refl _) (I1.hok.fresh (Nat.le_refl _))
theorem range_it {pins : List (Addr × Obj)} {σ : St} {H : Hp} {s : Shared} {R : It → Hp → Prop} {E : Value → Shared → Prop} {lo hi : Int} {t u v : Tok} {tk : Nat} (I : Inv X pins σ H s) (h1 : -(2 ^ 62) ≤ lo) (h2 : lo < 2 ^ 62) (h3 : -(2 ^ 62) ≤ hi) (h4 : hi < 2 ^ 62)
    (q : R (Itr lo (hi - lo).toNat) H) : wpAny (model X.prog X.w) X.A (pyIter (.ref s.heap.objs.size)) (PIE X pins σ tg R) E { s with heap := s.heap.push { cls := .type "range", data := .fields #[.int lo t, .int hi u, .int 1 v] }, toks := tk } := by
  refine wpAny_pyIter_range (IsRange.new ..) (small_one h1 h2 h3 h4) ?_
  have I1 : Inv X pins σ H { s with heap := s.heap.push { cls := .type "range", data := .fields #[.int lo t, .int hi u, .int 1 v] }, toks := tk } := I.kept fun b o e => Heap.get?_push_of_some _ e
  refine ⟨(s.heap.push { cls := .type "range", data := .fields #[.int lo t, .int hi u, .int 1 v] }).objs.size, [(s.heap.push { cls := .type "range", data := .fields #[.int lo t, .int hi u, .int 1 v] }).objs.size], _, _, H, rfl,
    I1.kept (t' := tk) fun b o e => Heap.get?_push_of_some _ e, turn_range _ lo (hi - lo).toNat, ?_, fun b hb => ?_, q⟩
  · have e1 : lo + ((0 : Nat) : Int) * 1 = lo := by simp
    have e2 : (((hi - lo).toNat : Nat) : Int) - ((0 : Nat) : Int) = Builtin.Range.rangeSize lo hi 1 := by rw [rangeSize_one]; split <;> omega
    show IsRangeIter _ _ (lo + ((0 : Nat) : Int) * 1) ((((hi - lo).toNat : Nat) : Int) - ((0 : Nat) : Int)) 1
    rw [e1, e2]
    exact Heap.get?_push_size _ rfl
  · have e : b = (s.heap.push { cls := .type "range", data := .fields #[.int lo t, .int hi u, .int 1 v] }).objs.size := by simpa using hb
    subst e
    exact I1.fpOk (Nat.le_refl _) (I1.hok.fresh (Nat.le_refl _))
noncomputable def iRng1 (ta : TA) : TI := fun σ H R => ta σ H fun vs H1 => ∃ j : Int, vs = [.int j] ∧ -(2 ^ 62) ≤ j ∧ j < 2 ^ 62 ∧ R (Itr 0 j.toNat) H1
theorem pi_range1 {a : Expr} {ta : TA} {p pos : Pos} (hg : Gl X "range") (hm : X.mg "range" = none) (ha : PA X [a] ta) (hs : starEach [a] X.env = [(false, eval a X.env)] := by rfl) : PI X tg (.Call (.Name "range" p) [a] [] pos) (iRng1 ta) := by
  intro pins s σ H R I h
  refine Call_ (ld_blt I hg hm boot_range (PyProof.Rows.callWith_type1 (thn (ha pos pins s σ H _ I h) fun us s1 ⟨vs, H1, I1, r1, q1⟩ => ?_) hs rfl))
  obtain ⟨j, e, q1, q2, q⟩ := q1
  subst e
  cases r1 with
  | cons r rr =>
    cases rr
    obtain ⟨t, rfl⟩ := r
    exact call_range_1 (range_it I1 (by omega) (by omega) q1 q2 (by simpa using q))
noncomputable def tFor (wi : TI) (g : TG) (tb : TS) : TS := fun D σ H => wi σ H fun J H1 => ∃ W : Nat → Nat → St → Hp → Prop, (∃ m, W 0 m σ H1) ∧ ∀ i m σ H, W i m σ H →
  (J.stop i H ∧ D.nx σ H) ∨ (J.go i H ∧ ∃ N : St → Hp → Prop, (∀ σ' H', N σ' H' → ∃ m', m' < m ∧ W (i + 1) m' σ' H') ∧ ∀ x H', J.yld i H x H' → g x σ H' fun σ2 H2 => tb { D with nx := N, ct := N, bk := D.nx } σ2 H2)

noncomputable def pinsAt (fp : List Addr) (h : Heap) : List (Addr × Obj) := fp.filterMap fun b => (h.get? b).map fun o => (b, o)
theorem mem_pinsAt {fp : List Addr} {h : Heap} {b : Addr} {o : Obj} (hb : b ∈ fp) (e : h.get? b = some o) : (b, o) ∈ pinsAt fp h := List.mem_filterMap.mpr ⟨b, hb, by rw [e]; rfl⟩
theorem of_pinsAt {fp : List Addr} {h : Heap} {p : Addr × Obj} (hp : p ∈ pinsAt fp h) : p.1 ∈ fp ∧ h.get? p.1 = some p.2 := by
  obtain ⟨b, hb, e⟩ := List.mem_filterMap.mp hp
  cases q : h.get? b with
  | none => rw [q] at e; cases e
  | some o =>
    rw [q] at e
    have e' : (b, o) = p := Option.some.inj e
    subst e'
    exact ⟨hb, q⟩
theorem Inv.pinned {pins : List (Addr × Obj)} {σ : St} {H : Hp} {s : Shared} {fp : List Addr} (I : Inv X pins σ H s) (hf : ∀ b ∈ fp, FpOk X pins H b) (ho : ∀ b ∈ fp, ∃ o, s.heap.get? b = some o ∧ ∀ v, o.data ≠ .cell v) : Inv X (pins ++ pinsAt fp s.heap) σ H s :=
  I.pins_of fun p hp => (List.mem_append.mp hp).elim (fun z => I.pin p (List.mem_append_right _ z)) fun z => by
    obtain ⟨hb, e⟩ := of_pinsAt z
    obtain ⟨f0, f1, f2, _⟩ := hf p.1 hb
    obtain ⟨o, e', d⟩ := ho p.1 hb
    rw [e] at e'; cases e'
    exact ⟨e, f0, f1, f2, d⟩
theorem Inv.unpinned {pins pl : List (Addr × Obj)} {σ : St} {H : Hp} {s : Shared} (I : Inv X (pins ++ pl) σ H s) : Inv X pins σ H s := I.pins_of fun p hp => I.pin p (List.mem_append_right _ (List.mem_append_left _ hp))
theorem ps_for {iter : Expr} {body : List Stmt} {wi : TI} {g : TG} {tb : TS} {pos : Pos} (hp : PassesOwn (model X.prog X.w) X.A X.env X.xe) (hc : X.calm = true) (hi : PI X tg iter wi) (hg : PG X tg g) (hb : PSs X body tb)
    (hs : ∀ x, foldedSetIterable iter X.env x = pure x := by intro _; rfl) : PS X (.For tg iter body [] pos) (tFor wi g tb) := by
  intro pins s σ H D I h
  refine wpAny_For (thn (hi pins s σ H _ I h) fun v s1 h1 => thn h1 fun itv s2 h2 => ?_) hs
  obtain ⟨it, fp, tn, J, H2, e, I2, T, st2, f2, W, ⟨m0, w0⟩, turn⟩ := h2
  subst e
  have stat : ∀ {H' : Hp}, (∀ b ∈ fp, H' b = none) → ∀ b ∈ fp, FpOk X pins H' b := fun hn b hb => ⟨hn b hb, (f2 b hb).2⟩
  refine codeAny_forLoop_any (fun n s' => ∃ i σ' H', Inv X pins σ' H' s' ∧ tn i s'.heap ∧ (∀ b ∈ fp, H' b = none) ∧ W i n σ' H') ?_ m0 ⟨0, σ, H2, I2, st2, fun b hb => (f2 b hb).1, w0⟩
  rintro n s3 ⟨i, σ3, H3, I3, st3, fr3, w3⟩
  rcases turn i n σ3 H3 w3 with ⟨stop, qn⟩ | ⟨go, N, hN, step⟩
  · refine wpAny_passesOwn hp (thn (T.done X rfl rfl rfl hc i pins s3 σ3 H3 X.xe I3 (stat fr3) st3 stop) fun r s4 ⟨hr, I4⟩ => ?_)
    subst hr
    exact wpAny_execs_nil ⟨σ3, H3, I4, qn⟩
  · refine wpAny_passesOwn hp (thn (T.item X rfl rfl rfl hc i pins s3 σ3 H3 X.xe I3 (stat fr3) st3 go) fun r s4 ⟨u, hr, h4⟩ => ?_)
    subst hr
    refine wpAny_passesOwn hp (thn h4 fun _ s5 ⟨x, H5, I5, r5, y5, st5, fr5⟩ => ?_)
    have I5' := I5.pinned (stat fr5) (T.obj _ _ st5)
    refine wpAny_passesOwn hp (thn (hg _ s5 σ3 H5 x u _ I5' r5 (step x H5 y5)) fun _ s6 ⟨σ6, H6, I6, q6⟩ => ?_)
    refine wpAny_passesOwn hp (thn (hb _ s6 σ6 H6 _ I6 q6) fun f s7 q7 => ?_)
    have again : ∀ {σ7 : St} {H7 : Hp}, Inv X (pins ++ pinsAt fp s5.heap) σ7 H7 s7 → N σ7 H7 → ∃ m, m < n ∧ ∃ i σ' H', Inv X pins σ' H' s7 ∧ tn i s7.heap ∧ (∀ b ∈ fp, H' b = none) ∧ W i m σ' H' := fun {σ7 H7} I7 n7 => by
      obtain ⟨m', hm, w7⟩ := hN σ7 H7 n7
      refine ⟨m', hm, i + 1, σ7, H7, I7.unpinned, T.keep _ _ _ st5 fun b hb o e => (I7.pin (b, o) (List.mem_append_right _ (List.mem_append_right _ (mem_pinsAt hb e)))).1, fun b hb => ?_, w7⟩
      obtain ⟨o, e, d⟩ := T.obj _ _ st5 b hb
      exact (I7.pin (b, o) (List.mem_append_right _ (List.mem_append_right _ (mem_pinsAt hb e)))).2.1
    cases f with
    | next => obtain ⟨σ7, H7, I7, n7⟩ := q7; exact again I7 n7
    | cont => obtain ⟨σ7, H7, I7, n7⟩ := q7; exact again I7 n7
    | brk => obtain ⟨σ7, H7, I7, q7⟩ := q7; exact ⟨σ7, H7, I7.unpinned, q7⟩
    | ret v => obtain ⟨x7, σ7, H7, I7, r7, q7⟩ := q7; exact ⟨x7, σ7, H7, I7.unpinned, r7, q7⟩
end

theorem for_list {K : PySem.W.Frag} {a : Addr} {xs : List V} {g : TG} {tb : TS} {D : Ends} {σ : St} {H : Hp} (Pv : Nat → St → Hp → Prop) (h0 : Pv 0 σ H) (hl : ∀ i σ H, i ≤ xs.length → Pv i σ H → SqL K H a xs)
    (hs : ∀ i x σ H, xs[i]? = some x → Pv i σ H → g x σ H fun σ2 H2 => tb { D with nx := Pv (i + 1), ct := Pv (i + 1), bk := D.nx } σ2 H2) (hd : ∀ σ H, Pv xs.length σ H → D.nx σ H) :
    ∃ W : Nat → Nat → St → Hp → Prop, (∃ m, W 0 m σ H) ∧ ∀ i m σ H, W i m σ H →
      ((Itl K a).stop i H ∧ D.nx σ H) ∨ ((Itl K a).go i H ∧ ∃ N : St → Hp → Prop, (∀ σ' H', N σ' H' → ∃ m', m' < m ∧ W (i + 1) m' σ' H') ∧ ∀ x H', (Itl K a).yld i H x H' → g x σ H' fun σ2 H2 => tb { D with nx := N, ct := N, bk := D.nx } σ2 H2) := by
  refine ⟨fun i m σ H => m = xs.length - i ∧ i ≤ xs.length ∧ Pv i σ H, ⟨xs.length, by simp, Nat.zero_le _, h0⟩, ?_⟩
  rintro i m σ H ⟨rfl, hi, p⟩
  have q := hl i σ H hi p
  by_cases hlt : i < xs.length
  · refine .inr ⟨⟨xs, xs[i], q, by simp [hlt]⟩, Pv (i + 1), fun σ' H' p' => ⟨xs.length - (i + 1), by omega, rfl, hlt, p'⟩, fun x H' y => ?_⟩
    obtain ⟨e, y⟩ := y
    subst e
    exact hs i x σ _ (y xs q) p
  · have e : i = xs.length := by omega
    subst e
    exact .inl ⟨⟨xs, q, Nat.le_refl _⟩, hd σ H p⟩
theorem for_range {lo : Int} {n : Nat} {g : TG} {tb : TS} {D : Ends} {σ : St} {H : Hp} (Pv : Nat → St → Hp → Prop) (h0 : Pv 0 σ H)
    (hs : ∀ i σ H, i < n → Pv i σ H → g (.int (lo + i)) σ H fun σ2 H2 => tb { D with nx := Pv (i + 1), ct := Pv (i + 1), bk := D.nx } σ2 H2) (hd : ∀ σ H, Pv n σ H → D.nx σ H) :
    ∃ W : Nat → Nat → St → Hp → Prop, (∃ m, W 0 m σ H) ∧ ∀ i m σ H, W i m σ H →
      ((Itr lo n).stop i H ∧ D.nx σ H) ∨ ((Itr lo n).go i H ∧ ∃ N : St → Hp → Prop, (∀ σ' H', N σ' H' → ∃ m', m' < m ∧ W (i + 1) m' σ' H') ∧ ∀ x H', (Itr lo n).yld i H x H' → g x σ H' fun σ2 H2 => tb { D with nx := N, ct := N, bk := D.nx } σ2 H2) := by
  refine ⟨fun i m σ H => m = n - i ∧ i ≤ n ∧ Pv i σ H, ⟨n, by simp, Nat.zero_le _, h0⟩, ?_⟩
  rintro i m σ H ⟨rfl, hi, p⟩
  by_cases hlt : i < n
  · refine .inr ⟨hlt, Pv (i + 1), fun σ' H' p' => ⟨n - (i + 1), by omega, rfl, hlt, p'⟩, fun x H' y => ?_⟩
    obtain ⟨e, y⟩ := y
    subst e y
    exact hs i σ _ hlt p
  · have e : i = n := by omega
    subst e
    exact .inl ⟨Nat.le_refl _, hd σ H p⟩

end L2

namespace L2
open PySem PySem.Spec PyProof.Rows

noncomputable abbrev R2 := V → V → Hp → VK → Prop

noncomputable def OpR (X : Cx) (f : Value → Value → Sem Value) (r : R2) : Prop :=
  ∀ (pins : List (Addr × Obj)) (s : Shared) (σ : St) (H : Hp) (x y : V) (v u : Value) (Q : VK), Inv X pins σ H s → RelV x v → RelV y u → r x y H Q →
    wpAny (model X.prog X.w) X.A (f v u) (EP X pins σ Q) X.xe s

noncomputable def UnR (X : Cx) (f : Value → Sem Value) (r : V → Hp → VK → Prop) : Prop :=
  ∀ (pins : List (Addr × Obj)) (s : Shared) (σ : St) (H : Hp) (x : V) (v : Value) (Q : VK), Inv X pins σ H s → RelV x v → r x H Q →
    wpAny (model X.prog X.w) X.A (f v) (EP X pins σ Q) X.xe s

noncomputable def CallR (X : Cx) (f : Value) (r : List V → Hp → VK → Prop) : Prop :=
  ∀ (pins : List (Addr × Obj)) (s : Shared) (σ : St) (H : Hp) (xs : List V) (us : List Value) (Q : VK), Inv X pins σ H s → Vals xs us → r xs H Q →
    wpAny (model X.prog X.w) X.A (call f us) (EP X pins σ Q) X.xe s

noncomputable def tOp (r : R2) (ta tb : TE) : TE := fun σ H Q => ta σ H fun x H1 => tb σ H1 fun y H2 => r x y H2 Q
noncomputable def tUn (r : V → Hp → VK → Prop) (ta : TE) : TE := fun σ H Q => ta σ H fun x H1 => r x H1 Q

noncomputable def rI (C : Int → Int → Prop) (g : Int → Int → V) : R2 := fun x y H Q => ∃ i j, x = .int i ∧ y = .int j ∧ C i j ∧ Q (g i j) H
noncomputable def rI0 (g : Int → Int → V) : R2 := fun x y H Q => ∃ i j, x = .int i ∧ y = .int j ∧ Q (g i j) H
noncomputable def rU (g : Int → V) : V → Hp → VK → Prop := fun x H Q => ∃ i, x = .int i ∧ Q (g i) H

section
variable {X : Cx} {a b c : Expr} {ta tb tc : TE} {pos : Pos}

theorem binT (ha : PE X a ta) (hb : PE X b tb) {pins : List (Addr × Obj)} {s : Shared} {σ : St} {H : Hp} {R : V → V → Hp → Prop} (I : Inv X pins σ H s)
    (h : ta σ H fun x H1 => tb σ H1 fun y H2 => R x y H2) {Q : Value → Shared → Prop} {f : Value → Value → Sem Value}
    (hf : ∀ v u s2 x y H2, Inv X pins σ H2 s2 → RelV x v → RelV y u → R x y H2 → wpAny (model X.prog X.w) X.A (f v u) Q X.xe s2) :
    wpAny (model X.prog X.w) X.A (eval a X.env) (fun v s₁ => wpAny (model X.prog X.w) X.A (eval b X.env) (fun u s₂ => wpAny (model X.prog X.w) X.A (f v u) Q X.xe s₂) X.xe s₁) X.xe s := by
  refine thn (ha pins s σ H _ I h) fun v s1 ⟨x, H1, I1, r1, q1⟩ => ?_
  refine thn (hb pins s1 σ H1 _ I1 q1) fun u s2 ⟨y, H2, I2, r2, q2⟩ => ?_
  exact hf v u s2 x y H2 I2 r1 r2 q2

theorem pe_op {op : Operator} {r : R2} (ho : OpR X (binaryOp op) r) (ha : PE X a ta) (hb : PE X b tb) : PE X (.BinOp a op b pos) (tOp r ta tb) := by
  intro pins s σ H Q I h
  exact wpAny_BinOp (binT ha hb I h fun v u s2 x y H2 I2 rx ry q => ho pins s2 σ H2 x y v u Q I2 rx ry q)
theorem pe_un {op : UnaryOp} {r : V → Hp → VK → Prop} (ho : UnR X (unaryOp op) r) (ha : PE X a ta) : PE X (.UnaryOp op a pos) (tUn r ta) := by
  intro pins s σ H Q I h
  exact UnaryOp_ (thn (ha pins s σ H _ I h) fun v s1 ⟨x, H1, I1, r1, q1⟩ => ho pins s1 σ H1 x v Q I1 r1 q1)

theorem opI {f : Value → Value → Sem Value} {C : Int → Int → Prop} {g : Int → Int → Int}
    (rule : ∀ (i j : Int) (t u : Tok) (s : Shared) (Q : Value → Shared → Prop) (E : Value → Shared → Prop), C i j → Q (.int (g i j) s.toks) { s with toks := s.toks + 1 } → wpAny (model X.prog X.w) X.A (f (.int i t) (.int j u)) Q E s) :
    OpR X f (rI C fun i j => .int (g i j)) := by
  intro pins s σ H x y v u Q I rx ry h
  obtain ⟨i, j, rfl, rfl, hc, q⟩ := h
  obtain ⟨t, rfl⟩ := rx
  obtain ⟨t', rfl⟩ := ry
  exact rule i j t t' s _ _ hc ⟨.int (g i j), H, I.tok _, ⟨_, rfl⟩, q⟩
theorem opI0 {f : Value → Value → Sem Value} {g : Int → Int → Int}
    (rule : ∀ (i j : Int) (t u : Tok) (s : Shared) (Q : Value → Shared → Prop) (E : Value → Shared → Prop), Q (.int (g i j) s.toks) { s with toks := s.toks + 1 } → wpAny (model X.prog X.w) X.A (f (.int i t) (.int j u)) Q E s) :
    OpR X f (rI0 fun i j => .int (g i j)) := by
  intro pins s σ H x y v u Q I rx ry h
  obtain ⟨i, j, rfl, rfl, q⟩ := h
  obtain ⟨t, rfl⟩ := rx
  obtain ⟨t', rfl⟩ := ry
  exact rule i j t t' s _ _ ⟨.int (g i j), H, I.tok _, ⟨_, rfl⟩, q⟩
theorem opB0 {f : Value → Value → Sem Value} {g : Int → Int → Bool}
    (rule : ∀ (i j : Int) (t u : Tok) (s : Shared) (Q : Value → Shared → Prop) (E : Value → Shared → Prop), Q (.bool (g i j)) s → wpAny (model X.prog X.w) X.A (f (.int i t) (.int j u)) Q E s) :
    OpR X f (rI0 fun i j => .bl (g i j)) := by
  intro pins s σ H x y v u Q I rx ry h
  obtain ⟨i, j, rfl, rfl, q⟩ := h
  obtain ⟨t, rfl⟩ := rx
  obtain ⟨t', rfl⟩ := ry
  exact rule i j t t' s _ _ ⟨.bl (g i j), H, I, rfl, q⟩

noncomputable def CPow (i j : Int) : Prop := 0 ≤ j ∧ j ≤ 1000000 ∧ i.natAbs < 2 ^ 64
theorem op_add : OpR X (binaryOp .Add) (rI0 fun i j => .int (i + j)) := opI0 fun _ _ _ _ _ _ _ q => add_int q
theorem op_sub : OpR X (binaryOp .Sub) (rI0 fun i j => .int (i - j)) := opI0 fun _ _ _ _ _ _ _ q => sub_int q
theorem op_mod : OpR X (binaryOp .Mod) (rI (fun _ j => 0 < j) fun i j => .int (i % j)) := opI fun i j _ _ _ _ _ hc q => by
  have h1 : (0 : Int) < j := hc
  exact mod_int' (by omega) (by rw [Int.fmod_eq_emod_of_nonneg i (by omega)]; exact q)
theorem op_modN : OpR X (binaryOp .Mod) (rI (fun _ j => j ≠ 0) fun i j => .int (i.fmod j)) := opI fun _ _ _ _ _ _ _ hc q => mod_int' hc q
theorem op_pow : OpR X (binaryOp .Pow) (rI CPow fun i j => .int (i ^ j.toNat)) := opI fun _ _ _ _ _ _ _ hc q => pow_int_small hc.1 hc.2.1 hc.2.2 q
theorem unI {f : Value → Sem Value} {g : Int → Int}
    (rule : ∀ (i : Int) (t : Tok) (s : Shared) (Q : Value → Shared → Prop) (E : Value → Shared → Prop), Q (.int (g i) s.toks) { s with toks := s.toks + 1 } → wpAny (model X.prog X.w) X.A (f (.int i t)) Q E s) :
    UnR X f (rU fun i => .int (g i)) := by
  intro pins s σ H x v Q I rx h
  obtain ⟨i, rfl, q⟩ := h
  obtain ⟨t, rfl⟩ := rx
  exact rule i t s _ _ ⟨.int (g i), H, I.tok _, ⟨_, rfl⟩, q⟩
theorem un_neg : UnR X (unaryOp .USub) (rU fun i => .int (-i)) := unI fun _ _ _ _ _ q => neg_int q
end

noncomputable def scal : V → V → Bool
  | .non, .non => true | .non, .int _ => true | .int _, .non => true | .non, .bl _ => true | .bl _, .non => true | .non, .str _ => true | .str _, .non => true
  | .int _, .int _ => true | .bl _, .bl _ => true | .str _, .str _ => true | .byt _, .byt _ => true
  | .int _, .str _ => true | .str _, .int _ => true | .bl _, .str _ => true | .str _, .bl _ => true
  | _, _ => false
noncomputable def rEq : R2 := fun x y H Q => scal x y = true ∧ Q (.bl (decide (x = y))) H
noncomputable def rNe : R2 := fun x y H Q => scal x y = true ∧ Q (.bl (!decide (x = y))) H

theorem dec_int {i j : Int} : decide (V.int i = V.int j) = (i == j) := by
  rw [Bool.eq_iff_iff]
  simp
theorem dec_bl {i j : Bool} : decide (V.bl i = V.bl j) = (i == j) := by
  rw [Bool.eq_iff_iff]
  simp
theorem dec_str {i j : Str} : decide (V.str i = V.str j) = (i == j) := by
  rw [Bool.eq_iff_iff]
  simp
theorem dec_byt {i j : Array UInt8} : decide (V.byt i = V.byt j) = (i.toList == j.toList) := by
  rw [Bool.eq_iff_iff]
  cases i
  cases j
  simp

section
variable {X : Cx} {a b c : Expr} {ta tb tc : TE} {pos : Pos}
theorem fin_bl {pins : List (Addr × Obj)} {σ : St} {H : Hp} {s : Shared} {Q : VK} {k k' : Bool} (I : Inv X pins σ H s) (q : Q (.bl k) H) (e : k = k') : EP X pins σ Q (.bool k') s := by
  subst e
  exact ⟨.bl k, H, I, rfl, q⟩
theorem op_eq : OpR X (compareOp .Eq) rEq := by
  intro pins s σ H x y v u Q I rx ry h
  obtain ⟨hs, q⟩ := h
  cases x with
  | non =>
    cases rx
    cases y with
    | non => cases ry; exact PySem.EqNone.eq_none_none (fin_bl I q (by simp))
    | bl j => cases ry; exact PySem.EqNone.eq_none_bool (fin_bl I q (by simp))
    | int j => obtain ⟨t', rfl⟩ := ry; exact PySem.EqNone.eq_none_int (fin_bl I q (by simp))
    | str j => obtain ⟨t', rfl⟩ := ry; exact PySem.EqNone.eq_none_str (fin_bl I q (by simp))
    | _ => exact absurd (show false = true from hs) Bool.false_ne_true
  | bl i =>
    cases rx
    cases y with
    | non => cases ry; exact PySem.EqNone.eq_bool_none (fin_bl I q (by simp))
    | bl j => cases ry; exact eq_bool (fin_bl I q dec_bl)
    | str j => obtain ⟨t', rfl⟩ := ry; exact PySem.EqMixed.eq_bool_str (fin_bl I q (by simp))
    | _ => exact absurd (show false = true from hs) Bool.false_ne_true
  | int i =>
    obtain ⟨t, rfl⟩ := rx
    cases y with
    | non => cases ry; exact PySem.EqNone.eq_int_none (fin_bl I q (by simp))
    | int j => obtain ⟨t', rfl⟩ := ry; exact eq_int (fin_bl I q dec_int)
    | str j => obtain ⟨t', rfl⟩ := ry; exact PySem.EqMixed.eq_int_str (fin_bl I q (by simp))
    | _ => exact absurd (show false = true from hs) Bool.false_ne_true
  | str i =>
    obtain ⟨t, rfl⟩ := rx
    cases y with
    | non => cases ry; exact PySem.EqNone.eq_str_none (fin_bl I q (by simp))
    | bl j => cases ry; exact PySem.EqMixed.eq_str_bool (fin_bl I q (by simp))
    | int j => obtain ⟨t', rfl⟩ := ry; exact PySem.EqMixed.eq_str_int (fin_bl I q (by simp))
    | str j => obtain ⟨t', rfl⟩ := ry; exact eq_str (fin_bl I q dec_str)
    | _ => exact absurd (show false = true from hs) Bool.false_ne_true
  | byt i =>
    obtain ⟨t, rfl⟩ := rx
    cases y with
    | byt j => obtain ⟨t', rfl⟩ := ry; exact PySem.W.eq_bytes (fin_bl I q dec_byt)
    | _ => exact absurd (show false = true from hs) Bool.false_ne_true
  | _ => cases y <;> exact absurd (show false = true from hs) Bool.false_ne_true
theorem op_ne : OpR X (compareOp .NotEq) rNe := by
  intro pins s σ H x y v u Q I rx ry h
  obtain ⟨hs, q⟩ := h
  cases x with
  | non =>
    cases rx
    cases y with
    | non => cases ry; exact PySem.EqNone.ne_none_none (fin_bl I q (by simp))
    | bl j => cases ry; exact PySem.EqNone.ne_none_bool (fin_bl I q (by simp))
    | int j => obtain ⟨t', rfl⟩ := ry; exact PySem.EqNone.ne_none_int (fin_bl I q (by simp))
    | str j => obtain ⟨t', rfl⟩ := ry; exact PySem.EqNone.ne_none_str (fin_bl I q (by simp))
    | _ => exact absurd (show false = true from hs) Bool.false_ne_true
  | bl i =>
    cases rx
    cases y with
    | non => cases ry; exact PySem.EqNone.ne_bool_none (fin_bl I q (by simp))
    | bl j => cases ry; exact ne_bool (fin_bl I q (congrArg not dec_bl))
    | str j => obtain ⟨t', rfl⟩ := ry; exact PySem.EqMixed.ne_bool_str (fin_bl I q (by simp))
    | _ => exact absurd (show false = true from hs) Bool.false_ne_true
  | int i =>
    obtain ⟨t, rfl⟩ := rx
    cases y with
    | non => cases ry; exact PySem.EqNone.ne_int_none (fin_bl I q (by simp))
    | int j => obtain ⟨t', rfl⟩ := ry; exact ne_int (fin_bl I q (congrArg not dec_int))
    | str j => obtain ⟨t', rfl⟩ := ry; exact PySem.EqMixed.ne_int_str (fin_bl I q (by simp))
    | _ => exact absurd (show false = true from hs) Bool.false_ne_true
  | str i =>
    obtain ⟨t, rfl⟩ := rx
    cases y with
    | non => cases ry; exact PySem.EqNone.ne_str_none (fin_bl I q (by simp))
    | bl j => cases ry; exact PySem.EqMixed.ne_str_bool (fin_bl I q (by simp))
    | int j => obtain ⟨t', rfl⟩ := ry; exact PySem.EqMixed.ne_str_int (fin_bl I q (by simp))
    | str j => obtain ⟨t', rfl⟩ := ry; exact ne_str (fin_bl I q (congrArg not dec_str))
    | _ => exact absurd (show false = true from hs) Bool.false_ne_true
  | byt i =>
    obtain ⟨t, rfl⟩ := rx
    cases y with
    | byt j => obtain ⟨t', rfl⟩ := ry; exact PySem.W.ne_bytes (fin_bl I q (congrArg not dec_byt))
    | _ => exact absurd (show false = true from hs) Bool.false_ne_true
  | _ => cases y <;> exact absurd (show false = true from hs) Bool.false_ne_true

theorem op_lt : OpR X (compareOp .Lt) (rI0 fun i j => .bl (decide (i < j))) := opB0 fun _ _ _ _ _ _ _ q => lt_int q
theorem op_gt : OpR X (compareOp .Gt) (rI0 fun i j => .bl (decide (j < i))) := opB0 fun _ _ _ _ _ _ _ q => gt_int q
theorem op_ge : OpR X (compareOp .GtE) (rI0 fun i j => .bl (decide (j ≤ i))) := opB0 fun _ _ _ _ _ _ _ q => ge_int q
theorem op_notN : OpR X (compareOp .IsNot) (fun x y H Q => y = .non ∧ Q (.bl (!decide (x = .non))) H) := by
  intro pins s σ H x y v u Q I rx ry h
  obtain ⟨rfl, q⟩ := h
  cases ry
  refine isnot_none_gen (fin_bl I q ?_)
  cases x <;> first
    | (cases rx; rfl)
    | (obtain ⟨t, rfl⟩ := rx; rfl)

theorem nomark (b : Expr) {op : CmpOp} (h : op ≠ .In := by decide) (h2 : op ≠ .NotIn := by decide) : behindInMarks op b = false := by
  have e1 : (op == CmpOp.In) = false := by cases op <;> first | rfl | exact absurd rfl h
  have e2 : (op == CmpOp.NotIn) = false := by cases op <;> first | rfl | exact absurd rfl h2
  cases b <;> simp [behindInMarks, e1, e2]

theorem pe_cmpR {op : CmpOp} {r : R2} (ho : OpR X (compareOp op) r) (ha : PE X a ta) (hb : PE X b tb) (hm : behindInMarks op b = false) : PE X (.Compare a [op] [b] pos) (tOp r ta tb) := by
  intro pins s σ H Q I h
  exact wpAny_Compare1 (binT ha hb I h fun v u s2 x y H2 I2 rx ry q => ho pins s2 σ H2 x y v u Q I2 rx ry q) hm

noncomputable def tTest (t : TE) : TT := fun σ H Q => t σ H fun x H' => ∃ k, x = .bl k ∧ Q k H'
theorem pt_cmpR {op : CmpOp} {r : R2} (ho : OpR X (compareOp op) r) (ha : PE X a ta) (hb : PE X b tb) (hm : behindInMarks op b = false) : PT X (.Compare a [op] [b] pos) (tTest (tOp r ta tb)) := by
  intro pins s σ H Q I h
  refine wpAny_isTrue_Compare1 (thn (ha pins s σ H _ I h) fun v s1 ⟨x, H1, I1, r1, q1⟩ => thn (hb pins s1 σ H1 _ I1 q1) fun u s2 ⟨y, H2, I2, r2, q2⟩ =>
    thn (ho pins s2 σ H2 x y v u _ I2 r1 r2 q2) fun c s3 ⟨z, H3, I3, r3, k, e, q3⟩ => ?_) hm
  subst e
  cases r3
  exact wpAny_truthy_bool ⟨H3, I3, q3⟩

theorem line63 : (sizeLine : Nat) < 2 ^ 63 := by rw [sizeLine_eq]; decide
theorem vals1 {x : V} {us : List Value} (r : Vals [x] us) : ∃ u, us = [u] ∧ RelV x u := by
  cases r with
  | cons r1 r2 => cases r2; exact ⟨_, rfl, r1⟩
theorem vals2 {x y : V} {us : List Value} (r : Vals [x, y] us) : ∃ u w', us = [u, w'] ∧ RelV x u ∧ RelV y w' := by
  cases r with
  | cons r1 r2 =>
    cases r2 with
    | cons r3 r4 => cases r4; exact ⟨_, _, rfl, r1, r3⟩
theorem call_abs : CallR X (.builtin "abs") (fun xs H Q => ∃ i, xs = [.int i] ∧ Q (.int (if i < 0 then -i else i)) H) := by
  intro pins s σ H xs us Q I r h
  obtain ⟨i, rfl, q⟩ := h
  obtain ⟨u, rfl, t, rfl⟩ := vals1 r
  exact call_abs_int fun u tk => ⟨.int (if i < 0 then -i else i), H, I.tok _, ⟨_, rfl⟩, q⟩
end
end L2

namespace L2
open PySem PySem.Spec PyProof.Rows

structure ObjM (h : Heap) (x dx C : Addr) (mA : Str → Option Value) : Prop where
  obj : h.get? x = some (PySem.W.instObj C dx)
  ns : h.Ns1 dx mA
  ne : dx ≠ x

theorem lookIn_ns {h : Heap} {dx : Addr} {mA : Str → Option Value} (n : h.Ns1 dx mA) : ∃ od, h.get? dx = some od ∧ ∀ name, PySem.W.lookIn name od = some (mA name) := by
  obtain ⟨o, es, ep, ho, hd, hk, _, hm⟩ := n
  refine ⟨o, ho, fun name => ?_⟩
  have e := hm name
  unfold nsFind findBy at e
  rw [← Array.find?_toList] at e
  unfold PySem.W.lookIn
  rw [hd]
  dsimp only
  split
  · rename_i y q
    rw [q] at e
    exact congrArg some e
  · rename_i q
    rw [q] at e
    have a : es.toList.any (·.refKey) = false := by
      rw [List.any_eq_false]
      intro y hy
      obtain ⟨z, t, hkey⟩ := hk y (Array.mem_toList_iff.mp hy)
      simp [DictEntry.refKey, hkey]
    have a' : ¬ es.toList.any (·.refKey) = true := by rw [a]; exact Bool.false_ne_true
    rw [if_neg a']
    exact congrArg some e

theorem ObjM.look {h : Heap} {x dx C : Addr} {mA : Str → Option Value} (I : ObjM h x dx C mA) : ∃ od, PySem.W.InstAt h x (PySem.W.instObj C dx) C (some od) ∧ ∀ name, PySem.W.lookIn name od = some (mA name) :=
  let ⟨od, ho, hl⟩ := lookIn_ns I.ns
  ⟨od, ⟨I.obj, rfl, rfl, ho⟩, hl⟩

section
variable {prog : Program} {w : World} {A : Around} {E : Value → Shared → Prop} {s : Shared} {K : PySem.W.Frag} {x dx C f : Addr} {mA : Str → Option Value} {name : Str} {v : Value}

end

section
variable {P : Program} {w : World} {H H' : Hp} {h h' : Heap} {a C dx : Addr} {fs fs' : List (Str × V)}
theorem ins_get (hok : HOk P w H h) (e : H a = some (.ins C dx fs)) : ∃ mA, ObjM h a dx C mA ∧ (∀ f, RelO (fs.lookup f) (mA f)) ∧ PySem.Within mA (fs.map (·.1)) ∧ fs.length ≤ 1000 ∧ H dx = some (.own a) := by
  obtain ⟨d, z, ne, ob, mA, n, r, q⟩ := (show ObjOk P w H h a (.ins C dx fs) from hok a _ e)
  exact ⟨mA, ⟨ob, n, ne⟩, r, q, z, d⟩
end

structure Cls (K : PySem.W.Frag) (C : Addr) : Prop where
  pg : PySem.W.plainGet K C Str.empty = true
  hd : PySem.W.hasDictIn K C = true
  po : PySem.W.plainOver K C = true
  sa : PySem.W.findIn K (.ref C) "__setattr__" = some (some (.builtin "object.__setattr__"))
theorem Cls.get {K : PySem.W.Frag} {C : Addr} (c : Cls K C) (f : Str) : PySem.W.plainGet K C f = true := c.pg

section
variable {X : Cx} {pins : List (Addr × Obj)} {σ : St} {H : Hp} {s : Shared} {a C dx : Addr} {fs : List (Str × V)} {f : Str} {v : V} {A : Around} {E : Value → Shared → Prop}

end

section
variable {X : Cx} {o e value : Expr} {f : Str} {pos pos' tpos : Pos} {ta tv : TE}
end

section
variable {X : Cx} {pins : List (Addr × Obj)} {σ : St} {H : Hp} {s : Shared} {A : Around} {E : Value → Shared → Prop} {Q : Value → Shared → Prop} {c : Value} {b : Bool}

inductive TyOf (K : PySem.W.Frag) (H : Hp) : V → Value → Prop where
  | non : TyOf K H .non (.type "NoneType")
  | bl (x : Bool) : TyOf K H (.bl x) (.type "bool")
  | int (i : Int) : TyOf K H (.int i) (.type "int")
  | str (x : Str) : TyOf K H (.str x) (.type "str")
  | flt (x : UInt64) : TyOf K H (.flt x) (.type "float")
  | lst {a : Addr} {xs : List V} (e : H a = some (.lst xs)) : TyOf K H (.ref a) (.type "list")
  | frz {a : Addr} {o : Obj} {xs : List V} (e : H a = some (.frz o (.lst xs))) : TyOf K H (.ref a) (.type "list")
  | tup {a : Addr} {xs : List V} (e : H a = some (.tup xs)) : TyOf K H (.ref a) (.type "tuple")
  | dK {a : Addr} {kvs : List (Key × V)} (e : H a = some (.dK kvs)) : TyOf K H (.ref a) (.type "dict")
  | dT {a : Addr} {kvs : List (List Key × V)} (e : H a = some (.dT kvs)) : TyOf K H (.ref a) (.type "dict")
  | ins {a C dx : Addr} {fs : List (Str × V)} (e : H a = some (.ins C dx fs)) (cl : Cls K C) (ha : PySem.W.findIn K (.ref C) "__class__" = some (some (.builtin "object.__class__")))
      (hn : PySem.W.specialIn K (.builtin "object.__class__") "__get__" = some (some (.builtin "getset_descriptor.__get__"))) (htk : PySem.W.takesIn K (.builtin "object.__class__") = some true)
      (hm : PySem.W.mroIn K C (.type "object") = some true) : TyOf K H (.ref a) (.ref C)

theorem isinst_ok {x : V} {u t : Value} (I : Inv X pins σ H s) (rx : RelV x u) (ty : TyOf X.K H x t) (e : PySem.W.kitOne X.K t c = some b) (h : ∀ tk, Q (.bool b) { s with toks := tk }) :
    wpAny (model X.prog X.w) A (call (.builtin "isinstance") [u, c]) Q E s := by
  cases ty with
  | non => cases (show u = Value.none from rx); exact PySem.W.kia_one PySem.W.kitx_none I.kIn True.intro e (fun z => nomatch z) h
  | bl y => cases (show u = Value.bool y from rx); exact PySem.W.kia_one PySem.W.kitx_bool I.kIn True.intro e (fun z => nomatch z) h
  | int i => obtain ⟨t, q⟩ := (show ∃ t, u = Value.int i t from rx); cases q; exact PySem.W.kia_one PySem.W.kitx_int I.kIn True.intro e (fun z => nomatch z) h
  | str y => obtain ⟨t, q⟩ := (show ∃ t, u = Value.str y t from rx); cases q; exact PySem.W.kia_one PySem.W.kitx_str I.kIn True.intro e (fun z => nomatch z) h
  | flt y => obtain ⟨t, q⟩ := (show ∃ t, u = Value.float y t from rx); cases q; exact PySem.W.kia_one PySem.W.kitx_float I.kIn True.intro e (fun z => nomatch z) h
  | @lst a xs ea =>
    cases (show u = Value.ref a from rx)
    obtain ⟨_, _, n, _, h1⟩ := (show ObjOk X.prog X.w H s.heap a (.lst xs) from I.hok a _ ea)
    exact PySem.W.kia_one PySem.W.kitx_list I.kIn ⟨_, h1, rfl⟩ e (fun z => nomatch z) h
  | @frz a ob xs ea =>
    cases (show u = Value.ref a from rx)
    obtain ⟨_, _, _, n, _, h1⟩ := (show ObjOk X.prog X.w H s.heap a (.frz ob (.lst xs)) from I.hok a _ ea)
    exact PySem.W.kia_one PySem.W.kitx_list I.kIn ⟨_, h1, rfl⟩ e (fun z => nomatch z) h
  | @tup a xs ea =>
    cases (show u = Value.ref a from rx)
    obtain ⟨_, _, _, p⟩ := (show ObjOk X.prog X.w H s.heap a (.tup xs) from I.hok a _ ea)
    obtain ⟨o, h1, h2, _⟩ := p
    exact PySem.W.kia_one PySem.W.kitx_tuple I.kIn ⟨o, h1, h2⟩ e (fun z => nomatch z) h
  | @dK a kvs ea =>
    cases (show u = Value.ref a from rx)
    obtain ⟨_, _, vs, _, p⟩ := (show ObjOk X.prog X.w H s.heap a (.dK kvs) from I.hok a _ ea)
    obtain ⟨o, es, ep, h1, h2, _⟩ := p
    exact PySem.W.kia_one PySem.W.kitx_dict I.kIn ⟨o, h1, h2.1⟩ e (fun z => nomatch z) h
  | @dT a kvs ea =>
    cases (show u = Value.ref a from rx)
    obtain ⟨_, _, xs, _, o, es, ep, h1, h2, _⟩ := (show ObjOk X.prog X.w H s.heap a (.dT kvs) from I.hok a _ ea)
    exact PySem.W.kia_one PySem.W.kitx_dict I.kIn ⟨o, h1, h2.1⟩ e (fun z => nomatch z) h
  | @ins a C dx fs ea cl ha hn htk hm =>
    cases (show u = Value.ref a from rx)
    obtain ⟨mA, O, _⟩ := ins_get I.hok ea
    obtain ⟨od, J, _⟩ := O.look
    exact PySem.W.kia_one (PySem.W.kitx_own (cl.get _) cl.hd ha hn htk hm) I.kIn J e (fun z => nomatch z) h
end
end L2

namespace L2
open PySem PySem.Spec PyProof.Rows

structure Room (k : Nat) (A : Around) : Prop where
  hd : A.handled = none
  dp : A.depth + 3 * k + 5 < recursionLimit
  un : A.units + 16 * k + 200 < cLine
theorem Room.mono {j k : Nat} {A : Around} (r : Room k A) (h : j ≤ k) : Room j A := ⟨r.hd, by have := r.dp; omega, by have := r.un; omega⟩
theorem Room.deeper {k : Nat} {A : Around} (r : Room (k + 1) A) (env : Env) : Room k (A.deeper env) :=
  ⟨r.hd, by have := r.dp; show A.depth + 1 + 3 * k + 5 < _; omega, by have := r.un; show A.units + 3 + 16 * k + 200 < _; omega⟩
theorem Room.depth {k : Nat} {A : Around} (r : Room k A) : A.depth < recursionLimit := by have := r.dp; omega
theorem Room.units {k : Nat} {A : Around} (r : Room k A) : A.units + 64 < cLine := by have := r.un; omega
noncomputable def tNil : TA := fun _ H Q => Q [] H
noncomputable def tCons (ta : TE) (tr : TA) : TA := fun σ H Q => ta σ H fun x H1 => tr σ H1 fun xs H2 => Q (x :: xs) H2
section
variable {X : Cx} {e : Expr} {es : List Expr} {te : TE} {t : TA} {pos : Pos}
theorem pa_nil : PA X [] tNil := fun _ _ _ _ H Q I h => Calls.spliced_nil ⟨[], H, I, .nil, h⟩
theorem pa_cons (ha : PE X e te) (hr : PA X es t) (hs : starEach (e :: es) X.env = (false, eval e X.env) :: starEach es X.env := by rfl) : PA X (e :: es) (tCons te t) := by
  intro pos pins s σ H Q I h
  rw [hs]
  show wpAny _ _ (spliced ((false, eval e X.env) :: backTo pos (starEach es X.env))) _ _ s
  refine Calls.spliced_cons (thn (ha pins s σ H _ I h) fun u s1 ⟨x, H1, I1, r1, q1⟩ => ?_)
  exact thn (hr pos pins s1 σ H1 _ I1 q1) fun us s2 ⟨xs, H2, I2, r2, q2⟩ => ⟨x :: xs, H2, I2, .cons r1 r2, q2⟩

noncomputable def tTup (t : TA) : TE := fun σ H Q => t σ H fun xs H1 => xs.length ≤ sizeLine ∧ ∀ p, H1 p = none → Q (.ref p) (upd H1 p (.tup xs))
noncomputable def tLst (t : TA) : TE := fun σ H Q => t σ H fun xs H1 => xs.length ≤ sizeLine ∧ ∀ p, H1 p = none → Q (.ref p) (upd H1 p (.lst xs))
theorem pe_tup {x1} (h : PA X es t) : PE X (.Tuple es x1 pos) (tTup t) := by
  intro pins s σ H Q I hq
  refine wpAny_Tuple_spliced (thn (h pos pins s σ H _ I hq) fun us s1 ⟨xs, H1, I1, r, z, q⟩ => ⟨by rw [← r.length]; exact z, ?_⟩)
  have hf : H1 s1.heap.objs.size = none := I1.hok.fresh (Nat.le_refl _)
  refine ⟨.ref s1.heap.objs.size, upd H1 s1.heap.objs.size (.tup xs), I1.laid (t' := s1.toks) (fun b u e => Heap.get?_push_of_some _ e) (Nat.le_refl _) ?_, rfl, q _ hf⟩
  exact ⟨z, us, r, ⟨_, Heap.get?_push_size _ rfl, rfl, _, rfl⟩⟩
theorem pe_lst (h : PA X es t) : PE X (.List es pos) (tLst t) := by
  intro pins s σ H Q I hq
  refine wpAny_List_spliced (thn (h pos pins s σ H _ I hq) fun us s1 ⟨xs, H1, I1, r, z, q⟩ => ⟨by rw [← r.length]; exact z, ?_⟩)
  have hf : H1 s1.heap.objs.size = none := I1.hok.fresh (Nat.le_refl _)
  refine ⟨.ref s1.heap.objs.size, upd H1 s1.heap.objs.size (.lst xs), I1.laid (t' := s1.toks) (fun b u e => Heap.get?_push_of_some _ e) (Nat.le_refl _) ?_, rfl, q _ hf⟩
  exact ⟨z, us, 0, r, Heap.get?_push_size _ rfl⟩
end

noncomputable abbrev Sp := List V → Hp → VK → XK → Prop

noncomputable abbrev CXT := List Env → Hp → Shared → XK → Value → Shared → Prop

structure Env0 (P : Program) (w : World) (K : PySem.W.Frag) (mg : Str → Option Value) (base : Heap) (A : Around) (outer : List Env) (s : Shared) (H : Hp) : Prop where
  frames : A.frames = some outer
  mod : Mod K mg base
  bs : ∀ b o, base.get? b = some o → s.heap.get? b = some o ∧ H b = none
  bsz : base.objs.size ≤ s.heap.objs.size
  funs : s.heap.FunFrames base outer
  frf : ∀ b ∈ frs outer, H b = none
  hok : HOk P w H s.heap
  bare : AllBare s.gens

noncomputable def CE (outer : List Env) (P : Program) (w : World) (H : Hp) (s : Shared) (Q : VK) (u : Value) (s' : Shared) : Prop :=
  ∃ v H', s'.os = s.os ∧ AllBare s'.gens ∧ Un (frs outer) [] H H' s.heap s'.heap ∧ HOk P w H' s'.heap ∧ RelV v u ∧ Q v H'
noncomputable def CR (CX : CXT) (outer : List Env) (P : Program) (w : World) (H : Hp) (s : Shared) (Q : VK) (E : XK) (r : Result) (s' : Shared) : Prop :=
  match r with
  | .ok (.ret u) => CE outer P w H s Q u s'
  | .ok _ => False
  | .error e => CX outer H s E e s'
structure FnOk (P : Program) (w : World) (K : PySem.W.Frag) (mg : Str → Option Value) (base : Heap) (CX : CXT) (k : Nat) (f : Addr) (fd : FuncData) (ps : List Str) (sp : Sp) : Prop where
  len : ∀ vs H Q E, sp vs H Q E → vs.length = ps.length
  run : ∀ (A : Around) (outer : List Env) (s : Shared) (H : Hp) (args : Args) (us : List Value) (vs : List V) (Q : VK) (E : XK), Room k A → Env0 P w K mg base A outer s H → BindsTo s fd args (ps.zip us) → Vals vs us → sp vs H Q E →
    codeAny (model P w) A (.call (.ref f) args) (CR CX outer P w H s Q E) s
theorem FnOk.imp {P : Program} {w : World} {K : PySem.W.Frag} {mg : Str → Option Value} {base : Heap} {CX : CXT} {k : Nat} {f : Addr} {fd : FuncData} {ps : List Str} {sp sp' : Sp} (F : FnOk P w K mg base CX k f fd ps sp)
    (h : ∀ vs H Q E, sp' vs H Q E → sp vs H Q E) : FnOk P w K mg base CX k f fd ps sp' :=
  ⟨fun vs H Q E q => F.len vs H Q E (h _ _ _ _ q), fun A outer s H args us vs Q E hr he hb hv hs => F.run A outer s H args us vs Q E hr he hb hv (h _ _ _ _ hs)⟩

section
variable {X : Cx} {pins : List (Addr × Obj)} {σ : St} {H : Hp} {s s' : Shared}

theorem Inv.env0 (I : Inv X pins σ H s) : Env0 X.prog X.w X.K X.mg X.base X.A X.stack s H :=
  ⟨I.ok.frames, I.ok.mod, I.bs, Nat.le_trans I.ok.bsz I.sz, I.stack, I.stkFree, I.hok, I.bare⟩

theorem Inv.after {Q : VK} {u : Value} (I : Inv X pins σ H s) (h : CE X.stack X.prog X.w H s Q u s') : EP X pins σ Q u s' := by
  obtain ⟨v, H', os, bare, un, hok, r, q⟩ := h
  obtain ⟨hh, g, d, t, os'⟩ := s'
  obtain rfl : os' = s.os := os
  exact ⟨v, H', I.call (h' := hh) (g' := g) (d' := d) (t' := t) (ch := []) un hok bare (fun b z => absurd z (by simp)), r, q⟩
end

noncomputable def tCall (sp : Sp) (dvs : List V) (E : XK) (t : TA) : TE := fun σ H Q => t σ H fun vs H1 => sp (vs ++ dvs) H1 Q E

noncomputable def Binds (K : PySem.W.Frag) (fd : FuncData) (ps : List Str) (ds : List Value) : Prop :=
  ∀ (s : Shared) (us : List Value), K.In s.heap → (us ++ ds).length = ps.length → BindsTo s fd ⟨us, []⟩ (ps.zip (us ++ ds))

theorem Binds.all {K : PySem.W.Frag} {fd : FuncData} {ps : List Str} (h : ∀ us : List Value, us.length = ps.length → bindArgs fd ⟨us, []⟩ = pure (ps.zip us)) : Binds K fd ps [] := fun s us _ hl => by
  rw [List.append_nil] at hl ⊢
  exact .of_eq (h us hl)

noncomputable def Passes (CX : CXT) (X : Cx) (E : XK) : Prop := ∀ (pins : List (Addr × Obj)) (σ : St) (H : Hp) (s : Shared) (e : Value) (s' : Shared), Inv X pins σ H s → CX X.stack H s E e s' → X.xe e s'

section
variable {X : Cx} {CX : CXT} {k : Nat} {f C : Addr} {fd : FuncData} {ps : List Str} {sp : Sp} {dvs : List V} {ds : List Value} {E : XK} {x m : Str} {p pos apos : Pos} {e o : Expr} {es : List Expr} {ta : TE} {t : TA}

theorem run_fn {pins : List (Addr × Obj)} {σ : St} {H : Hp} {s : Shared} {Q : VK} {us : List Value} {vs : List V} (F : FnOk X.prog X.w X.K X.mg X.base CX k f fd ps sp) (hr : Room k X.A) (hb : Binds X.K fd ps ds) (hd : Vals dvs ds) (hx : Passes CX X E)
    (I : Inv X pins σ H s) (r : Vals vs us) (h : sp (vs ++ dvs) H Q E) : wpAny (model X.prog X.w) X.A (call (.ref f) us) (EP X pins σ Q) X.xe s := by
  have r2 : Vals (vs ++ dvs) (us ++ ds) := r.append hd
  have hl : (us ++ ds).length = ps.length := by rw [← r2.length]; exact F.len _ _ _ _ h
  refine wpAny_call (codeAny_mono (F.run X.A X.stack s H ⟨us, []⟩ (us ++ ds) (vs ++ dvs) Q E hr I.env0 (hb s us I.kIn hl) r2 h) fun r s' hq => ?_)
  cases r with
  | error e => exact hx pins σ H s e s' I hq
  | ok fl =>
    cases fl with
    | ret u => exact I.after hq
    | next => exact False.elim hq
    | brk => exact False.elim hq
    | cont => exact False.elim hq

theorem pe_call (F : FnOk X.prog X.w X.K X.mg X.base CX k f fd ps sp) (hr : Room k X.A) (hg : Gl X x) (hm : X.mg x = some (.ref f)) (hk : PySem.W.keepIn X.K (.ref f) = true) (hb : Binds X.K fd ps ds) (hd : Vals dvs ds) (hx : Passes CX X E)
    (ha : PA X (e :: es) t) (hdb : (x == ("__debug__" : Str)) = false := by decide) (he : starEach (e :: es) X.env = (false, eval e X.env) :: starEach es X.env := by rfl) (hpl : (backTo pos (starEach es X.env)).any (·.1) = false := by rfl) :
    PE X (.Call (.Name x p) (e :: es) [] pos) (tCall sp dvs E t) := by
  intro pins s σ H Q I h
  refine wpAny_Call_Name_kw (ld_glob I hg hm ?_ hdb)
  refine PySem.W.callWith_K (h₀ := X.base) I.ok.mod.kin hk (thn (ha pos pins s σ H _ I h) fun us s1 ⟨vs, H1, I1, r, q⟩ => ⟨I1.kIn, ?_⟩) he hpl
  exact run_fn F hr hb hd hx I1 r q
end

section
variable {X : Cx} {CX : CXT} {k : Nat} {f C : Addr} {fd : FuncData} {ps ks : List Str} {sp : Sp} {E : XK} {x m : Str} {p pos apos kpos : Pos} {e o : Expr} {es : List Expr} {kws : List Keyword} {te ta : TE} {t tk : TA} {nm : Option Str}
variable {g : List Value → List Value → List Value} {gV : List V → List V → List V}
end

structure FnScope (N P : List Str) (sc : Scope) : Prop where
  kind : sc.kind = .function
  co : sc.isCoroutine = false
  gen : sc.isGenerator = false
  nd : N.Nodup
  pre : N.take P.length = P
  par : ∀ x ∈ P, sc.names.lookup x = some .local ∨ sc.names.lookup x = some .cell
  nofree : ∀ y ∈ sc.names, y.2 ≠ .free

theorem bindL_out {kindOf : Str → Option NameKind} {x : Str} : ∀ {binds : List (Str × Value)} {m : Str → Option Value}, (∀ v, (x, v) ∉ binds) → bindL kindOf binds m x = m x
  | [], _, _ => rfl
  | (n, v) :: r, m, h => by
    unfold bindL
    rw [bindL_out fun w hw => h w (List.mem_cons_of_mem _ hw)]
    split
    · have : x ≠ n := by rintro rfl; exact h v List.mem_cons_self
      simp [this]
    · rfl
theorem bindC_out {kindOf : Str → Option NameKind} {x : Str} : ∀ {binds : List (Str × Value)} {m : Str → Option Value}, (∀ v, (x, v) ∉ binds) → bindC kindOf binds m x = m x
  | [], _, _ => rfl
  | (n, v) :: r, m, h => by
    unfold bindC
    rw [bindC_out fun w hw => h w (List.mem_cons_of_mem _ hw)]
    split
    · rfl
    · have : x ≠ n := by rintro rfl; exact h v List.mem_cons_self
      simp [this]
theorem bindL_get {kindOf : Str → Option NameKind} {x : Str} {v : Value} : ∀ {P : List Str} {vs : List Value} {i : Nat} {m : Str → Option Value}, P.Nodup → P[i]? = some x → vs[i]? = some v → kindOf x = some .local →
    bindL kindOf (P.zip vs) m x = some v
  | [], _, _, _, _, h, _, _ => by simp at h
  | _ :: _, [], _, _, _, _, h, _ => by simp at h
  | p :: P, w :: vs, 0, m, nd, h1, h2, hk => by
    simp at h1 h2; subst h1; subst h2
    show bindL kindOf ((p, w) :: P.zip vs) m p = _
    unfold bindL
    rw [bindL_out fun v hv => (List.nodup_cons.mp nd).1 (List.of_mem_zip hv).1, if_pos hk]
    simp
  | p :: P, w :: vs, i + 1, m, nd, h1, h2, hk => by
    show bindL kindOf ((p, w) :: P.zip vs) m x = _
    unfold bindL
    exact bindL_get (i := i) (List.nodup_cons.mp nd).2 (by simpa using h1) (by simpa using h2) hk
theorem bindC_get {kindOf : Str → Option NameKind} {x : Str} {v : Value} : ∀ {P : List Str} {vs : List Value} {i : Nat} {m : Str → Option Value}, P.Nodup → P[i]? = some x → vs[i]? = some v → kindOf x ≠ some .local →
    bindC kindOf (P.zip vs) m x = some v
  | [], _, _, _, _, h, _, _ => by simp at h
  | _ :: _, [], _, _, _, _, h, _ => by simp at h
  | p :: P, w :: vs, 0, m, nd, h1, h2, hk => by
    simp at h1 h2; subst h1; subst h2
    show bindC kindOf ((p, w) :: P.zip vs) m p = _
    unfold bindC
    rw [bindC_out fun v hv => (List.nodup_cons.mp nd).1 (List.of_mem_zip hv).1, if_neg hk]
    simp
  | p :: P, w :: vs, i + 1, m, nd, h1, h2, hk => by
    show bindC kindOf ((p, w) :: P.zip vs) m x = _
    unfold bindC
    exact bindC_get (i := i) (List.nodup_cons.mp nd).2 (by simpa using h1) (by simpa using h2) hk

noncomputable def start (N : List Str) (vs : List V) : St := vs.map some ++ List.replicate (N.length - vs.length) none

noncomputable def cxOf (CX : CXT) (P : Program) (w : World) (K : PySem.W.Frag) (mg : Str → Option Value) (base : Heap) (N : List Str) (qual : Str) (scope : Scope) (f : Addr) (cd : Value) (A : Around) (outer : List Env) (s : Shared) (H : Hp) (E : XK) : Cx where
  prog := P
  w := w
  K := K
  mg := mg
  base := base
  A := A.deeper (envOfC qual scope s.heap.objs.size f cd)
  N := N
  s₀ := s
  H₀ := H
  env := envOfC qual scope s.heap.objs.size f cd
  outer := outer
  stack := envOfC qual scope s.heap.objs.size f cd :: outer
  ex := []
  calm := true
  fn := fun _ => true
  pn := []
  xe := fun e s' => wpAny (model P w) (A.deeper (envOfC qual scope s.heap.objs.size f cd)) (leaving (envOfC qual scope s.heap.objs.size f cd) e) (fun _ s'' => CX outer H s E e s'') (fun e' s'' => CX outer H s E e' s'') s'

theorem cell_has {sc : Scope} {n : Nat} {x : Str} (h : sc.names.lookup x = some .cell) : ∃ c, (cellsFrom n sc.names []).lookup x = some c := by
  have q := PySem.W.cellsFrom_some sc.names n [] (.inl h)
  exact Option.isSome_iff_exists.mp q

theorem inv_start {CX : CXT} {P : Program} {w : World} {K : PySem.W.Frag} {mg : Str → Option Value} {base : Heap} {N ps : List Str} {qual : Str} {scope : Scope} {f : Addr} {cd : Value} {A : Around} {outer : List Env} {s s1 : Shared} {H : Hp} {E : XK} {us : List Value} {vs : List V}
    (S : FnScope N ps scope) (hd : A.handled = none) (e0 : Env0 P w K mg base A outer s H) (hl : vs.length = ps.length) (r : Vals vs us)
    (x : InCallC s s.heap.objs.size (bindL (envOfC qual scope s.heap.objs.size f cd).kindOf (ps.zip us) fun _ => none) (cellsFrom (s.heap.objs.size + 1) scope.names []) (bindC (envOfC qual scope s.heap.objs.size f cd).kindOf (ps.zip us) fun _ => none) s1) :
    Inv (cxOf CX P w K mg base N qual scope f cd A outer s H E) [] (start N vs) H s1 := by
  have hpl : ps.length ≤ N.length := by have := congrArg List.length S.pre; rw [List.length_take] at this; omega
  obtain ⟨h1, tk, rfl, hk⟩ := x.done
  have noA : ∀ b : Addr, b ∉ (cxOf CX P w K mg base N qual scope f cd A outer s H E).ex := fun b z => absurd (show b ∈ ([] : List Addr) from z) (by simp)
  refine ⟨⟨e0.mod, S.kind, rfl, rfl, Nat.le_refl _, fun y z c h1 h2 => ?_, fun y hy => ?_, fun y c _ h => ?_, fun _ => hd, Around.frames_deeper e0.frames, .inr ⟨rfl, rfl⟩, fun b z => absurd z (noA b), e0.bs, e0.bsz, fun b _ _ => noA b, fun b z => absurd z (noA b), e0.funs, e0.frf⟩,
    rfl, e0.bare, Un.kept hk, ⟨_, x.toInCall.ns, fun i y v h1 h2 h3 => ?_⟩, fun y c h => ⟨_, x.cell y c h⟩, e0.hok.fresh (Nat.le_refl _), fun y c h => ?_, fun p hp => absurd (show p ∈ ([] : List (Addr × Obj)) from hp) (by simp), e0.hok.kept hk, ?_⟩
  · exact name_of_addr x.apart (PySem.mem_of_lookup h1) (PySem.mem_of_lookup h2)
  · have hy : scope.names.lookup y = some .cell ∨ scope.names.lookup y = some .free := hy
    rcases hy with hy | hy
    · exact cell_has hy
    · exact absurd rfl (S.nofree _ (PySem.mem_of_lookup hy))
  · exact Nat.le_of_lt (x.above y c (PySem.mem_of_lookup h))
  · have hi : i < vs.length := by
      unfold start at h2
      by_cases hi : i < vs.length
      · exact hi
      · rw [List.getElem?_append_right (by simpa using hi)] at h2
        rw [List.getElem?_replicate] at h2
        split at h2 <;> cases h2
    have ha : vs[i]? = some v := by
      unfold start at h2
      rw [List.getElem?_append_left (by simpa using hi), List.getElem?_map] at h2
      cases e : vs[i]? with
      | none => rw [e] at h2; cases h2
      | some a => rw [e] at h2; cases h2; rfl
    obtain ⟨u, hu, rv⟩ := r.get ha
    have hp : ps[i]? = some y := by
      rw [← S.pre, List.getElem?_take_of_lt (by omega)]; exact h1
    have ndP : ps.Nodup := by rw [← S.pre]; exact S.nd.sublist (List.take_sublist _ _)
    refine ⟨u, rv, ?_⟩
    rcases S.par y (List.mem_of_getElem? hp) with k | k
    · exact .inl ⟨k, bindL_get ndP hp hu k⟩
    · obtain ⟨c, e⟩ := cell_has (n := s.heap.objs.size + 1) k
      refine .inr ⟨.inl k, c, e, ?_⟩
      have q := x.cell y c e
      rw [bindC_get ndP hp hu (by show scope.names.lookup y ≠ _; rw [k]; decide)] at q
      exact q
  · exact e0.hok.fresh (Nat.le_of_lt (x.above y c (PySem.mem_of_lookup h)))
  · unfold start
    show _ = N.length
    rw [List.length_append, List.length_map, List.length_replicate]
    omega

theorem fn_of {CX : CXT} {P : Program} {w : World} {K : PySem.W.Frag} {mg : Str → Option Value} {base : Heap} {k : Nat} {f : Addr} {name qual : Str} {params : Arguments} {body : List Stmt} {scope : Scope} {dV kV doc pm cdv ct oc : Value} {an od : Option Addr}
    {osl : Array (Option Value)} {N ps : List Str} {sp : Sp} (lk : K.lookup f = some ⟨oc, od, .func (PySem.W.fnOf name qual params body scope dV kV doc pm an cdv ct), osl⟩) (hcd : PySem.W.codeIn K cdv qual = true) (S : FnScope N ps scope)
    (len : ∀ vs H Q E, sp vs H Q E → vs.length = ps.length)
    (hbody : ∀ (A : Around) (outer : List Env) (s : Shared) (H : Hp) (vs : List V) (Q : VK) (E : XK), Room k (A.deeper (envOfC qual scope s.heap.objs.size f cdv)) → sp vs H Q E →
      ∃ t, PSs (cxOf CX P w K mg base N qual scope f cdv A outer s H E) body t ∧ t { nx := fun _ H' => Q .non H', rt := Q } (start N vs) H) :
    FnOk P w K mg base CX (k + 1) f (PySem.W.fnOf name qual params body scope dV kV doc pm an cdv ct) ps sp := by
  refine ⟨len, fun A outer s H args us vs Q E hr e0 hb r hsp => ?_⟩
  have hl := len _ _ _ _ hsp
  have KX : K.In s.heap := e0.mod.kin.keeps fun b o e => (e0.bs b o e).1
  have lim : s.heap.NoLimit := e0.mod.nolimit.keeps fun b o e => (e0.bs b o e).1
  have hkind : ∀ y ∈ ps.zip us, scope.names.lookup y.1 = some .local ∨ (scope.names.lookup y.1 = some .cell ∧ ((cellsFrom (s.heap.objs.size + 1) scope.names []).lookup y.1).isSome = true) := fun ⟨n, v⟩ hy => by
    rcases S.par n (List.of_mem_zip hy).1 with q | q
    · exact .inl q
    · exact .inr ⟨q, PySem.W.cellsFrom_some _ _ _ (.inl q)⟩
  refine codeAny_call_function hr.depth (KX _ _ lk) rfl S.co S.gen rfl (PySem.W.codeRec_of KX hcd) (hb _ _ _ _ ?_)
  refine wpAny_newFunctionEnv_cells S.kind hkind fun env he s1 x => ?_
  subst he
  refine ⟨lim.keeps x.toInCall.keep, codeAny_func ?_⟩
  obtain ⟨t, ht, hq⟩ := hbody A outer s H vs Q E (hr.deeper _) hsp
  have I : Inv (cxOf CX P w K mg base N qual scope f cdv A outer s H E) [] (start N vs) H s1 := inv_start S hr.hd e0 hl r x
  refine wpAny_mono (ht [] s1 (start N vs) H _ I hq) (fun fl s' hs => ?_) fun e s' hs => hs
  have fin : ∀ {σ' : St} {H' : Hp} {v : V} {u : Value}, Inv (cxOf CX P w K mg base N qual scope f cdv A outer s H E) [] σ' H' s' → RelV v u → Q v H' → CE outer P w H s Q u s' :=
    fun {σ' H' v u} J rv q => ⟨v, H', J.os, J.bare, J.base, J.hok, rv, q⟩
  cases fl with
  | ret u =>
    obtain ⟨v, σ', H', J, rv, q⟩ := hs
    exact fin J rv q
  | next =>
    obtain ⟨σ', H', J, q⟩ := hs
    exact fin (v := V.non) (u := Value.none) J rfl q
  | brk =>
    obtain ⟨_, _, _, q⟩ := hs
    exact False.elim q
  | cont =>
    obtain ⟨_, _, _, q⟩ := hs
    exact False.elim q
end L2

namespace L2
open PySem PySem.Spec PyProof.Rows
section
variable {X : Cx} {x : Str} {p pos : Pos} {e : Expr} {es : List Expr} {t : TA} {id T : String} {r : List V → Hp → VK → Prop}

noncomputable def tCB (r : List V → Hp → VK → Prop) (t : TA) : TE := fun σ H Q => t σ H fun vs H1 => r vs H1 Q

theorem pe_callB (hc : CallR X (.builtin id) r) (hg : Gl X x) (hm : X.mg x = none) (hv : bootBuiltins x = some (.builtin id)) (ha : PA X (e :: es) t) (hn : x ≠ "__name__" := by decide) (hdb : (x == ("__debug__" : Str)) = false := by decide)
    (he : starEach (e :: es) X.env = (false, eval e X.env) :: starEach es X.env := by rfl) (hpl : (backTo pos (starEach es X.env)).any (·.1) = false := by rfl) : PE X (.Call (.Name x p) (e :: es) [] pos) (tCB r t) := by
  intro pins s σ H Q I h
  refine wpAny_Call_Name_kw (ld_blt I hg hm hv ?_ hn hdb)
  exact PyProof.Rows.callWith_builtin1 (thn (ha pos pins s σ H _ I h) fun us s1 ⟨vs, H1, I1, r1, q1⟩ => hc pins s1 σ H1 vs us Q I1 r1 q1) he hpl

theorem pe_callTy (hc : CallR X (.type T) r) (hg : Gl X x) (hm : X.mg x = none) (hv : bootBuiltins x = some (.type T)) (ha : PA X (e :: es) t) (hn : x ≠ "__name__" := by decide) (hdb : (x == ("__debug__" : Str)) = false := by decide)
    (he : starEach (e :: es) X.env = (false, eval e X.env) :: starEach es X.env := by rfl) (hpl : (backTo pos (starEach es X.env)).any (·.1) = false := by rfl) : PE X (.Call (.Name x p) (e :: es) [] pos) (tCB r t) := by
  intro pins s σ H Q I h
  refine wpAny_Call_Name_kw (ld_blt I hg hm hv ?_ hn hdb)
  exact PyProof.Rows.callWith_type1 (thn (ha pos pins s σ H _ I h) fun us s1 ⟨vs, H1, I1, r1, q1⟩ => hc pins s1 σ H1 vs us Q I1 r1 q1) he hpl

end
end L2

namespace HT
open PySem PyProof.Rows

section
open PySem.SeqAt
open PySem.AutoSeq1 (wpAny_loadPart')
open PySem.MeetsSeq PySem.MeetsSeq2 PySem.MeetsSeq3

end

section
variable {prog : Program} {w : World} {A : Around} {E : Value → Shared → Prop} {s : Shared}

noncomputable def sIx (n d : Nat) : Option Int → Nat
  | none => d
  | some v => if v < 0 then (v + (n : Int)).toNat else min v.toNat n
end
end HT

namespace L2
open PySem PySem.Spec PyProof.Rows

noncomputable abbrev TO := St → Hp → (Option Int → Hp → Prop) → Prop

noncomputable def PO (X : Cx) (e : Option Expr) (t : TO) : Prop :=
  ∀ (pins : List (Addr × Obj)) (s : Shared) (σ : St) (H : Hp) (Q : Option Int → Hp → Prop), Inv X pins σ H s → t σ H Q →
    wpAny (model X.prog X.w) X.A (evalPart e X.env) (fun u s' => ∃ o H', Inv X pins σ H' s' ∧ IsPart u o ∧ Q o H') X.xe s
noncomputable def tPart (t : TE) : TO := fun σ H Q => t σ H fun x H1 => ∃ i, x = .int i ∧ Q (some i) H1

section
variable {X : Cx} {e : Expr} {te : TE} {lo hi : Option Expr} {tl th : TO} {pos p2 : Pos}

theorem po_some (h : PE X e te) : PO X (some e) (tPart te) := by
  intro pins s σ H Q I hw
  rw [evalPart_some]
  refine thn (h pins s σ H _ I hw) fun u s1 ⟨x, H1, I1, r1, q1⟩ => ?_
  obtain ⟨i, rfl, q⟩ := q1
  obtain ⟨t, rfl⟩ := r1
  exact ⟨some i, H1, I1, .int i t, q⟩

noncomputable def SlR (X : Cx) (r : V → Option Int → Option Int → Hp → VK → Prop) : Prop :=
  ∀ (pins : List (Addr × Obj)) (s : Shared) (σ : St) (H : Hp) (x : V) (v vl vu : Value) (lo hi : Option Int) (sl : Addr) (Q : VK), Inv X pins σ H s → RelV x v → s.heap.IsSliceOf sl vl vu .none → IsPart vl lo → IsPart vu hi → r x lo hi H Q →
    ∃ T id, typeLookup (.type T) "__getitem__" = pure (some (.builtin id)) ∧ s.TypeIs v T ∧ wpAny (model X.prog X.w) X.A (getItem v (.ref sl)) (EP X pins σ Q) X.xe s
noncomputable def tSl (r : V → Option Int → Option Int → Hp → VK → Prop) (te : TE) (tl th : TO) : TE := fun σ H Q => te σ H fun x H1 => tl σ H1 fun l H2 => th σ H2 fun u H3 => r x l u H3 Q

theorem pe_slice {r : V → Option Int → Option Int → Hp → VK → Prop} (hr : SlR X r) (he : PE X e te) (hl : PO X lo tl) (hu : PO X hi th) : PE X (.Subscript e (.Slice lo hi none p2) pos) (tSl r te tl th) := by
  intro pins s σ H Q I h
  refine Subscript_ (thn (he pins s σ H _ I h) fun v s1 ⟨x, H1, I1, r1, q1⟩ => ?_)
  refine wpAny_Slice (thn (hl pins s1 σ H1 _ I1 q1) fun vl s2 ⟨l, H2, I2, pl, q2⟩ => thn (hu pins s2 σ H2 _ I2 q2) fun vu s3 ⟨u, H3, I3, pu, q3⟩ => ?_)
  rw [evalPart_none]
  refine wpAny_pure ?_
  have I4 : Inv X pins σ H3 { s3 with heap := s3.heap.push { cls := .type "slice", data := .fields #[vl, vu, .none] } } := I3.kept (t' := s3.toks) fun b ob q => Heap.get?_push_of_some _ q
  obtain ⟨T, id, hT, ht, hg⟩ := hr pins { s3 with heap := s3.heap.push { cls := .type "slice", data := .fields #[vl, vu, .none] } } σ H3 x v vl vu l u s3.heap.objs.size Q I4 r1 (Heap.IsSliceOf.new ..) pl pu q3
  show wpAny (model X.prog X.w) X.A (subscriptTail e (.Slice lo hi none p2) v (.ref s3.heap.objs.size)) (EP X pins σ Q) X.xe { s3 with heap := s3.heap.push { cls := .type "slice", data := .fields #[vl, vu, .none] } }
  exact tail_any (ops := [.ref s3.heap.objs.size, v]) ht hT hg (by with_unfolding_all rfl)

noncomputable def cutV (xs : List V) (lo hi : Option Int) : List V := (xs.drop (HT.sIx xs.length 0 lo)).take (HT.sIx xs.length xs.length hi - HT.sIx xs.length 0 lo)
theorem cutV_length (xs : List V) (lo hi : Option Int) : (cutV xs lo hi).length ≤ xs.length := by
  unfold cutV
  rw [List.length_take, List.length_drop]
  omega

end
end L2

namespace L2
open PySem PySem.Spec PyProof.Rows

noncomputable def ixN (n : Nat) (i : Int) : Option Nat := if 0 ≤ i then (if i < n then some i.toNat else none) else if -(n : Int) ≤ i then some (i + n).toNat else none
noncomputable def atI {α : Type} (xs : List α) (i : Int) : Option α := (ixN xs.length i).bind fun j => xs[j]?
theorem ixN_seq {n : Nat} {i : Int} {j : Nat} (h : ixN n i = some j) : seqIndex? i n = some j ∧ j < n ∧ -(n : Int) ≤ i ∧ i < n := by
  unfold ixN at h
  by_cases h0 : 0 ≤ i
  · rw [if_pos h0] at h
    by_cases h1 : i < n
    · rw [if_pos h1] at h
      have e : i.toNat = j := Option.some.inj h
      exact ⟨by rw [seqIndex_of h0 h1, e], by omega, by omega, h1⟩
    · rw [if_neg h1] at h; cases h
  · rw [if_neg h0] at h
    by_cases h1 : -(n : Int) ≤ i
    · rw [if_pos h1] at h
      have e : (i + n).toNat = j := Option.some.inj h
      exact ⟨by rw [seqIndex_neg (by omega) h1, e], by omega, h1, by omega⟩
    · rw [if_neg h1] at h; cases h
theorem atI_get {α : Type} {xs : List α} {i : Int} {v : α} (h : atI xs i = some v) : ∃ j, seqIndex? i xs.length = some j ∧ xs[j]? = some v ∧ j < xs.length ∧ -(xs.length : Int) ≤ i ∧ i < xs.length := by
  unfold atI at h
  cases e : ixN xs.length i with
  | none => rw [e] at h; cases h
  | some j =>
    rw [e] at h
    obtain ⟨h1, h2, h3, h4⟩ := ixN_seq e
    exact ⟨j, h1, h, h2, h3, h4⟩
theorem atI_nat {α : Type} {xs : List α} {j : Nat} {v : α} (h : xs[j]? = some v) : atI xs (j : Int) = some v := by
  have hj : j < xs.length := (List.getElem?_eq_some_iff.mp h).1
  have e : ixN xs.length (j : Int) = some j := by
    unfold ixN
    rw [if_pos (by omega), if_pos (by omega)]; simp
  unfold atI; rw [e]; exact h
theorem atI_last {α : Type} (xs : List α) (v : α) : atI (xs ++ [v]) (-1) = some v := by
  have hl : (xs ++ [v]).length = xs.length + 1 := by simp
  have e : ixN (xs ++ [v]).length (-1) = some xs.length := by
    unfold ixN
    rw [hl, if_neg (by decide), if_pos (by omega)]
    congr 1
    omega
  unfold atI
  rw [e]
  show (xs ++ [v])[xs.length]? = some v
  simp

noncomputable def PlainIx (b : Expr) : Prop := ∀ o i, subscripted b false o i = operate [o, i] (getItem o i)

noncomputable def IxR (X : Cx) (r : R2) : Prop :=
  ∀ (value slice : Expr) (pins : List (Addr × Obj)) (s : Shared) (σ : St) (H : Hp) (x y : V) (v u : Value) (Q : VK), Inv X pins σ H s → RelV x v → RelV y u → r x y H Q →
    subscripted slice false v u = operate [v, u] (getItem v u) → wpAny (model X.prog X.w) X.A (subscriptTail value slice v u) (EP X pins σ Q) X.xe s

noncomputable def MtR (X : Cx) (id : String) (r : V → List V → Hp → VK → Prop) : Prop :=
  ∀ (pins : List (Addr × Obj)) (s : Shared) (σ : St) (H : Hp) (x : V) (xs : List V) (v : Value) (us : List Value) (Q : VK), Inv X pins σ H s → RelV x v → Vals xs us → r x xs H Q →
    wpAny (model X.prog X.w) X.A (call (.builtin id) (v :: us)) (EP X pins σ Q) X.xe s
section
variable {X : Cx} {a b : Expr} {ta tb : TE} {pos : Pos}
theorem pe_ix {r : R2} (hr : IxR X r) (ha : PE X a ta) (hb : PE X b tb) (hs : PlainIx b) : PE X (.Subscript a b pos) (tOp r ta tb) := by
  intro pins s σ H Q I h
  exact Subscript_ (binT ha hb I h fun v u s2 x y H2 I2 rx ry q => hr a b pins s2 σ H2 x y v u Q I2 rx ry q (hs _ _))

noncomputable def rIxL (K : PySem.W.Frag) : R2 := fun x y H Q => ∃ p xs i v, x = .ref p ∧ y = .int i ∧ SqL K H p xs ∧ atI xs i = some v ∧ Q v H
noncomputable def rIxT (K : PySem.W.Frag) : R2 := fun x y H Q => ∃ p xs i v, x = .ref p ∧ y = .int i ∧ SqT K H p xs ∧ atI xs i = some v ∧ Q v H
theorem ix_list : IxR X (rIxL X.K) := by
  intro value slice pins s σ H x y v u Q I rx ry h hs
  obtain ⟨p, xs, i, z, rfl, rfl, hq, he, q⟩ := h
  cases rx
  obtain ⟨t, rfl⟩ := ry
  obtain ⟨its, r, pl, hz⟩ := I.list hq
  obtain ⟨j, h1, h2, h3, h4, h5⟩ := atI_get he
  obtain ⟨w, ew, rw'⟩ := r.get h2
  have hl := r.length
  have hn := line63
  have fin : EP X pins σ Q w s := ⟨z, H, I, rw', q⟩
  by_cases h0 : 0 ≤ i
  · have hj : i.toNat = j := by
      rw [seqIndex_of h0 h5] at h1
      exact Option.some.inj h1
    exact item_listR pl.isList h0 (by omega) (by rw [hj]; simpa using ew) fin hs
  · have hj : (i + (its.toArray.size : Int)).toNat = j := by
      rw [seqIndex_neg (by omega) h4] at h1
      rw [List.size_toArray, ← hl]
      exact Option.some.inj h1
    exact subscriptTail_builtinR (x := w) pl.isList.typeIs slot_list_getitem.lookup
      (wpAny_getItem_list_neg (Q := fun r s' => r = w ∧ EP X pins σ Q r s') pl.isList (by omega) (by rw [List.size_toArray] <;> omega) (by omega) (by rw [hj]; simpa using ew) ⟨rfl, fin⟩) hs
theorem ix_tup : IxR X (rIxT X.K) := by
  intro value slice pins s σ H x y v u Q I rx ry h hs
  obtain ⟨p, xs, i, z, rfl, rfl, hq, he, q⟩ := h
  cases rx
  obtain ⟨t, rfl⟩ := ry
  obtain ⟨its, r, pl, hz⟩ := I.tuple hq
  obtain ⟨j, h1, h2, h3, h4, h5⟩ := atI_get he
  obtain ⟨w, ew, rw'⟩ := r.get h2
  have hl := r.length
  have hn := line63
  have fin : EP X pins σ Q w s := ⟨z, H, I, rw', q⟩
  exact subscriptTail_builtinR (x := w) pl.typeIs slot_tuple_getitem.lookup
    (getItem_tuple (j := j) (Q := fun r s' => r = w ∧ EP X pins σ Q r s') pl (by omega) (by omega) (by rw [List.size_toArray, ← hl]; exact h1) (by simpa using ew) ⟨rfl, fin⟩) hs
theorem slice_bounds (lo hi : Option Int) (n : Nat) : (sliceBounds lo hi none n).1 = ((HT.sIx n 0 lo : Nat) : Int) ∧ (sliceBounds lo hi none n).2.1 = ((HT.sIx n n hi : Nat) : Int) ∧ (sliceBounds lo hi none n).2.2 = 1 := by
  refine ⟨?_, ?_, rfl⟩
  · cases lo with
    | none => simp [sliceBounds, HT.sIx]
    | some i =>
      simp only [sliceBounds, HT.sIx, Option.getD_none, show (1 : Int) > 0 by decide, if_true]
      by_cases h : i < 0
      · simp only [h, if_true] <;> omega
      · simp only [h, if_false] <;> omega
  · cases hi with
    | none => simp [sliceBounds, HT.sIx]
    | some i =>
      simp only [sliceBounds, HT.sIx, Option.getD_none, show (1 : Int) > 0 by decide, if_true]
      by_cases h : i < 0
      · simp only [h, if_true] <;> omega
      · simp only [h, if_false] <;> omega
theorem slicePick_cut (its : List Value) (lo hi : Option Int) : slicePick its.toArray lo hi none = ((its.drop (HT.sIx its.length 0 lo)).take (HT.sIx its.length its.length hi - HT.sIx its.length 0 lo)).toArray := by
  obtain ⟨h1, h2, h3⟩ := slice_bounds lo hi its.toArray.size
  unfold slicePick
  rw [h1, h2, h3]
  simp only [sliceRange_one, pick_run, List.size_toArray] <;> rfl

noncomputable def rSlL (K : PySem.W.Frag) : V → Option Int → Option Int → Hp → VK → Prop := fun x lo hi H Q => ∃ a xs, x = .ref a ∧ SqL K H a xs ∧ ∀ p, H p = none → Q (.ref p) (upd H p (.lst (cutV xs lo hi)))
theorem sl_list : SlR X (rSlL X.K) := by
  intro pins s σ H x v vl vu lo hi sl Q I rx hs pl pu h
  obtain ⟨a, xs, rfl, hx, q⟩ := h
  cases rx
  obtain ⟨its, r, ht, hz⟩ := I.list hx
  have hlen := r.length
  refine ⟨"list", _, slot_list_getitem.lookup, ht.isList.typeIs, ?_⟩
  refine wpAny_getItem_list_slice ht.isList hs pl pu .none (by simp) ?_ (by rw [List.size_toArray] <;> omega)
  rw [slicePick_cut, ← hlen]
  refine ⟨.ref s.heap.objs.size, _, I.laid (t' := s.toks) (o := .lst (cutV xs lo hi)) (fun b ob q => Heap.get?_push_of_some _ q) (Nat.le_refl _) ?_, rfl, q _ (I.hok.fresh (Nat.le_refl _))⟩
  exact ⟨Nat.le_trans (cutV_length xs lo hi) hz, _, 0, (r.drop (HT.sIx xs.length 0 lo)).take (HT.sIx xs.length xs.length hi - HT.sIx xs.length 0 lo), Heap.get?_push_size _ rfl⟩

theorem call_len_seq : CallR X (.builtin "len") (fun xs H Q => ∃ p ys, xs = [.ref p] ∧ (SqL X.K H p ys ∨ SqT X.K H p ys) ∧ Q (.int ys.length) H) := by
  intro pins s σ H xs us Q I r h
  obtain ⟨p, ys, rfl, hq, q⟩ := h
  obtain ⟨u, rfl, rx⟩ := vals1 r
  cases rx
  have hn := line63
  rcases hq with hq | hq
  · obtain ⟨its, r', pl, hz⟩ := I.list hq
    have hlen := r'.length
    exact Calls.call_len_list pl.isList (by simp only [List.size_toArray] <;> omega) ⟨.int ys.length, H, I.tok _, ⟨s.toks + 1, by rw [List.size_toArray, hlen]⟩, q⟩
  · obtain ⟨its, r', pl, hz⟩ := I.tuple hq
    have hlen := r'.length
    exact len_tuple pl (by simp only [List.size_toArray] <;> omega) ⟨.int ys.length, H, I.tok _, ⟨s.toks + 1, by rw [List.size_toArray, hlen]⟩, q⟩
theorem call_list_of : CallR X (.type "list") (fun xs H Q => ∃ p ys, xs = [.ref p] ∧ (SqL X.K H p ys ∨ SqT X.K H p ys) ∧ ∀ l, H l = none → Q (.ref l) (upd H l (.lst ys))) := by
  intro pins s σ H xs us Q I r h
  obtain ⟨p, ys, rfl, hq, q⟩ := h
  obtain ⟨u, rfl, rx⟩ := vals1 r
  cases rx
  have fin : ∀ (its : List Value), Vals ys its → ys.length ≤ sizeLine → ∀ (h' : Heap) (c' : Nat), (∀ b o', s.heap.get? b = some o' → h'.get? b = some o') →
      h'.get? s.heap.objs.size = some { cls := .type "list", dict := none, data := .seq its.toArray c', slots := #[] } → EP X pins σ Q (.ref s.heap.objs.size) { s with heap := h' } := fun its r' hz h' c' kp e =>
    ⟨.ref s.heap.objs.size, _, I.laid (t' := s.toks) kp (Nat.le_refl _) (show ObjOk X.prog X.w _ h' _ (.lst ys) from ⟨hz, its, c', r', e⟩), rfl, q _ (I.hok.fresh (Nat.le_refl _))⟩
  rcases hq with hq | hq
  · obtain ⟨its, r', pl, hz⟩ := I.list hq
    have hlen := r'.length
    obtain ⟨o, ho, hc, n, hd⟩ := pl.isList
    exact call_list_seq p (.inl rfl) ho hc hd (fun h' c' kp e => fin its r' hz h' c' kp e) (by simp only [List.size_toArray] <;> omega)
  · obtain ⟨its, r', pl, hz⟩ := I.tuple hq
    have hlen := r'.length
    obtain ⟨o, ho, hc, n, hd⟩ := pl
    exact call_list_seq p (.inr rfl) ho hc hd (fun h' c' kp e => fin its r' hz h' c' kp e) (by simp only [List.size_toArray] <;> omega)
noncomputable def tyV (K : PySem.W.Frag) (T : String) (x : V) (H : Hp) : Prop := match x with
  | .str _ => T = "str"
  | .int _ => T = "int"
  | .ref p => (T = "list" ∧ ∃ xs, SqL K H p xs) ∨ (T = "tuple" ∧ ∃ o, K.lookup p = some o ∧ o.cls = .type "tuple" ∧ o.dict = none) ∨
      (T = "dict" ∧ ((∃ kvs, H p = some (.dK kvs)) ∨ ∃ kvs, H p = some (.dT kvs))) ∨ (T = "set" ∧ ∃ S n, H p = some (.set S n))
  | _ => False
theorem tyV_is {pins : List (Addr × Obj)} {σ : St} {H : Hp} {s : Shared} {T : String} {x : V} {v : Value} (I : Inv X pins σ H s) (r : RelV x v) (ty : tyV X.K T x H) :
    s.TypeIs v T ∧ ∀ a, v = .ref a → ∃ ob, s.heap.get? a = some ob ∧ ob.dict = none := by
  cases x with
  | str z =>
    obtain ⟨t, rfl⟩ := r
    cases (show T = "str" from ty)
    exact ⟨typeIs_str s z t, fun _ e => nomatch e⟩
  | int i =>
    obtain ⟨t, rfl⟩ := r
    cases (show T = "int" from ty)
    exact ⟨typeIs_int s i t, fun _ e => nomatch e⟩
  | ref p =>
    cases r
    rcases ty with ⟨rfl, xs, hq⟩ | ⟨rfl, o, hk, hc, hd⟩ | ⟨rfl, hk⟩ | ⟨rfl, S, n, hk⟩
    · obtain ⟨its, _, pl, _⟩ := I.list hq
      refine ⟨pl.isList.typeIs, fun a e => ?_⟩
      cases e
      obtain ⟨o, n, e, c, hd, _⟩ := pl
      exact ⟨o, e, hd⟩
    · refine ⟨⟨o, I.kIn p o hk, hc⟩, fun a e => ?_⟩
      cases e
      exact ⟨o, I.kIn _ o hk, hd⟩
    · have z : ∃ o, s.heap.get? p = some o ∧ o.ExactDict := by
        rcases hk with ⟨kvs, hk⟩ | ⟨kvs, hk⟩
        · obtain ⟨_, _, _, _, o, _, _, e, ex, _⟩ := I.hok p _ hk
          exact ⟨o, e, ex⟩
        · obtain ⟨_, _, _, _, o, _, _, e, ex, _⟩ := I.hok p _ hk
          exact ⟨o, e, ex⟩
      obtain ⟨o, e, ex⟩ := z
      refine ⟨⟨o, e, ex.1⟩, fun a e2 => ?_⟩
      cases e2
      exact ⟨o, e, ex.2.1⟩
    · obtain ⟨o, _, _, _, e, ex, _⟩ := I.hok p _ hk
      refine ⟨⟨o, e, ex.1⟩, fun a e2 => ?_⟩
      cases e2
      exact ⟨o, e, ex.2.1⟩
  | _ => exact False.elim ty
noncomputable def tBM0 (K : PySem.W.Frag) (T : String) (r : V → List V → Hp → VK → Prop) (to : TE) : TE := fun σ H Q => to σ H fun x H1 => tyV K T x H1 ∧ r x [] H1 Q
noncomputable def tBM (K : PySem.W.Frag) (T : String) (r : V → List V → Hp → VK → Prop) (to : TE) (t : TA) : TE := fun σ H Q => to σ H fun x H1 => tyV K T x H1 ∧ t σ H1 fun xs H2 => r x xs H2 Q
variable {o e : Expr} {es : List Expr} {to : TE} {t : TA} {name : Str} {apos cpos : Pos} {T id : String} {r : V → List V → Hp → VK → Prop}
theorem pe_bm0 (pa : PlainAttrs T) (slot : Slot T name id) (hty : typeOf (.builtin id) = pure (.type "method_descriptor")) (hm : MtR X id r) (ho : PE X o to)
    (hbase : attributeBase o name X.env (eval o X.env) = eval o X.env := by rfl) (hline : (apos.endLine == cpos.line) = true := by rfl) : PE X (.Call (.Attribute o name apos) [] [] cpos) (tBM0 X.K T r to) := by
  intro pins s σ H Q I h
  refine wpAny_Call_method0_late hbase hline (thn (ho pins s σ H _ I h) fun v s1 ⟨x, H1, I1, r1, ty, q1⟩ => ?_)
  obtain ⟨h1, h2⟩ := tyV_is I1 r1 ty
  exact ⟨T, id, pa, slot, hty, h1, h2, Calls.callWith_builtin rfl (PySem.evalArgs_none (hm pins s1 σ H1 x [] v [] Q I1 r1 .nil q1))⟩
theorem pe_bm (pa : PlainAttrs T) (slot : Slot T name id) (hty : typeOf (.builtin id) = pure (.type "method_descriptor")) (hm : MtR X id r) (ho : PE X o to) (ha : PA X (e :: es) t)
    (hbase : attributeBase o name X.env (eval o X.env) = eval o X.env := by rfl)
    (hfew : ((backTo cpos (starEach (e :: es) X.env)).all (fun x => !x.1) && (backToKw cpos (keywordEach [] X.env)).all (fun x => x.1.isSome)
      && decide ((e :: es).length + ([] : List Keyword).length + (if ([] : List Keyword).isEmpty then 0 else 1) < 30)) = true := by rfl)
    (hline : (apos.endLine == cpos.line) = true := by rfl) (hs : starEach (e :: es) X.env = (false, eval e X.env) :: starEach es X.env := by rfl) (hplain : (backTo cpos (starEach es X.env)).any (·.1) = false := by rfl) :
    PE X (.Call (.Attribute o name apos) (e :: es) [] cpos) (tBM X.K T r to t) := by
  intro pins s σ H Q I h
  refine wpAny_Call_method_late hbase hfew hline rfl (thn (ho pins s σ H _ I h) fun v s1 ⟨x, H1, I1, r1, ty, q1⟩ => ?_)
  obtain ⟨h1, h2⟩ := tyV_is I1 r1 ty
  refine ⟨T, id, pa, slot, hty, h1, h2, ?_⟩
  have hA := ha cpos pins s1 σ H1 _ I1 q1
  rw [hs] at hA ⊢
  refine Calls.callWith_builtin (by show (false || (backTo cpos (starEach es X.env)).any (·.1)) = false; rw [hplain] <;> rfl) (Calls.evalArgs_plain ?_)
  exact thn hA fun us s2 ⟨vs, H2, I2, r2, q2⟩ => hm pins s2 σ H2 x vs v us Q I2 r1 r2 q2

end
end L2

namespace L2
open PySem PySem.Spec PyProof.Rows

noncomputable def MtM (X : Cx) (id : String) (r : V → List V → Hp → VK → Prop) : Prop :=
  ∀ (pins : List (Addr × Obj)) (s : Shared) (σ : St) (H : Hp) (x : V) (xs : List V) (v : Value) (us : List Value) (Q : VK), Inv X pins σ H s → RelV x v → Vals xs us → r x xs H Q →
    wpAny (model X.prog X.w) X.A (call (.builtin id) (v :: us)) (EP X pins σ Q) X.xe s

theorem Vals.one : ∀ {x : V} {us : List Value}, Vals [x] us → ∃ u, us = [u] ∧ RelV x u
  | _, _, .cons r .nil => ⟨_, rfl, r⟩
theorem Vals.zero : ∀ {us : List Value}, Vals [] us → us = []
  | _, .nil => rfl
theorem Vals.dropLast {xs : List V} {us : List Value} (h : Vals xs us) : Vals xs.dropLast us.dropLast := by
  induction h with
  | nil => exact .nil
  | cons r t ih =>
    cases t with
    | nil => exact .nil
    | cons q t' => exact .cons r ih
theorem erase_last {α : Type} (l : List α) : l.eraseIdx (l.length - 1) = l.dropLast := by
  induction l with
  | nil => rfl
  | cons a r ih =>
    cases r with
    | nil => rfl
    | cons b r =>
      have e : (a :: b :: r).length - 1 = ((b :: r).length - 1) + 1 := by
        have h1 : (a :: b :: r).length = r.length + 2 := rfl
        have h2 : (b :: r).length = r.length + 1 := rfl
        omega
      rw [e, List.eraseIdx_cons_succ, ih]
      all_goals rfl
section
variable {X : Cx} {pins : List (Addr × Obj)} {σ : St} {H : Hp} {s : Shared} {l b : Addr} {xs ys zs : List V}

theorem Inv.lset {its its' : List Value} {n : Nat} {f : Array Value → Array Value} {t' : Nat} (I : Inv X pins σ H s) (hH : H l = some (.lst xs))
    (e : s.heap.get? l = some { cls := .type "list", data := .seq its.toArray n }) (hf : f its.toArray = its'.toArray) (hv : Vals ys its') (hz : ys.length ≤ sizeLine) :
    Inv X pins σ (upd H l (.lst ys)) { s with heap := s.heap.update l (Obj.mapSeq f), toks := t' } := by
  have q := PySem.IsL.update e f
  rw [hf] at q
  refine I.write (x := l) (e := l) (by rw [hH]; exact trivial) (.inl rfl) (fun b' u hb hu => (Heap.get?_update_other s.heap (Obj.mapSeq f) (Ne.symm hb)).trans hu) ⟨_, q⟩ ?_
  exact ⟨hz, its', _, hv, q⟩
theorem Inv.lnew {its : List Value} {t' : Nat} (I : Inv X pins σ H s) (hv : Vals ys its) (hz : ys.length ≤ sizeLine) :
    Inv X pins σ (upd H s.heap.objs.size (.lst ys)) { s with heap := s.heap.push { cls := .type "list", data := .seq its.toArray }, toks := t' } :=
  I.laid (fun _ _ q => Heap.get?_push_of_some _ q) (Nat.le_refl _) ⟨hz, its, 0, hv, Heap.get?_push_size _ rfl⟩
theorem Inv.fresh (I : Inv X pins σ H s) : H s.heap.objs.size = none := I.hok.fresh (Nat.le_refl _)
theorem Inv.lstM (I : Inv X pins σ H s) (hH : H l = some (.lst xs)) : xs.length ≤ sizeLine ∧ ∃ (its : List Value) (n : Nat), Vals xs its ∧ xs.length = its.length ∧ s.heap.get? l = some { cls := .type "list", data := .seq its.toArray n } := by
  obtain ⟨z, its, n, r, e⟩ := I.hok l _ hH
  exact ⟨z, its, n, r, r.length, e⟩

end

section
variable {X : Cx}

noncomputable def rAppend : V → List V → Hp → VK → Prop := fun x vs H Q => ∃ l xs y, x = .ref l ∧ vs = [y] ∧ H l = some (.lst xs) ∧ xs.length < sizeLine ∧ Q .non (upd H l (.lst (xs ++ [y])))
theorem mt_append : MtM X "list.append" rAppend := by
  intro pins s σ H x vs v us Q I rx rv h
  obtain ⟨l, xs, y, rfl, rfl, hH, hz, q⟩ := h
  cases rx
  obtain ⟨u, rfl, ru⟩ := rv.one
  obtain ⟨z, its, n, r, hl, e⟩ := I.lstM hH
  refine call_meets F.slot_list_append ⟨_, e, rfl⟩ F.entry_list_append (F.args_list_append_2 _ _) (PySem.list_append l its.toArray n u (by rw [List.size_toArray]; omega)) ⟨e, ?_⟩
  refine ⟨.non, _, I.lset (its' := its ++ [u]) hH e (by simp) (r.append (.cons ru .nil)) ?_, rfl, q⟩
  rw [List.length_append, List.length_singleton]
  omega

noncomputable def rPop : V → List V → Hp → VK → Prop := fun x vs H Q => ∃ l xs y, x = .ref l ∧ vs = [] ∧ H l = some (.lst xs) ∧ xs[xs.length - 1]? = some y ∧ Q y (upd H l (.lst xs.dropLast))
theorem mt_pop : MtM X "list.pop" rPop := by
  intro pins s σ H x vs v us Q I rx rv h
  obtain ⟨l, xs, y, rfl, rfl, hH, hy, q⟩ := h
  cases rx
  have hus := rv.zero
  subst hus
  obtain ⟨z, its, n, r, hl, e⟩ := I.lstM hH
  obtain ⟨u, hu, ru⟩ := r.get hy
  have hy' : its.toArray[its.toArray.size - 1]? = some u := by
    show its.toArray[its.length - 1]? = some u
    rw [← Array.getElem?_toList, ← hl]
    exact hu
  refine call_meets F.slot_list_pop ⟨_, e, rfl⟩ F.entry_list_pop (F.args_list_pop_1 _) (MeetsSeq.list_pop_last l its.toArray n u hy' (by rw [List.size_toArray]; omega)) ⟨e, ?_⟩
  refine ⟨y, _, I.lset (its' := its.dropLast) hH e ?_ r.dropLast ?_, ru, q⟩
  · show its.toArray.eraseIdxIfInBounds (its.toArray.size - 1) = its.dropLast.toArray
    rw [List.size_toArray, List.eraseIdxIfInBounds_toArray, erase_last]
  · rw [List.length_dropLast]
    omega

noncomputable def rCat : R2 := fun x y H Q => ∃ l b xs zs, x = .ref l ∧ y = .ref b ∧ H l = some (.lst xs) ∧ H b = some (.lst zs) ∧ xs.length + zs.length ≤ sizeLine ∧ ∀ p, H p = none → Q (.ref p) (upd H p (.lst (xs ++ zs)))
theorem op_cat : OpR X (binaryOp .Add) rCat := by
  intro pins s σ H x y v u Q I rx ry h
  obtain ⟨l, b, xs, zs, rfl, rfl, hH, hB, hz, q⟩ := h
  cases rx
  cases ry
  obtain ⟨z, its, n, r, hl, e⟩ := I.lstM hH
  obtain ⟨z2, its2, n2, r2, hl2, e2⟩ := I.lstM hB
  refine PySem.P.add_list e e2 ?_ (by rw [List.size_toArray, List.size_toArray]; omega)
  have ea : its.toArray ++ its2.toArray = (its ++ its2).toArray := by simp
  rw [ea]
  exact ⟨.ref _, _, I.lnew (t' := s.toks) (r.append r2) (by rw [List.length_append]; omega), rfl, q _ I.fresh⟩

end

section
variable {prog : Program} {w : World} {A : Around} {E : Value → Shared → Prop} {s : Shared}
end

section
variable {X : Cx}

end
end L2

namespace Att
open PySem PySem.W PySem.Calls PyProof.Rows

theorem ints_of_wellAll {P : Params} {h : Heap} : ∀ (ns : List Int) (vs : List Value), WellAll P h vs (ns.map WData.int) → IntsAre vs ns := by
  intro ns
  induction ns with
  | nil =>
    intro vs w
    rw [List.map_nil] at w
    cases w
    exact .nil
  | cons n ns ih =>
    intro vs w
    rw [List.map_cons] at w
    cases w with
    | cons a b =>
      cases a
      exact .cons _ _ (ih _ b)

theorem script_of {l : OpenLaw} {n : Nat} (hn : l.most = some n) {P : Params} {h : Heap} {args : List WData} {vals : List Value}
    (hpre : l.row.toRowW.claim.pre args = true) (hwl : WellAll P h vals args) :
    ∃ a vs ns, vals = [Value.ref a] ∧ args = [WData.list (ns.map WData.int)] ∧ h.get? a = some { cls := .type "list", data := .seq vs.toArray } ∧ IntsAre vs ns ∧ ns.length ≤ n := by
  have hsh : WShape.hasAll [] args [.list .int] = true := (pre_splitW hpre).1
  have hc : l.pre.holds [] { args := args } = true := (pre_splitW hpre).2
  obtain ⟨d, r, rfl, h1, h2⟩ := hasAllW_cons hsh
  obtain rfl := hasAllW_nil h2
  obtain ⟨xs, rfl, h3⟩ := hasW_list h1
  obtain ⟨ns, rfl⟩ := items_int h3
  have hlen : ns.length ≤ n := by
    unfold OpenLaw.pre at hc
    have h4 : (WTm.not (.lt (.lit (.int (n : Int))) (.len (.arg 0)))).holds [] { args := [.list (ns.map .int)] } = true := by
      have h4 := (holds_andW hc).1
      rw [hn] at h4
      exact h4
    have h5 := condW_of h4 (w_not (w_lt w_lit (w_len_list (w_arg rfl))))
    rw [List.length_map] at h5
    refine Nat.le_of_not_lt fun q => ?_
    have q' : (n : Int) < ((ns.length : Nat) : Int) := by omega
    first
      | (rw [decide_eq_true q'] at h5; exact absurd h5 (by decide))
      | (simp at h5; omega)
  cases hwl with
  | cons w1 w2 =>
    cases w2
    cases w1 with
    | list ho hall => exact ⟨_, _, ns, rfl, rfl, ho, ints_of_wellAll ns _ hall, hlen⟩

theorem post_true (l : OpenLaw) (args : List WData) : l.row.toRowW.claim.post args (.bool true) args = true :=
  postW_of (r := l.row.toRowW) (X := (true == true))
    (show WShape.has [] (.bool true) .bool = true by first | rfl | decide | simp [WShape.has, WShape.arms, WShape.armsAll])
    (show (WTm.eq .res (.lit (.bool true))).value [] { args := args, res := some (.bool true), after := args } = some (.bool (true == true)) from w_eq_bool (w_res rfl) w_lit) rfl

theorem attach_call {l : OpenLaw} {n : Nat} {q : Program} {loose : List Str} {XP : (Str → Option Value) → Heap → Prop} {YP : World → Heap → Prop} {d : DefRec}
    (hn : l.most = some n) (hdf : d.params.defaults = [])
    (call : ∀ (w : World) (s₀ s₁ : Shared) (mg mb : Str → Option Value) (fa : Addr) (o : Obj) (pm cd doc : Value) (a : Addr) (vs : List Value) (ns : List Int),
      Ground q loose [] XP w s₀ mg mb s₁.heap → YP w s₁.heap →
      s₁.heap.get? fa = some o → o.data = .func (docDef d.name d.params d.body d.scope pm cd doc) → s₁.heap.CodeRec cd d.name → mg d.name = some (.ref fa) →
      s₁.heap.get? a = some { cls := .type "list", data := .seq vs.toArray } → IntsAre vs ns → ns.length ≤ n → s₁.gens = #[] →
      codeAny (model l.prog w) callerA (.call (.ref fa) ⟨[.ref a], []⟩) (fun r s' => r = .ok (.ret (.bool true)) ∧ OldK s₁.heap s'.heap ∧ s'.os = s₁.os ∧ AllBare s'.gens) s₁) :
    WalkO q loose XP YP l.row.toRowW d [] (fun f vs => PySem.call f vs) := by
  intro w s₀ s₁ mg mb G Y fa o pm cd doc dV kV ho hd hcd hD hmg hg args vals as hpre hlay hrd hwl hlo
  obtain rfl : dV = .none := Dflts.none hD hdf
  obtain rfl : kV = .none := Dflts.noKw hD
  obtain ⟨a, vs, ns, rfl, rfl, hobj, hints, hlen⟩ := script_of hn hpre hwl
  refine enter_call (codeAny_mono (call w s₀ s₁ mg mb fa o pm cd doc a vs ns G Y ho (fd_plain hd) hcd hmg hobj hints hlen hg) fun r s' hq => ?_)
  obtain ⟨rfl, h2, h3, h4⟩ := hq
  exact ⟨.inl ⟨.bool true, .bool true, [], rfl, fun _ => rfl, .bool true, post_true l _, fun _ => ⟨List.Pairwise.nil, fun _ hm => (nomatch hm)⟩⟩, h2, h3, h4⟩

section
variable {prog : Program} {w : World} {A : Around} {E : Value → Shared → Prop} {s : Shared} {K : Frag}

end
end Att

namespace L2
open PySem PySem.Spec PyProof.Rows

theorem vals_ints : ∀ {vs : List Value} {ns : List Int}, IntsAre vs ns → Vals (ns.map V.int) vs
  | _, _, .nil => .nil
  | _, _, .cons n t h => .cons ⟨t, rfl⟩ (vals_ints h)

noncomputable def Only (H : Hp) : Prop := ∀ b, H b = none ∨ ∃ o xs, H b = some (.frz o (.lst xs))

theorem law_call {P : Program} {w : World} {K : PySem.W.Frag} {mg mb : Str → Option Value} {CX : CXT} {k : Nat} {fa a : Addr} {fd : FuncData} {x : Str} {sp : Sp} {s₁ : Shared} {vs : List Value} {ns : List Int}
    (KX : K.In s₁.heap) (hns : s₁.heap.Ns mainGlobals mg) (hb : s₁.heap.Ns builtinsNs mb) (hbb : ∀ x : Str, x ≠ "__name__" → mb x = bootBuiltins x) (hlim : s₁.heap.NoLimit) (hg : s₁.gens = #[])
    (ha : s₁.heap.get? a = some { cls := .type "list", data := .seq vs.toArray }) (hi : IntsAre vs ns) (hl : ns.length ≤ sizeLine) (hr : Room k callerA)
    (F : ∀ base : Heap, K.In base → base.Ns mainGlobals mg → FnOk P w K mg base CX k fa fd [x] sp) (hbind : ∀ (s : Shared) (u : Value), BindsTo s fd ⟨[u], []⟩ [(x, u)])
    (hsp : ∀ H : Hp, Only H → SqL K H a (ns.map V.int) → sp [.ref a] H (fun v _ => v = .bl true) fun _ _ _ => False)
    (hCX : ∀ H e s', CX [] H s₁ (fun _ _ _ => False) e s' → False) :
    codeAny (model P w) callerA (.call (.ref fa) ⟨[.ref a], []⟩) (fun r s' => r = .ok (.ret (.bool true)) ∧ OldK s₁.heap s'.heap ∧ s'.os = s₁.os ∧ AllBare s'.gens) s₁ := by
  have rv := vals_ints hi
  have lenV := hi.length
  have core : ∀ H : Hp, Only H → SqL K H a (ns.map V.int) → HOk P w H s₁.heap → (∀ b, H b ≠ none → b = a) → (H a ≠ none → K.lookup a = none) →
      codeAny (model P w) callerA (.call (.ref fa) ⟨[.ref a], []⟩) (fun r s' => r = .ok (.ret (.bool true)) ∧ OldK s₁.heap s'.heap ∧ s'.os = s₁.os ∧ AllBare s'.gens) s₁ := by
    intro H hO hS hok hA hK
    have base_of : ∀ {b : Addr} {o : Obj}, s₁.heap.get? b = some o → H b = none → (hidT s₁.heap H).get? b = some o := fun e n => hidT_get e n
    have noA : ∀ {b : Addr} {o : Obj} {es : Array DictEntry} {ep : Nat}, s₁.heap.get? b = some o → o.data = .dict es ep → H b = none := fun {b o es ep} e d => by
      cases q : H b with
      | none => rfl
      | some u =>
        have e' : b = a := hA b (by rw [q]; simp)
        subst e'
        rw [ha] at e; cases e
        have d' : Data.seq vs.toArray _ = Data.dict es ep := d
        cases d'
    have nsK : ∀ {b : Addr} {m : Str → Option Value}, s₁.heap.Ns b m → (hidT s₁.heap H).Ns b m := fun {b m} ⟨o, es, ep, e, d, r⟩ => ⟨o, es, ep, base_of e (noA e d), d, r⟩
    have hKb : K.In (hidT s₁.heap H) := fun b o e => base_of (KX b o e) (by
      cases q : H b with
      | none => rfl
      | some u =>
        have e' : b = a := hA b (by rw [q]; simp)
        subst e'
        rw [hK (by rw [q]; simp)] at e; cases e)
    have hM : Mod K mg (hidT s₁.heap H) := ⟨hKb, nsK hns, ⟨mb, nsK hb, hbb⟩, let ⟨mc, h1, h2⟩ := hlim; ⟨mc, nsK h1, h2⟩⟩
    have e0 : Env0 P w K mg (hidT s₁.heap H) callerA [] s₁ H := ⟨rfl, hM, fun b o e => of_hidT e, Nat.le_of_eq (hidT_size _ _), trivial, fun b hb => absurd (show b ∈ ([] : List Addr) from hb) (by simp), hok, .of_eq hg⟩
    refine codeAny_mono ((F _ hKb (nsK hns)).run callerA [] s₁ H ⟨[.ref a], []⟩ [.ref a] [.ref a] _ _ hr e0 (hbind s₁ (.ref a)) (.cons rfl .nil) (hsp H hO hS)) fun r s' h => ?_
    cases r with
    | error e => exact (hCX H e s' h).elim
    | ok fl =>
      cases fl with
      | next => exact False.elim h
      | brk => exact False.elim h
      | cont => exact False.elim h
      | ret u =>
        obtain ⟨v, H', os, bare, un, hok', r', q⟩ := h
        have q' : v = .bl true := q
        subst q'
        obtain rfl : u = Value.bool true := r'
        refine ⟨rfl, OldK.of_keep fun b o e => ?_, os, bare⟩
        cases q : H b with
        | none => exact un.keep b o e q (by intro z; exact absurd (show b ∈ ([] : List Addr) from z) (by simp)) (by simp)
        | some u =>
          rcases hO b with z | ⟨ob, xs, z⟩
          · rw [q] at z; cases z
          · have z2 := un.frzs b ob _ z
            obtain ⟨e1, _⟩ := hok b _ z
            obtain ⟨e2, _⟩ := hok' b _ z2
            rw [e] at e1; cases e1
            exact e2
  cases hk : K.lookup a with
  | some o =>
    have e := KX a o hk
    rw [ha] at e
    cases e
    refine core (fun _ => none) (fun _ => .inl rfl) (.inr ⟨_, vs.toArray, _, hk, rfl, rfl, rfl, by rw [List.size_toArray, lenV]; exact hl, by simpa using rv⟩) (fun b u z => by have z' : (none : Option HO) = some u := z; cases z') (fun b z => absurd rfl z) fun z => absurd rfl z
  | none =>
    refine core (fun b => if b = a then some (.frz { cls := .type "list", data := .seq vs.toArray } (.lst (ns.map V.int))) else none) (fun b => ?_) (.inl (.inr ⟨{ cls := .type "list", data := .seq vs.toArray }, if_pos rfl⟩)) (fun b u z => ?_) (fun b z => ?_) fun _ => hk
    · by_cases hb : b = a
      · exact .inr ⟨_, _, if_pos hb⟩
      · exact .inl (if_neg hb)
    · by_cases hb : b = a
      · have z' := (if_pos hb).symm.trans z
        cases z'
        subst hb
        exact ⟨ha, by rw [List.length_map]; exact hl, vs, _, rv, ha⟩
      · have z' := (if_neg hb).symm.trans z
        cases z'
    · by_cases hb : b = a
      · exact hb
      · exact absurd (if_neg hb) z
end L2

namespace L2
open PySem PySem.Spec PyProof.Rows

theorem walk_of {l : PySem.W.OpenLaw} {n k : Nat} {q : Program} {loose : List Str} {XP : (Str → Option Value) → Heap → Prop} {YP : World → Heap → Prop} {d : DefRec} {K : Params → PySem.W.Frag} {CX : World → CXT} {sp : World → Sp} {x : Str}
    (hn : l.most = some n) (hn2 : n ≤ sizeLine) (hdf : d.params.defaults = []) (hr : Room k callerA)
    (hY : ∀ (w : World) (h : Heap), YP w h → (K w.params).In h)
    (F : ∀ (w : World) (mg : Str → Option Value) (fa : Addr) (h : Heap), (K w.params).In h → h.Ns mainGlobals mg → mg d.name = some (.ref fa) →
      ∃ fd : FuncData, (∀ (s : Shared) (u : Value), BindsTo s fd ⟨[u], []⟩ [(x, u)]) ∧
        ∀ base : Heap, (K w.params).In base → base.Ns mainGlobals mg → FnOk l.prog w (K w.params) mg base (CX w) k fa fd [x] (sp w))
    (hsp : ∀ (w : World) (H : Hp) (a : Addr) (ns : List Int), ns.length ≤ n → Only H → SqL (K w.params) H a (ns.map V.int) → sp w [.ref a] H (fun v _ => v = .bl true) fun _ _ _ => False)
    (hCX : ∀ (w : World) (H : Hp) (s : Shared) (e : Value) (s' : Shared), CX w [] H s (fun _ _ _ => False) e s' → False) :
    PySem.W.WalkO q loose XP YP l.row.toRowW d [] (fun f vs => PySem.call f vs) := by
  refine Att.attach_call hn hdf fun w s₀ s₁ mg mb fa o pm cd doc a vs ns G Y ho hd hcd hmg hobj hints hlen hg => ?_
  have KX := hY w _ Y
  obtain ⟨fd, hb, hF⟩ := F w mg fa _ KX G.T.g hmg
  exact law_call KX G.T.g G.T.b G.T.builtins G.T.nolimit hg hobj hints (Nat.le_trans hlen hn2) hr hF hb (fun H hO hS => hsp w H a ns hlen hO hS) fun H e s' => hCX w H s₁ e s'

end L2

namespace L2
open PySem PySem.Spec PyProof.Rows

noncomputable def defArgs (s : Stmt) : Arguments := match s with
  | .FunctionDef _ a _ _ _ _ _ _ _ _ => a
  | _ => { posonlyargs := [], args := [], vararg := none, kwonlyargs := [], kw_defaults := [], kwarg := none, defaults := [] }
noncomputable def defBody (s : Stmt) : List Stmt := match s with
  | .FunctionDef _ _ b _ _ _ _ _ _ _ => b
  | _ => []
noncomputable def defScope (s : Stmt) : Scope := match s with
  | .FunctionDef _ _ _ _ _ _ sc _ _ _ => sc
  | _ => { kind := .function, names := [], isGenerator := false, isCoroutine := false }

noncomputable abbrev CX0 : CXT := fun _ _ _ _ _ _ => False
noncomputable abbrev E0 : XK := fun _ _ _ => False
theorem pass0 {X : Cx} : Passes CX0 X E0 := fun _ _ _ _ _ _ _ h => h.elim

structure Fun (K : PySem.W.Frag) (x qual : Str) (st : Stmt) (f : Addr) (fd : FuncData) : Prop where
  ex : ∃ (oc : Value) (od : Option Addr) (kV doc pm : Value) (an : Option Addr) (cdv ct : Value) (osl : Array (Option Value)),
    fd = PySem.W.fnOf x qual (defArgs st) (defBody st) (defScope st) .none kV doc pm an cdv ct ∧ K.lookup f = some ⟨oc, od, .func fd, osl⟩ ∧ PySem.W.codeIn K cdv qual = true
  kp : PySem.W.keepIn K (.ref f) = true
section
variable {P : Program} {w : World} {K : PySem.W.Frag} {mg : Str → Option Value} {base : Heap}

theorem Fun.ok {x qual : Str} {st : Stmt} {f : Addr} {fd : FuncData} {N ps : List Str} {k : Nat} {sp : Sp} (F : Fun K x qual st f fd) (S : FnScope N ps (defScope st)) (len : ∀ vs H Q E, sp vs H Q E → vs.length = ps.length)
    (hbody : ∀ (cdv : Value) (A : Around) (outer : List Env) (s : Shared) (H : Hp) (vs : List V) (Q : VK) (E : XK), Room k (A.deeper (envOfC qual (defScope st) s.heap.objs.size f cdv)) → sp vs H Q E →
      ∃ t, PSs (cxOf CX0 P w K mg base N qual (defScope st) f cdv A outer s H E).nox (defBody st) t ∧ t { nx := fun _ H' => Q .non H', rt := Q } (start N vs) H) : FnOk P w K mg base CX0 (k + 1) f fd ps sp := by
  obtain ⟨oc, od, kV, doc, pm, an, cdv, ct, osl, rfl, lk, hcd⟩ := F.ex
  refine fn_of lk hcd S len fun A outer s H vs Q E hr hsp => ?_
  obtain ⟨t, h, q⟩ := hbody cdv A outer s H vs Q E hr hsp
  exact ⟨t, h.nox, q⟩

theorem Fun.binds {x qual : Str} {st : Stmt} {f : Addr} {fd : FuncData} {ps : List Str} (F : Fun K x qual st f fd)
    (h : ∀ (kV doc pm : Value) (an : Option Addr) (cdv ct : Value) (us : List Value), us.length = ps.length → bindArgs (PySem.W.fnOf x qual (defArgs st) (defBody st) (defScope st) .none kV doc pm an cdv ct) ⟨us, []⟩ = pure (ps.zip us)) : Binds K fd ps [] := by
  obtain ⟨oc, od, kV, doc, pm, an, cdv, ct, osl, rfl, lk, hcd⟩ := F.ex
  exact .all (h kV doc pm an cdv ct)
theorem fun_mk {x qual : Str} {st : Stmt} {f : Addr} {oc : Value} {od an : Option Addr} {osl : Array (Option Value)} {kV doc pm cdv ct : Value} (l : K.lookup f = some ⟨oc, od, .func (PySem.W.fnOf x qual (defArgs st) (defBody st) (defScope st) .none kV doc pm an cdv ct), osl⟩)
    (c : PySem.W.codeIn K cdv qual = true) (k : PySem.W.keepIn K (.ref f) = true) : Fun K x qual st f (PySem.W.fnOf x qual (defArgs st) (defBody st) (defScope st) .none kV doc pm an cdv ct) := ⟨⟨oc, od, kV, doc, pm, an, cdv, ct, osl, rfl, l, c⟩, k⟩
end
theorem small1000 {n : Nat} (h : n ≤ 1000) : n < sizeLine := Nat.lt_of_le_of_lt h (by decide)

section
variable {X : Cx}
theorem pv (i : Nat) {x : Str} {pos : Pos} (hN : X.N[i]? = some x := by rfl) (hv : Vis X.env.scope x := by first | exact Or.inl rfl | exact Or.inr (Or.inl rfl) | exact Or.inr (Or.inr rfl)) (hd : (x == ("__debug__" : Str)) = false := by decide)
    (hcd : (x == ("__classdict__" : Str)) = false := by decide) : PE X (.Name x pos) (tVar i) := pe_var hN hv hd hcd
end

theorem iteF {A B : Prop} (h : B) : if false = true then A else B := by
  rw [if_neg Bool.false_ne_true]
  exact h
theorem iteT {A B : Prop} (h : A) : if true = true then A else B := by
  rw [if_pos rfl]
  exact h
noncomputable def Same (H H' : Hp) : Prop := ∀ b o, H b = some o → H' b = some o
theorem Same.trans {H H1 H2 : Hp} (a : Same H H1) (b : Same H1 H2) : Same H H2 := fun c o h => b c o (a c o h)
theorem Same.free {H H' : Hp} (e : Same H H') {l : Addr} (h : H' l = Option.none) : H l = Option.none := by
  cases q : H l with
  | none => rfl
  | some o =>
    rw [e l o q] at h
    cases h
theorem Same.seq {K : PySem.W.Frag} {H H' : Hp} {a : Addr} {xs : List V} (e : Same H H') (h : SqL K H a xs) : SqL K H' a xs := by
  rcases h with (h | ⟨o, h⟩) | h
  · exact .inl (.inl (e _ _ h))
  · exact .inl (.inr ⟨o, e _ _ h⟩)
  · exact .inr h

end L2

set_option Elab.async false
set_option linter.all false
set_option maxRecDepth 100000
namespace L2
open PySem PySem.Spec PyProof.Rows

theorem bits_le {x : Int} {n : Nat} (h : x.natAbs < 2 ^ n) : Builtin.Int.intBits x ≤ n := by
  unfold Builtin.Int.intBits
  split
  · exact Nat.zero_le _
  · rename_i hx
    have hx' : x.natAbs ≠ 0 := fun e => hx (by simp [Int.natAbs_eq_zero.mp e])
    have := (Nat.log2_lt hx').mpr h
    omega
theorem mulOk_bits {i j : Int} (h : Builtin.Int.intBits i + Builtin.Int.intBits j ≤ 134217728) : IntMulOk i j := by
  unfold IntMulOk Builtin.Int.intTooBig
  have h' : ¬ ((Builtin.Int.intBits i : Int) + (Builtin.Int.intBits j : Int) > ((bitsLine : Nat) : Int)) := by
    rw [bitsLine_eq]
    omega
  intro z
  rw [Bool.and_eq_true] at z
  exact h' (of_decide_eq_true z.2)
theorem mulOk_small {i j : Int} (h1 : -(2 ^ 64) < i) (h2 : i < 2 ^ 64) : IntMulOk i j := .of_left (intBits_le_64 h1 h2)
section
variable {X : Cx}
theorem op_mulG : OpR X (binaryOp .Mult) (rI IntMulOk fun i j => .int (i * j)) := opI fun _ _ _ _ _ _ _ hc q => mul_int q hc
noncomputable def CDivG (_ j : Int) : Prop := j ≠ 0 ∧ j.natAbs.log2 < 9000
theorem op_fdivG : OpR X (binaryOp .FloorDiv) (rI CDivG fun i j => .int (i.fdiv j)) := opI fun _ _ _ _ _ _ _ hc q => floordiv_int hc.1 q (.inl (PyProof.noPylong_of_log2 hc.2))
noncomputable def CDivP (_ j : Int) : Prop := 0 < j ∧ j.natAbs.log2 < 9000
theorem op_fdivP : OpR X (binaryOp .FloorDiv) (rI CDivP fun i j => .int (i / j)) := opI fun i j _ _ _ _ _ hc q => by
  have h1 : (0 : Int) < j := hc.1
  exact floordiv_int (by omega) (by rw [Int.fdiv_eq_ediv_of_nonneg i (by omega)]; exact q) (.inl (PyProof.noPylong_of_log2 hc.2))
theorem log2_of {j : Int} (h : j.natAbs < 2 ^ 64) : j.natAbs.log2 < 9000 := by
  rcases Nat.eq_zero_or_pos j.natAbs with e | e
  · rw [e]; decide
  · exact Nat.lt_of_lt_of_le ((Nat.log2_lt (Nat.ne_of_gt e)).mpr h) (by decide)
theorem cdivP_small {i j : Int} (h1 : 0 < j) (h2 : j < 2 ^ 64) : CDivP i j := ⟨h1, log2_of (by omega)⟩
theorem call_isinst : CallR X (.builtin "isinstance") (fun xs H Q => ∃ x n t b, xs = [x, .ty n] ∧ TyOf X.K H x t ∧ PySem.W.kitOne X.K t (.type n) = some b ∧ Q (.bl b) H) := by
  intro pins s σ H xs us Q I r h
  obtain ⟨x, n, t, b, rfl, ty, e, q⟩ := h
  cases r with
  | cons r1 r2 =>
    cases r2 with
    | cons r2 r3 =>
      cases r3
      cases (show _ = Value.type n from r2)
      exact isinst_ok I r1 ty e fun tk => ⟨.bl b, H, I.tok _, rfl, q⟩
theorem kit_self (K : PySem.W.Frag) (t : Value) (h : (t == t) = true := by rfl) : PySem.W.kitOne K t t = some true := by
  unfold PySem.W.kitOne
  rw [if_pos h]

noncomputable def tCut (t u : TS) : TS := fun D σ H => ∃ M : St → Hp → Prop, t { D with nx := M } σ H ∧ ∀ σ' H', M σ' H' → u D σ' H'
theorem pss_cut {st : Stmt} {rest : List Stmt} {t u : TS} (h1 : PS X st t) (h2 : PSs X rest u) : PSs X (st :: rest) (tCut t u) := by
  intro pins s σ H D I h
  obtain ⟨M, h, hm⟩ := h
  refine wpAny_execs_cons (thn (h1 pins s σ H { D with nx := M } I h) fun f s1 q => ?_)
  cases f with
  | next =>
    obtain ⟨σ', H', I', q⟩ := q
    exact h2 pins s1 σ' H' D I' (hm _ _ q)
  | ret v => exact q
  | brk => exact q
  | cont => exact q
end
theorem same_new {H : Hp} {p : Addr} (h : H p = none) (o : HO) : Same H (upd H p o) := fun b u q => by rw [upd_ne (ne_of_none q h)]; exact q
theorem same_upd {H H' : Hp} {p : Addr} (s : Same H H') (h : H p = none) (o : HO) : Same H (upd H' p o) := fun b u q => by rw [upd_ne (ne_of_none q h)]; exact s b u q
theorem at_ints {ns : List Int} {j : Int} (h0 : 0 ≤ j) (h : j < (ns.length : Int)) : atI (ns.map V.int) j = some (.int (ns.getD j.toNat 0)) := by
  have hk : j.toNat < ns.length := by omega
  have ek : j = ((j.toNat : Nat) : Int) := by omega
  have q : atI (ns.map V.int) ((j.toNat : Nat) : Int) = some (.int ns[j.toNat]) := atI_nat (by rw [List.getElem?_map, List.getElem?_eq_getElem hk] <;> rfl)
  rw [← ek] at q
  rw [q, List.getD_eq_getElem?_getD, List.getElem?_eq_getElem hk]
  rfl
theorem getD_mem {ns : List Int} {P : Int → Prop} (h : ∀ n ∈ ns, P n) {k : Nat} (hk : k < ns.length) : P (ns.getD k 0) := by
  rw [List.getD_eq_getElem?_getD, List.getElem?_eq_getElem hk]
  exact h _ (List.getElem_mem hk)
end L2
namespace L2
open PySem PySem.Spec PyProof.Rows
theorem small_len {n : Nat} (h : n ≤ 100000) : n ≤ sizeLine := Nat.le_trans h (by decide)
end L2
namespace L2
open PySem PySem.Spec PyProof.Rows
theorem itb {b : Bool} {A B : Prop} (h1 : b = true → A) (h2 : b = false → B) : if b = true then A else B := by
  cases b with
  | true => exact iteT (h1 rfl)
  | false => exact iteF (h2 rfl)
theorem itd {c : Prop} [Decidable c] {A B : Prop} (h1 : c → A) (h2 : ¬ c → B) : if decide c = true then A else B :=
  itb (fun h => h1 (of_decide_eq_true h)) (fun h => h2 (of_decide_eq_false h))
theorem itn {c : Prop} [Decidable c] {A B : Prop} (h1 : ¬ c → A) (h2 : c → B) : if (!decide c) = true then A else B :=
  itb (fun h => h1 (of_decide_eq_false (by simpa using h))) (fun h => h2 (of_decide_eq_true (by simpa using h)))
end L2
namespace L2
theorem cpow_small {i j : Int} (h1 : 0 ≤ j) (h2 : j ≤ 1000000) (h3 : i.natAbs < 2 ^ 64) : CPow i j := ⟨h1, h2, h3⟩
end L2
namespace L2
open PySem PySem.Spec PyProof.Rows
theorem cut_ints (ns : List Int) (lo hi : Option Int) : ∃ ms : List Int, cutV (ns.map V.int) lo hi = ms.map V.int ∧ ms.length ≤ ns.length ∧ ∀ m ∈ ms, m ∈ ns := by
  refine ⟨(ns.drop (HT.sIx ns.length 0 lo)).take (HT.sIx ns.length ns.length hi - HT.sIx ns.length 0 lo), ?_, ?_, ?_⟩
  · unfold cutV
    rw [List.length_map, List.map_take, List.map_drop]
  · rw [List.length_take, List.length_drop]
    omega
  · intro m hm
    exact List.mem_of_mem_drop (List.mem_of_mem_take hm)
theorem ints_get {ns : List Int} {i : Nat} {x : V} (h : (ns.map V.int)[i]? = some x) : ∃ z, x = .int z ∧ z ∈ ns ∧ i < ns.length := by
  rw [List.getElem?_map] at h
  cases e : ns[i]? with
  | none =>
    rw [e] at h
    cases h
  | some z =>
    rw [e] at h
    exact ⟨z, (Option.some.inj h).symm, List.mem_of_getElem? e, (List.getElem?_eq_some_iff.mp e).1⟩
end L2
namespace L2
open PySem PySem.Spec PyProof.Rows
theorem upd_keep {H : Hp} {p q : Addr} {o u : HO} (hq : H q = some u) (hp : H p = none) : upd H p o q = some u := by
  rw [upd_ne (ne_of_none hq hp)]
  exact hq
theorem pe_powc {X : Cx} {a b : Int} {j1 j2} {p1 p2 pos : Pos} {v : Int} (h : a ^ b.toNat = v) (hc : CPow a b) : PE X (.BinOp (.Constant (.int a) j1 p1) .Pow (.Constant (.int b) j2 p2) pos) (tC (.int v)) := by
  intro pins s σ H Q I q
  subst h
  exact pe_op op_pow pe_int pe_int pins s σ H Q I ⟨_, _, rfl, rfl, hc, q⟩
end L2

set_option Elab.async false
set_option linter.all false
set_option maxRecDepth 100000
namespace L2
open PySem PySem.Spec PyProof.Rows

theorem ObjOk.thing {P : Program} {w : World} {H : Hp} {h : Heap} {a : Addr} {o : HO} (x : ObjOk P w H h a o) : ∃ ob, h.get? a = some ob := by
  cases o with
  | lst xs => obtain ⟨_, _, _, _, e⟩ := x; exact ⟨_, e⟩
  | tup xs => obtain ⟨_, _, _, ob, e, _⟩ := x; exact ⟨_, e⟩
  | dK kvs => obtain ⟨_, _, _, _, ob, _, _, e, _⟩ := x; exact ⟨_, e⟩
  | dT kvs => obtain ⟨_, _, _, _, ob, _, _, e, _⟩ := x; exact ⟨_, e⟩
  | set S n => obtain ⟨ob, _, _, _, e, _⟩ := x; exact ⟨_, e⟩
  | ins C dx fs => obtain ⟨_, _, _, e, _⟩ := x; exact ⟨_, e⟩
  | own y => exact x
  | xd fs => obtain ⟨_, ⟨_, _, _, e, _⟩, _⟩ := x; exact ⟨_, e⟩
  | rng lo hi => obtain ⟨_, _, _, e⟩ := x; exact ⟨_, e⟩
  | frz ob u => obtain ⟨e, _⟩ := x; exact ⟨_, e⟩
  | tbl ps => exact ⟨_, x⟩
  | met f y => exact ⟨_, x⟩
  | ext φ => obtain ⟨_, e, _⟩ := x; exact e
theorem HOk.gone {P : Program} {w : World} {H : Hp} {h : Heap} {a : Addr} (x : HOk P w H h) (e : h.get? a = none) : H a = none := by
  cases q : H a with
  | none => rfl
  | some u =>
    obtain ⟨ob, z⟩ := (x a u q).thing
    rw [e] at z
    cases z
theorem HOk.tracked {P : Program} {w : World} {H : Hp} {h h' : Heap} (x : HOk P w H h) (k : ∀ b u ob, H b = some u → h.get? b = some ob → h'.get? b = some ob) : HOk P w H h' := fun a o e =>
  (x a o e).stay (fun b u z q => by
    rcases z with rfl | z
    · exact k b o u e q
    · exact k b _ u z q) (fun _ q => q) fun _ _ q => q

structure Fly (P : Program) (w : World) (outer : List Env) (H : Hp) (s : Shared) (H' : Hp) (a C : Addr) (s' : Shared) : Prop where
  os : s'.os = s.os
  bare : AllBare s'.gens
  un : Un (frs outer) [] H H' s.heap s'.heap
  hok : HOk P w H' s'.heap
  new : H' a = none
  old : s.heap.get? a = none
  fly : ∃ (B : Heap) (a0 : Value), Heap.FlyingW B outer a (.ref C) a0 s'.heap ∧ ∀ b o, s'.heap.get? b = some o → b ∉ frs outer → ((∃ o', s.heap.get? b = some o') ∨ ∃ u, H' b = some u) → B.get? b = some o
noncomputable def CX1 (P : Program) (w : World) : CXT := fun outer H s E e s' => ∃ a C H', e = .ref a ∧ Fly P w outer H s H' a C s' ∧ E (.ref C) none H'
section
variable {P : Program} {w : World} {K : PySem.W.Frag} {mg : Str → Option Value} {base : Heap} {N : List Str} {qual : Str} {scope : Scope} {f : Addr} {cd : Value} {A : Around} {outer : List Env} {s : Shared} {H : Hp} {E : XK}
noncomputable abbrev cx1 (P : Program) (w : World) (K : PySem.W.Frag) (mg : Str → Option Value) (base : Heap) (N : List Str) (qual : Str) (scope : Scope) (f : Addr) (cd : Value) (A : Around) (outer : List Env) (s : Shared) (H : Hp) (E : XK) : Cx :=
  cxOf (CX1 P w) P w K mg base N qual scope f cd A outer s H E
theorem frs_cons {e : Env} {l : List Env} {L b : Addr} (hf : e.frame = some L) : b ∈ frs (e :: l) ↔ b = L ∨ b ∈ frs l := by
  unfold frs
  rw [List.filterMap_cons, hf]
  exact List.mem_cons

theorem un_leave {pins : List (Addr × Obj)} {σ : St} {H1 H2 : Hp} {s1 : Shared} {h2 : Heap} (I : Inv (cx1 P w K mg base N qual scope f cd A outer s H E) pins σ H1 s1)
    (u : Un (frs (cx1 P w K mg base N qual scope f cd A outer s H E).stack) [] H1 H2 s1.heap h2) : Un (frs outer) [] H H2 s.heap h2 := by
  have lf : (cx1 P w K mg base N qual scope f cd A outer s H E).env.frame = some s.heap.objs.size := rfl
  have st : ∀ b, b ∈ frs (cx1 P w K mg base N qual scope f cd A outer s H E).stack ↔ b = s.heap.objs.size ∨ b ∈ frs outer := fun b => frs_cons lf
  have bas : Un (frs outer) [] H H1 s.heap s1.heap := I.base
  have noL : ∀ b o, s.heap.get? b = some o → b ∉ frs outer → b ∉ frs (cx1 P w K mg base N qual scope f cd A outer s H E).stack := fun b o q hb z => by
    rcases (st b).mp z with z | z
    · exact absurd (Heap.lt_size q) (by rw [z]; exact Nat.lt_irrefl _)
    · exact hb z
  refine ⟨fun b o q n hb hx => ?_, fun b o q n hb hx => ?_, fun b o q n hx => ?_, fun b o q hx => ?_, fun b xs q => u.tups b xs (bas.tups b xs q), fun b o v q => u.frzs b o v (bas.frzs b o v q), fun b ps q => ?_⟩
  · exact u.keep b o (bas.keep b o q n hb hx) (bas.free b o q n hx) (noL b o q hb) hx
  · obtain ⟨sl, e1⟩ := bas.slot b o q n hb hx
    obtain ⟨sl2, e2⟩ := u.slot b _ e1 (bas.free b o q n hx) ((st b).mpr (.inr hb)) hx
    exact ⟨sl2, e2⟩
  · obtain ⟨o', e1⟩ := bas.there b o q hx
    exact u.free b o' e1 (bas.free b o q n hx) hx
  · obtain ⟨o', e1⟩ := bas.there b o q hx
    exact u.there b o' e1 hx
  · obtain ⟨m1, e1⟩ := bas.tbls b ps q
    obtain ⟨m2, e2⟩ := u.tbls b _ e1
    exact ⟨m1 ++ m2, by rw [e2, Array.append_assoc]⟩

theorem un_fly {l : List Env} {H1 H2 : Hp} {h1 h2 h3 : Heap} (u : Un (frs l) [] H1 H2 h1 h2) (k : ∀ b o, h2.get? b = some o → b ∉ frs l → ((∃ o', h1.get? b = some o') ∨ ∃ u, H2 b = some u) → h3.get? b = some o)
    (ff : ∀ b, b ∈ frs l → ∃ o, h2.get? b = some o ∧ ∀ vs, o.data ≠ .fields vs) (up : h2.UpToSlots h3) : Un (frs l) [] H1 H2 h1 h3 := by
  have fr : ∀ b o, b ∈ frs l → h2.get? b = some o → ∃ sl, h3.get? b = some { o with slots := sl } := fun b o hb q => by
    obtain ⟨o', e, nf⟩ := ff b hb
    rw [q] at e
    cases e
    exact up b o q nf
  refine ⟨fun b o q n hb hx => k b o (u.keep b o q n hb hx) hb (.inl ⟨o, q⟩), fun b o q n hb hx => ?_, u.free, fun b o q hx => ?_, u.tups, u.frzs, u.tbls⟩
  · obtain ⟨sl, e1⟩ := u.slot b o q n hb hx
    obtain ⟨sl2, e2⟩ := fr b _ hb e1
    exact ⟨sl2, e2⟩
  · obtain ⟨o', e1⟩ := u.there b o q hx
    by_cases hb : b ∈ frs l
    · obtain ⟨sl, e2⟩ := fr b o' hb e1
      exact ⟨_, e2⟩
    · exact ⟨o', k b o' e1 hb (.inl ⟨o, q⟩)⟩
theorem old_of {pins : List (Addr × Obj)} {σ : St} {H1 : Hp} {s1 : Shared} {a : Addr} (I : Inv (cx1 P w K mg base N qual scope f cd A outer s H E) pins σ H1 s1) (e : s1.heap.get? a = none) : s.heap.get? a = none := by
  have bas : Un (frs outer) [] H H1 s.heap s1.heap := I.base
  cases q : s.heap.get? a with
  | none => rfl
  | some o =>
    obtain ⟨o', z⟩ := bas.there a o q (by simp)
    rw [e] at z
    cases z

theorem leave_made {pins : List (Addr × Obj)} {σ : St} {H1 : Hp} {s1 : Shared} {h' : Heap} {a C : Addr} {args : List Value} (I : Inv (cx1 P w K mg base N qual scope f cd A outer s H E) pins σ H1 s1)
    (hx : Heap.MadeExcOf s1.heap h' a (.ref C) args) (q : E (.ref C) none H1) : (cx1 P w K mg base N qual scope f cd A outer s H E).xe (.ref a) { s1 with heap := h' } := by
  have lf : (cx1 P w K mg base N qual scope f cd A outer s H E).env.frame = some s.heap.objs.size := rfl
  have st : ∀ b, b ∈ frs (cx1 P w K mg base N qual scope f cd A outer s H E).stack ↔ b = s.heap.objs.size ∨ b ∈ frs outer := fun b => frs_cons lf
  have ff := I.stack
  have hin : ∀ env ∈ (cx1 P w K mg base N qual scope f cd A outer s H E).stack, ∀ b, env.frame = some b → b ∈ frs (cx1 P w K mg base N qual scope f cd A outer s H E).stack := fun env he b hb => List.mem_filterMap.mpr ⟨env, he, hb⟩
  have ff2 := PySem.W.funFrames_hide ff hin
  refine wpAny_leaves_madeW (base := PySem.W.hideAll s1.heap (frs (cx1 P w K mg base N qual scope f cd A outer s H E).stack)) (h := s1.heap) I.ok.frames lf (fun b o z => PySem.W.of_hideAll _ z) ff2 hx fun h2 t x1 x2 x3 x4 => ?_
  have inB : ∀ b o, s1.heap.get? b = some o → b ∉ frs (cx1 P w K mg base N qual scope f cd A outer s H E).stack → h2.get? b = some o := fun b o z nb => x1.1 b o (PySem.W.hideAll_get _ z nb)
  have fm : ∀ b, b ∈ frs (cx1 P w K mg base N qual scope f cd A outer s H E).stack → ∃ o, s1.heap.get? b = some o ∧ ∀ vs, o.data ≠ .fields vs := fun b hb => (ff2.mem hb).2
  have up : s1.heap.UpToSlots h2 := (Heap.UpToSlots.of_keeps hx.keeps).trans x4
  have u1 : Un (frs (cx1 P w K mg base N qual scope f cd A outer s H E).stack) [] H1 H1 s1.heap h2 := un_fly Un.refl (fun b o z nb _ => inB b o z nb) fm up
  refine ⟨a, C, H1, rfl, ⟨I.os, I.bare, un_leave I u1, I.hok.tracked fun b u ob z zz => inB b ob zz fun m => ?_, I.hok.gone hx.new, old_of I hx.new, _, _, x1, fun b o z nb hor => ?_⟩, q⟩
  · have := I.stkFree b m
    rw [z] at this
    cases this
  · have hnL : b ∉ frs (cx1 P w K mg base N qual scope f cd A outer s H E).stack := fun m => by
      rcases hor with ⟨o', e⟩ | ⟨u, e⟩
      · rcases (st b).mp m with m | m
        · exact absurd (Heap.lt_size e) (by rw [m]; exact Nat.lt_irrefl _)
        · exact nb m
      · have := I.stkFree b m
        rw [e] at this
        cases this
    have : ∃ o1, s1.heap.get? b = some o1 := by
      rcases hor with ⟨o', e⟩ | ⟨u, e⟩
      · exact Un.there (show Un (frs outer) [] H H1 s.heap s1.heap from I.base) b o' e (by simp)
      · exact (I.hok b u e).thing
    obtain ⟨o1, e1⟩ := this
    have e2 := inB b o1 e1 hnL
    have z' : h2.get? b = some o := z
    rw [e2] at z'
    cases z'
    exact PySem.W.hideAll_get _ e1 hnL

end
end L2

set_option Elab.async false
set_option linter.all false
set_option maxRecDepth 100000
namespace L2
open PySem PySem.Spec PyProof.Rows
abbrev bmV : List Value := [.type "ValueError", .type "Exception", .type "BaseException", .type "object"]

structure Err (K : PySem.W.Frag) (C : Addr) : Prop where
  exc : PySem.W.excIn K C bmV "ValueError.__new__" = true
  ga : PySem.W.findIn K (.ref C) "__getattribute__" = some (some (.builtin "BaseException.__getattribute__"))
  gt : PySem.W.findIn K (.ref C) "__getattr__" = some none
  cl : PySem.W.findIn K (.ref C) "__class__" = some (some (.builtin "object.__class__"))
  ob : PySem.W.mroIn K C (.type "object") = some true
  bs : PySem.W.mroIn K C (.type "BaseException") = some true
theorem exc_obj {K : PySem.W.Frag} {h : Heap} {C : Addr} {bmB : List Value} {newId : String} (X : K.In h) (q : PySem.W.excIn K C bmB newId = true) :
    ∃ bm N nm qn bs hdct sn sub ab col dd k0 k1 k2 k3 k5 mN, h.get? C = some (excClassObj nm qn C N bs bm hdct sn sub ab col dd k0 k1 k2 k3 k5 newId) ∧ h.Ns N mN ∧ mN "__init__" = none ∧ OwnTail h bmB bm := by
  unfold PySem.W.excIn at q
  cases hl : K.lookup C with
  | none => rw [hl] at q; simp at q
  | some o =>
    have ho := X _ _ hl
    obtain ⟨oc, dd, od, sl⟩ := o
    rw [hl] at q
    split at q
    · rename_i dd' cd sl' he
      cases he
      split at q
      · rename_i C' bm k0 k1 k2 k3 n k5 hm hs
        simp only [Bool.and_eq_true, beq_iff_eq, Bool.not_eq_true'] at q
        obtain ⟨⟨⟨⟨⟨q1, q2⟩, q3⟩, q4⟩, q5⟩, q6⟩ := q
        subst q1 q2
        obtain ⟨nm, bs, mro, ns, qn, hd, sn, sub, ab, col, del⟩ := cd
        dsimp only at hm q3 q5 q6
        subst hm q3
        have es : sl = #[k0, k1, k2, k3, some (.builtin n), k5] := by
          cases sl
          dsimp only at hs
          rw [hs]
        subst es
        exact ⟨bm, ns, nm, qn, bs, hd, sn, sub, ab, col, dd, k0, k1, k2, k3, k5, _, ho, Heap.Ns.of_isNs (PySem.W.isNs_of_in X q5), PySem.W.nsMap_none_of_in X q5 q6, PySem.W.tail_of_in X q4⟩
      · cases q
    · cases q

noncomputable def Raiser (X : Cx) (R : Addr → Hp → Prop) : Prop := ∀ (pins : List (Addr × Obj)) (σ : St) (H : Hp) (s : Shared) (h' : Heap) (a C : Addr) (args : List Value), Inv X pins σ H s → Heap.MadeExcOf s.heap h' a (.ref C) args → R C H → X.xe (.ref a) { s with heap := h' }
theorem raiser1 {P : Program} {w : World} {K : PySem.W.Frag} {mg : Str → Option Value} {base : Heap} {N : List Str} {qual : Str} {scope : Scope} {f : Addr} {cd : Value} {A : Around} {outer : List Env} {s : Shared} {H : Hp} {E : XK} :
    Raiser (cx1 P w K mg base N qual scope f cd A outer s H E) (fun C H' => E (.ref C) none H') := fun _ _ _ _ _ _ _ _ I hx q => leave_made I hx q
noncomputable def tRaise (R : Addr → Hp → Prop) (C : Addr) (t : TA) : TS := fun _ σ H => t σ H fun vs H1 => vs.length ≤ sizeLine ∧ R C H1
section
variable {X : Cx} {x : Str} {C : Addr} {e : Expr} {t : TA} {np cpos pos : Pos} {R : Addr → Hp → Prop}
theorem ps_raise (hR : Raiser X R) (hc : X.calm = true) (hg : Gl X x) (hm : X.mg x = some (.ref C)) (q : Err X.K C) (ha : PA X [e] t) (hs : starEach [e] X.env = [(false, eval e X.env)] := by rfl)
    (hd : (x == ("__debug__" : Str)) = false := by decide) : PS X (.Raise (some (.Call (.Name x np) [e] [] cpos)) none pos) (tRaise R C t) := by
  intro pins s σ H D I h
  obtain ⟨bm, N, nm, qn, bs, hdct, sn, sub, ab, col, dd, k0, k1, k2, k3, k5, mN, hC, hN, hni, T⟩ := exc_obj I.ok.mod.kin q.exc
  refine wpAny_Raise_call_subT (C := C) (bm := bm) (mN := mN) (nm := nm) (q := qn) (N := N) (bs := bs) (hdct := hdct) (sn := sn) (sub := sub) (ab := ab) (col := col) (dd := dd) (k0 := k0) (k1 := k1) (k2 := k2) (k3 := k3) (k5 := k5) (F := PySem.F.excBase_ValueError) (T.hasType PySem.F.excBase_ValueError.hasBase) (I.ok.hd hc) (by rw [hs]; rfl) hni (ld_glob I hg hm ⟨rfl, ?_⟩ hd)
  have h2 := ha cpos pins s σ H _ I h
  rw [hs] at h2 ⊢
  refine Calls.evalArgs_plain (thn h2 fun us s2 z => ?_)
  obtain ⟨vs, H1, I1, r, hl, q1⟩ := z
  refine ⟨rfl, by rw [← r.length]; exact hl, I1.bk _ _ hC, hN.keeps I1.bk, T.keeps I1.bk, fun h' a hx => hR pins σ H1 s2 h' a C _ I1 hx q1⟩
end
theorem PS.nox {X : Cx} {st : Stmt} {t : TS} (h : PS X.nox st t) : PS X st t := fun pins s σ H D I hw =>
  wpAny_mono (h pins s σ H D (I.wish _) hw) (fun _ _ q => q.unwish) fun _ _ z => False.elim z

theorem Fun.okE {P : Program} {w : World} {K : PySem.W.Frag} {mg : Str → Option Value} {base : Heap} {x qual : Str} {st : Stmt} {f : Addr} {fd : FuncData} {N ps : List Str} {k : Nat} {sp : Sp} (F : Fun K x qual st f fd) (S : FnScope N ps (defScope st))
    (len : ∀ vs H Q E, sp vs H Q E → vs.length = ps.length)
    (hb : ∀ (cdv : Value) (A : Around) (outer : List Env) (s : Shared) (H : Hp) (vs : List V) (Q : VK) (E : XK), Room k (A.deeper (envOfC qual (defScope st) s.heap.objs.size f cdv)) → sp vs H Q E →
      ∃ t, PSs (cx1 P w K mg base N qual (defScope st) f cdv A outer s H E) (defBody st) t ∧ t { nx := fun _ H' => Q .non H', rt := Q } (start N vs) H) : FnOk P w K mg base (CX1 P w) (k + 1) f fd ps sp := by
  obtain ⟨oc, od, kV, doc, pm, an, cdv, ct, osl, e, lk, hcd⟩ := F.ex
  subst e
  exact fn_of lk hcd S len fun A outer s H vs Q E hr h => hb cdv A outer s H vs Q E hr h

theorem FnOk.noerr {P : Program} {w : World} {K : PySem.W.Frag} {mg : Str → Option Value} {base : Heap} {k : Nat} {f : Addr} {fd : FuncData} {ps : List Str} {sp : Sp} (F : FnOk P w K mg base (CX1 P w) k f fd ps sp) :
    FnOk P w K mg base CX0 k f fd ps (fun vs H Q _ => sp vs H Q E0) :=
  ⟨fun vs H Q E h => F.len vs H Q E0 h, fun A outer s H args us vs Q E hr e0 hb r h => codeAny_mono (F.run A outer s H args us vs Q E0 hr e0 hb r h) fun r s' z => by
    cases r with
    | error e =>
      obtain ⟨_, _, _, _, _, q⟩ := z
      exact q.elim
    | ok fl => cases fl <;> exact z⟩

noncomputable def FX (X : Cx) (pins : List (Addr × Obj)) (σ : St) (E : XK) (e : Value) (s' : Shared) : Prop := ∃ H1 s1, Inv X pins σ H1 s1 ∧ CX1 X.prog X.w X.stack H1 s1 E e s'
noncomputable abbrev TX := St → Hp → VK → XK → Prop
noncomputable def PX (X : Cx) (e : Expr) (t : TX) : Prop :=
  ∀ (pins : List (Addr × Obj)) (s : Shared) (σ : St) (H : Hp) (Q : VK) (E : XK), Inv X pins σ H s → t σ H Q E → wpAny (model X.prog X.w) X.A (eval e X.env) (EP X pins σ Q) (FX X pins σ E) s
noncomputable def tCallX (sp : Sp) (t : TA) : TX := fun σ H Q E => t σ H fun vs H1 => sp vs H1 Q E
section
variable {X : Cx} {k : Nat} {f : Addr} {fd : FuncData} {ps : List Str} {sp : Sp} {x : Str} {p pos : Pos} {e : Expr} {es : List Expr} {t : TA}
theorem px_call (F : FnOk X.prog X.w X.K X.mg X.base (CX1 X.prog X.w) k f fd ps sp) (hr : Room k X.A) (hg : Gl X x) (hm : X.mg x = some (.ref f)) (hk : PySem.W.keepIn X.K (.ref f) = true) (hb : Binds X.K fd ps [])
    (ha : PA X.nox (e :: es) t) (hdb : (x == ("__debug__" : Str)) = false := by decide) (he : starEach (e :: es) X.env = (false, eval e X.env) :: starEach es X.env := by rfl) (hpl : (backTo pos (starEach es X.env)).any (·.1) = false := by rfl) :
    PX X (.Call (.Name x p) (e :: es) [] pos) (tCallX sp t) := by
  intro pins s σ H Q E I h
  refine wpAny_Call_Name_kw (ld_glob I hg hm ?_ hdb)
  have h2 := ha pos pins s σ H _ (I.wish _) h
  refine PySem.W.callWith_K (h₀ := X.base) I.ok.mod.kin hk (wpAny_mono h2 (fun us s1 z => ?_) fun _ _ z => False.elim z) he hpl
  obtain ⟨vs, H1, I1', r, q⟩ := z
  have I1 : Inv X pins σ H1 s1 := I1'.unwish
  refine ⟨I1.kIn, ?_⟩
  have hl : us.length = ps.length := by rw [← r.length]; exact F.len _ _ _ _ q
  have hb2 : BindsTo s1 fd ⟨us, []⟩ (ps.zip us) := by
    have := hb s1 us I1.kIn (by rw [List.append_nil]; exact hl)
    rwa [List.append_nil] at this
  refine wpAny_call (codeAny_mono (F.run X.A X.stack s1 H1 ⟨us, []⟩ us vs Q E hr I1.env0 hb2 r q) fun r s' hq => ?_)
  cases r with
  | error e => exact ⟨H1, s1, I1, hq⟩
  | ok fl =>
    cases fl with
    | ret u => exact I1.after hq
    | next => exact False.elim hq
    | brk => exact False.elim hq
    | cont => exact False.elim hq
end
end L2

set_option Elab.async false
set_option linter.all false
set_option maxRecDepth 100000
namespace L2
open PySem PySem.Spec PyProof.Rows

noncomputable def ErrAt (a C : Addr) (h : Heap) : Prop := ∃ ob vs, h.get? a = some ob ∧ ob.cls = .ref C ∧ ob.data = .fields vs
noncomputable def errO (a C : Addr) : HO := .ext (ErrAt a C)
section
variable {X : Cx} {pins : List (Addr × Obj)} {σ : St} {H : Hp} {s : Shared}

noncomputable abbrev cxSuite (X : Cx) (a : Addr) : Cx := { X with A := X.A.mark (some (.ref a)), calm := false, xe := fun _ _ => False }
theorem Inv.suite (I : Inv X pins σ H s) (a : Addr) : Inv (cxSuite X a) pins σ H s :=
  ⟨⟨I.ok.mod, I.ok.kind, I.ok.glob, I.ok.blt, I.ok.above, I.ok.inj, I.ok.has, I.ok.cab, (fun z => by cases z), I.ok.frames, I.ok.stk, I.ok.exf, I.ok.bs, I.ok.bsz, I.ok.noex, I.ok.exfs, I.ok.funs, I.ok.frf⟩, I.os, I.bare, I.base, I.loc, I.cell, I.free, I.freeC, I.pin, I.hok, I.len⟩
theorem Inv.unsuite {a : Addr} (ok : X.Ok) (I : Inv (cxSuite X a) pins σ H s) : Inv X pins σ H s :=
  ⟨ok, I.os, I.bare, I.base, I.loc, I.cell, I.free, I.freeC, I.pin, I.hok, I.len⟩

theorem Inv.adopt {H1 : Hp} {s1 : Shared} {a : Addr} {φ : Heap → Prop} (I0 : Inv X pins σ H1 s1) (e0 : s1.heap.get? a = none) (I : Inv X pins σ H s) (n : H a = none) (p : φ s.heap) (ho : ∃ o, s.heap.get? a = some o)
    (st : ∀ h1 h2 : Heap, φ h1 → (∀ o, h1.get? a = some o → h2.get? a = some o) → φ h2) : Inv X pins σ (upd H a (.ext φ)) s := by
  have ne : ∀ b o, s1.heap.get? b = some o → b ≠ a := fun b o z e => by rw [e, e0] at z; cases z
  have keepH : ∀ b u, H b = some u → upd H a (.ext φ) b = some u := fun b u z => by rw [upd_ne (ne_of_none z n)]; exact z
  refine ⟨I.ok, I.os, I.bare, ⟨I.base.keep, I.base.slot, fun b o q m hx => ?_, I.base.there, fun b xs q => keepH b _ (I.base.tups b xs q), fun b o v q => keepH b _ (I.base.frzs b o v q), fun b ps q => ?_⟩, I.loc, I.cell, ?_, fun x c e => ?_, fun p hp => ?_, fun b u z => ?_, I.len⟩
  · obtain ⟨o', e1⟩ := I0.base.there b o q hx
    rw [upd_ne (ne b o' e1)]
    exact I.base.free b o q m hx
  · obtain ⟨m1, e1⟩ := I.base.tbls b ps q
    exact ⟨m1, keepH b _ e1⟩
  · obtain ⟨m, hn, _⟩ := I0.loc
    obtain ⟨o, _, _, e1, _⟩ := hn
    rw [upd_ne (ne _ o e1)]
    exact I.free
  · obtain ⟨v, o, e1, _⟩ := I0.cell x c e
    rw [upd_ne (ne _ o e1)]
    exact I.freeC x c e
  · obtain ⟨q1, q2, q3⟩ := I.pin p hp
    refine ⟨q1, ?_, q3⟩
    obtain ⟨z1, _⟩ := I0.pin p hp
    rw [upd_ne (ne _ _ z1)]
    exact q2
  · by_cases hb : b = a
    · subst hb
      rw [upd_same] at z
      cases z
      exact ⟨p, ho, st⟩
    · rw [upd_ne hb] at z
      exact (I.hok b u z).stay (fun _ _ _ q => q) (fun c q => keepH c _ q) fun c xs q => keepH c _ q

theorem name_goes {M : Model} {A : Around} {E : Value → Shared → Prop} {i : Nat} {n : Str} {pos : Pos} {Q : Unit → Shared → Prop} (I : Inv X pins σ H s) (hN : X.N.Nodup) (hi : X.N[i]? = some n) (hl : X.env.scope.names.lookup n = some .local)
    (h : ∀ s', Inv X pins (σ.set i none) H s' → Q () s') : wpAny M A (do bindName X.env n .none; unbindBehindTheSuite X.env n pos) Q E s := by
  obtain ⟨m, hn, hlk⟩ := id I.loc
  have hcls : (X.env.scope.kind == .class || (X.env.scope.kind == .module && X.env.locals != X.env.globals)) = false := by rw [I.ok.kind]; rfl
  have hiσ : i < σ.length := by rw [I.len]; exact (List.getElem?_eq_some_iff.mp hi).1
  have cne := I.cne
  refine wpAny_nameGoes_keeps hl hn hcls fun h' v hn' hs => ?_
  obtain ⟨oL, _, _, hoL, _⟩ := id hn
  have ap : ∀ b o, X.s₀.heap.get? b = some o → b ≠ X.env.locals := fun b o e => Nat.ne_of_lt (Nat.lt_of_lt_of_le (Heap.lt_size e) I.ok.above)
  refine h _ ⟨I.ok, I.os, I.bare, ⟨fun b o e n hb hx => ?_, fun b o e n hb hx => ?_, I.base.free, fun b o e hx => ?_, I.base.tups, I.base.frzs, I.base.tbls⟩, ⟨_, hn', fun j y v' e1 e2 e3 => ?_⟩, fun y c e => ?_, I.free, I.freeC, fun p hp => ?_, ?_, by simpa using I.len⟩
  · exact (hs.2 b (ap b o e)).trans (I.base.keep b o e n hb hx)
  · obtain ⟨sl, e1⟩ := I.base.slot b o e n hb hx
    exact ⟨sl, (hs.2 b (ap b o e)).trans e1⟩
  · obtain ⟨o', e1⟩ := I.base.there b o e hx
    exact ⟨o', (hs.2 b (ap b o e)).trans e1⟩
  · by_cases hj : j = i
    · subst hj
      rw [List.getElem?_set_self hiσ] at e2
      cases e2
    · rw [List.getElem?_set_ne (Ne.symm hj)] at e2
      obtain ⟨u', r', q⟩ := hlk j y v' e1 e2 e3
      refine ⟨u', r', ?_⟩
      rcases q with ⟨k, e⟩ | ⟨k, c, e, z⟩
      · refine .inl ⟨k, ?_⟩
        have : y ≠ n := fun e => hj (nodup_ix hN e1 (e ▸ hi))
        show (if y = n then v else m y) = some u'
        rw [if_neg this]
        exact e
      · exact .inr ⟨k, c, e, z.sameBut hs (cne y c e)⟩
  · obtain ⟨w', z⟩ := I.cell y c e
    exact ⟨w', z.sameBut hs (cne y c e)⟩
  · obtain ⟨e, n1, ne, nf, d⟩ := I.pin p hp
    exact ⟨(hs.2 p.1 ne).trans e, n1, ne, nf, d⟩
  · exact I.hok.tracked fun b u ob z zz => (hs.2 b fun e => by rw [e, I.free] at z; cases z).trans zz
end

theorem matches_up {M : Model} {A : Around} {E : Value → Shared → Prop} {K : PySem.W.Frag} {s : Shared} {a C D : Addr} {ob : Obj} {Q : Bool → Shared → Prop} (X : K.In s.heap) (qC : Err K C) (qD : Err K D) (he : s.heap.get? a = some ob) (hcls : ob.cls = .ref C)
    (hsub : PySem.W.mroIn K C (.ref D) = some true) (hq : Q true s) : wpAny M A (excMatches (.ref a) (.ref D)) Q E s := by
  obtain ⟨h, g, d, t, os⟩ := s
  obtain ⟨bm, N, nm, qn, bs, hdct, sn, sub, ab, col, dd, k0, k1, k2, k3, k5, mN, hD, hN, hni, T⟩ := exc_obj X qD.exc
  have L1 := PySem.W.looks_mroIn (M := M) X hsub
  have L2 := PySem.W.looks_mroIn (M := M) X qD.bs
  have f := tc_notTuple
  unfold excMatches
  repeat (first | (with_reducible refine wpAny_loadPart_at he ?_; rw [hcls]) | with_reducible refine wpAny_loadPart_at hD ?_ | exact hq | with_reducible refine L1.at ?_ | with_reducible refine L2.at ?_ | wp_step)
end L2

set_option Elab.async false
set_option linter.all false
set_option maxRecDepth 100000
namespace L2
open PySem PySem.Spec PyProof.Rows

noncomputable abbrev Ends.past (D : Ends) (i : Nat) : Ends := { nx := fun σ' H' => D.nx (σ'.set i none) H', rt := D.rt, bk := fun σ' H' => D.bk (σ'.set i none) H', ct := fun σ' H' => D.ct (σ'.set i none) H' }

theorem Inv.fly {X : Cx} {pins : List (Addr × Obj)} {σ : St} {H1 H2 : Hp} {s1 s2 s3 : Shared} {a C : Addr} {B : Heap} {a0 : Value} (I : Inv X pins σ H1 s1) (F : Fly X.prog X.w X.stack H1 s1 H2 a C s2)
    (kB : ∀ b o, s2.heap.get? b = some o → b ∉ frs X.stack → ((∃ o', s1.heap.get? b = some o') ∨ ∃ u, H2 b = some u) → B.get? b = some o) (x : Heap.FlyingW B X.stack a (.ref C) a0 s2.heap) (x1 : B.StaysIn s3.heap) (up : s2.heap.UpToSlots s3.heap)
    (e1 : s3.os = s2.os) (e2 : s3.gens = s2.gens) : Inv X pins σ H2 s3 := by
  have fm : ∀ b, b ∈ frs X.stack → ∃ o, s2.heap.get? b = some o ∧ ∀ vs, o.data ≠ .fields vs := fun b hb => (x.2.2.1.mem hb).2
  have nofr : ∀ b u, H2 b = some u → b ∉ frs X.stack := fun b u z m => by
    have e1 := I.stkFree b m
    obtain ⟨o, ho, _⟩ := I.stack.mem m |>.2
    rw [F.un.free b o ho e1 (by simp)] at z
    cases z
  refine I.call' (ch := []) (e1.trans F.os) (un_fly F.un (fun b o z nb hor => x1 b o (kB b o z nb hor)) fm up) (F.hok.tracked fun b u ob z zz => x1 b ob (kB b ob zz (nofr b u z) (.inr ⟨u, z⟩))) (by rw [e2]; exact F.bare) fun b hb => absurd hb (by simp)
section
variable {prog : Program} {w : World} {A : Around} {E : Value → Shared → Prop} {s : Shared} {K : PySem.W.Frag} {a C : Addr}
theorem err_type {M : Model} {h : Heap} (p : ErrAt a C h) : PySem.W.Looks M h (typeOf (.ref a)) (.ref C) := by
  obtain ⟨o, vs, h1, h2, h3⟩ := p
  exact h2 ▸ (PySem.W.Looks.ld h1).andThen .now
theorem err_get {tp : Value} {R : Result → Shared → Prop} (X : K.In s.heap) (p : ErrAt a C s.heap) (q : Err K C) (h : R (.ok (.ret (.ref C))) s) :
    codeAny (model prog w) A (.call (.builtin "getset_descriptor.__get__") ⟨[.builtin "object.__class__", .ref a, tp], []⟩) R s := by
  obtain ⟨hh, g, dr, t, os⟩ := s
  have L0 := err_type (M := model prog w) p
  have L1 := PySem.W.looks_mroIn (M := model prog w) X q.ob
  have ck := PySem.W.KF.slot_gs
  refine codeAny_call_builtin ck.plain PySem.W.KF.entry_gs (ck.check _ _ _ _ _ _ _ _ PySem.W.KF.type_class (PySem.W.KF.args_gs _ _ _) ?_)
  unfold Builtin.«getset_descriptor.__get__»
  unfold Builtin.Getset_descriptor.descrGet
  rw [PySem.W.dga_obj]
  apply wpAny_bind
  apply wpAny_pure
  unfold Builtin.Getset_descriptor.descrGetter
  unfold Builtin.Getset_descriptor.descrCheckInstance
  unfold Builtin.Getset_descriptor.descrNameAndClass
  unfold isInstance
  simp only [PySem.W.KF.owner_class]
  repeat lk
  refine ⟨Code.quiet_builtin _ (by decide +kernel), codeAny_builtin PySem.W.KF.entry_class ?_⟩
  unfold Builtin.«object.__class__»
  unfold shownTypeOf
  repeat lk
  exact h
theorem err_entry {tk : Tok} {Q : Fin → Shared → Prop} (X : K.In s.heap) (p : ErrAt a C s.heap) (q : Err K C) (h : Q (.done (.ret (.ref C))) s) :
    wpAny (model prog w) A (Builtin.«object.__getattribute__» ⟨[.ref a, .str "__class__" tk], []⟩) Q E s := by
  obtain ⟨hh, g, dr, t, os⟩ := s
  have L0 := err_type (M := model prog w) p
  have L1 := PySem.W.looks_findIn (M := model prog w) X q.cl
  have hT5 : (⟨hh, g, dr, t, os⟩ : Shared).TypeIs (.builtin "object.__class__") "getset_descriptor" := F.typeOf_object_class
  have f5 := F.typeOf_object_class
  have f6 := F.slot_gs_get.lookup
  have f7 := F.slot_gs_set.lookup
  repeat (any_goals (first | assumption | with_reducible refine L0.at ?_ | with_reducible refine L1.at ?_ | wp_step))
  refine err_get X p q ?_
  repeat (any_goals (first | assumption | wp_step))
end
end L2

set_option Elab.async false
set_option linter.all false
set_option maxRecDepth 100000
namespace L2
open PySem PySem.Spec PyProof.Rows
section
variable {prog : Program} {w : World} {A : Around} {E : Value → Shared → Prop} {s : Shared} {K : PySem.W.Frag} {a C : Addr}
theorem err_check {M : Model} {nameV : Value} {Q : Unit → Shared → Prop} (X : K.In s.heap) (p : ErrAt a C s.heap) (q : Err K C) (h : Q () s) : wpAny M A (checkBuiltinCall "BaseException.__getattribute__" ⟨[.ref a, nameV], []⟩) Q E s := by
  obtain ⟨hh, g, dr, t, os⟩ := s
  have L0 := err_type (M := M) p
  have L1 := PySem.W.looks_mroIn (M := M) X q.bs
  have k1 : builtinKind "BaseException.__getattribute__" = some .slot := by
    decide +kernel
  have k2 : splitId "BaseException.__getattribute__" = some ("BaseException", "__getattribute__") := by
    decide +kernel
  have k3 := F.args_bexc_ga (.ref a) nameV
  simp only [checkBuiltinCall, k1, k2]
  apply wpAny_bind
  unfold isInstance
  repeat (first | with_reducible refine L0.at ?_ | with_reducible refine L1.at ?_ | wp_step)
  exact h
theorem err_call {tk : Tok} {R : Result → Shared → Prop} (X : K.In s.heap) (p : ErrAt a C s.heap) (q : Err K C) (h : R (.ok (.ret (.ref C))) s) :
    codeAny (model prog w) A (.call (.builtin "BaseException.__getattribute__") ⟨[.ref a, .str "__class__" tk], []⟩) R s :=
  codeAny_call_builtin PySem.F.excAttr_ValueError.ga.plain F.entry_bexc_ga (err_check X p q (err_entry X p q h))
theorem err_by {tk : Tok} {fill expr : Bool} {Q : Value → Shared → Prop} (X : K.In s.heap) (p : ErrAt a C s.heap) (q : Err K C) (h : Q (.ref C) s) : wpAny (model prog w) A (getAttrBy (.ref a) (.str "__class__" tk) fill expr) Q E s := by
  obtain ⟨hh, g, dr, t, os⟩ := s
  have L0 := err_type (M := model prog w) p
  have L1 := PySem.W.looks_findIn (M := model prog w) X q.ga
  have L2 := PySem.W.looks_findIn (M := model prog w) X q.gt
  have f3 := PySem.F.excAttr_ValueError.ga.bind (.ref a)
  have z0 : (expr && onTheHeap (Value.builtin "BaseException.__getattribute__")) = false := by
    cases expr <;> rfl
  have z2 : (Value.builtin "BaseException.__getattribute__" == Value.builtin "object.__getattribute__") = false := by
    decide +kernel
  have z1 : (onTheHeap (Value.ref C) && Value.builtin "BaseException.__getattribute__" == Value.builtin "object.__getattribute__") = false := by
    rw [z2]
    rfl
  repeat (any_goals (first | assumption | with_reducible refine L0.at ?_ | with_reducible refine L1.at ?_ | with_reducible refine L2.at ?_ | wp_step))
  refine err_call X p q ?_
  repeat (any_goals (first | assumption | wp_step))
theorem err_class {Q : Option Value → Shared → Prop} (X : K.In s.heap) (p : ErrAt a C s.heap) (q : Err K C) (h : Q (some (.ref C)) { s with toks := s.toks + 1 }) : wpAny (model prog w) A (getAttr? (.ref a) "__class__") Q E s := by
  obtain ⟨hh, g, dr, t, os⟩ := s
  unfold getAttr?
  unfold getAttrBy?
  refine wpAny_bind (wpAny_mkText (wpAny_bind (wpAny_attempt (err_by (s := ⟨hh, g, dr, t + 1, os⟩) X p q ?_))))
  exact wpAny_pure h
theorem kitx_err (q : Err K C) : PySem.W.KitX K (.ref a) (.ref C) (ErrAt a C) where
  ty := fun M h X p => err_type p
  it := fun M h X p => by
    obtain ⟨bm, N, nm, qn, bs, hdct, sn, sub, ab, col, dd, k0, k1, k2, k3, k5, mN, hC, _⟩ := exc_obj X q.exc
    intro A' Q' E' s' k z
    unfold isType
    unfold loadHead
    exact wpAny_bind (wpAny_loadPart (k _ _ hC) (wpAny_pure z))
  ne := fun h tp dd its n sl X htp => by
    obtain ⟨bm, N, nm, qn, bs, hdct, sn, sub, ab, col, dd', k0, k1, k2, k3, k5, mN, hC, _⟩ := exc_obj X q.exc
    refine Bool.eq_false_iff.mpr fun z => ?_
    have e : C = tp := Value.ref.inj (beq_iff_eq.mp z)
    subst e
    rw [hC] at htp
    have z2 := congrArg Obj.data (Option.some.inj htp)
    exact nomatch z2
  ca := fun X p h => err_class X p q h
end

inductive ClsV : V → Value → Prop where
  | own (D : Addr) : ClsV (.ref D) (.ref D)
  | ty (n : String) : ClsV (.ty n) (.type n)
theorem call_isErr {X : Cx} : CallR X (.builtin "isinstance") (fun xs H Q => ∃ a C c cv b, xs = [.ref a, c] ∧ H a = some (errO a C) ∧ Err X.K C ∧ ClsV c cv ∧ PySem.W.kitOne X.K (.ref C) cv = some b ∧ Q (.bl b) H) := by
  intro pins s σ H xs us Q I r h
  obtain ⟨a, C, c, cv, b, rfl, ha, q, hc, e, z⟩ := h
  obtain ⟨u1, u2, rfl, r1, r2⟩ := vals2 r
  cases (show u1 = Value.ref a from r1)
  have ec : u2 = cv := by
    cases hc with
    | own D => exact r2
    | ty n => exact r2
  subst ec
  obtain ⟨p, _, _⟩ := (show ObjOk X.prog X.w H s.heap a (.ext (ErrAt a C)) from I.hok a _ ha)
  exact PySem.W.kia_one (kitx_err q) I.kIn p e (fun z => nomatch z) fun tk => ⟨.bl b, H, I.tok _, rfl, z⟩
end L2

set_option Elab.async false
set_option linter.all false
set_option maxRecDepth 100000
namespace L2
open PySem PySem.Spec PyProof.Rows

noncomputable def tTryA (K : PySem.W.Frag) (j i : Nat) (D : Addr) (te : TX) (th : TS) : TS := fun W σ H => te σ H (fun v H1 => W.nx (σ.set j (some v)) H1) (fun c _ H1 => ∃ C, c = .ref C ∧ Err K C ∧ PySem.W.mroIn K C (.ref D) = some true ∧
  ∀ a, H1 a = none → th (W.past i) (σ.set i (some (.ref a))) (upd H1 a (errO a C)))
theorem ps_tryA {X : Cx} {e : Expr} {y n x : Str} {j i : Nat} {D : Addr} {b₀ : Stmt} {suite : List Stmt} {te : TX} {th : TS} {p0 p1 p2 np pos : Pos} (hst : X.stack = X.env :: X.outer ∧ X.env.frame = some X.env.locals) (hN : X.N.Nodup) (hj : X.N[j]? = some y) (hy : Loc X.env.scope y) (hi : X.N[i]? = some n)
    (hl : X.env.scope.names.lookup n = some .local) (hg : Gl X x) (hm : X.mg x = some (.ref D)) (qD : Err X.K D) (he : PX X e te) (hs : ∀ a, PSs (cxSuite X a) (b₀ :: suite) th) (hsw : swapsWith e (some (.Name y p0)) p1.line X.env = pure false := by rfl)
    (hd : (x == ("__debug__" : Str)) = false := by decide) (hfn : X.fn y = true ∨ X.env.scope.names.lookup y = some .local := by first | exact .inl rfl | exact .inr rfl | assumption) : PS X (.Try [.Assign [.Name y p0] e p1] [.ExceptHandler (some (.Name x np)) (some n) (b₀ :: suite) p2] [] [] pos) (tTryA X.K j i D te th) := by
  intro pins s σ H W I h
  refine wpAny_Try_except (wpAny_execs_cons (wpAny_Assign_Name (wpAny_mono (he pins s σ H _ _ I h) (fun v s1 z => ?_) fun ev s1 z => ?_) hsw))
  · obtain ⟨u, H1, I1, r1, q1⟩ := z
    exact store_ok I1 hN hj hy r1 (fun s2 I2 => wpAny_execs_nil (wpAny_execs_nil ⟨_, H1, I2, q1⟩)) hfn
  obtain ⟨H1, s0, I0, a, C, H2, rfl, F, C', hC', qC, hsub, q⟩ := z
  cases hC'
  obtain ⟨B, a0, fx, kB⟩ := F.fly
  have fr : X.A.frames = some (X.env :: X.outer) := by rw [I.ok.frames, hst.1]
  have fx' : Heap.FlyingW B (X.env :: X.outer) a (.ref C) a0 s1.heap := by rw [← hst.1]; exact fx
  refine wpAny_looks_onW fr hst.2 fx' fun h4 y4 u4 => wpAny_landsW y4 fun h5 y5 u5 => ?_
  have I5 : Inv X pins σ H2 { s1 with heap := h5 } := I0.fly F kB fx y5.1 (u4.trans u5) rfl rfl
  obtain ⟨ob, hob, hobc⟩ := y5.there
  refine wpAny_handleBy_cons (codeAny_handlers_test (ld_glob (X := cxSuite X a) (I5.suite a) hg hm ?_ hd)) (by intro z; cases z)
  refine matches_up (K := X.K) I5.kIn qC qD hob hobc hsub (codeAny_handlers_suite_as ?_)
  refine lands_againW y5 fun h6 y6 u6 => ?_
  have I6 : Inv X pins σ H2 { s1 with heap := h6 } := I0.fly F kB fx y6.1 ((u4.trans u5).trans u6) rfl rfl
  obtain ⟨oe, vs, g1, g2, g3, _⟩ := y6.first
  have I7 : Inv X pins σ (upd H2 a (errO a C)) { s1 with heap := h6 } := Inv.adopt I0 F.old I6 F.new ⟨oe, vs, g1, g2, g3⟩ ⟨oe, g1⟩ fun h1 h2 z k => by
    obtain ⟨o1, v1, z1, z2, z3⟩ := z
    exact ⟨o1, v1, k _ z1, z2, z3⟩
  refine store_ok (X := cxSuite X a) (v := .ref a) (I7.suite a) hN hi (.inl hl) rfl (fun s7 I8 => ?_) (.inr hl)
  refine wpAny_mono (hs a pins s7 _ _ _ I8 (q a F.new)) (fun f s8 z => ?_) fun _ _ z => False.elim z
  cases f with
  | next =>
    obtain ⟨σ', H', J, z⟩ := z
    exact name_goes (J.unsuite I.ok) hN hi hl fun s9 J9 => ⟨_, _, J9, z⟩
  | brk =>
    obtain ⟨σ', H', J, z⟩ := z
    exact name_goes (J.unsuite I.ok) hN hi hl fun s9 J9 => ⟨_, _, J9, z⟩
  | cont =>
    obtain ⟨σ', H', J, z⟩ := z
    exact name_goes (J.unsuite I.ok) hN hi hl fun s9 J9 => ⟨_, _, J9, z⟩
  | ret u =>
    obtain ⟨v, σ', H', J, r, z⟩ := z
    exact name_goes (J.unsuite I.ok) hN hi hl fun s9 J9 => ⟨_, _, _, J9, r, z⟩
theorem vals_refs : ∀ {cs : List Addr} {us : List Value}, Vals (cs.map V.ref) us → us = cs.map Value.ref
  | [], us, h => by cases h; rfl
  | c :: cs, us, h => by
    cases h with
    | cons r t =>
      cases (show _ = Value.ref c from r)
      rw [vals_refs t]
      rfl

theorem call_isErrT {X : Cx} : CallR X (.builtin "isinstance") (fun xs H Q => ∃ (a C tp : Addr) (cs : List Addr) (b : Bool), xs = [.ref a, .ref tp] ∧ H a = some (errO a C) ∧ Err X.K C ∧ SqT X.K H tp (cs.map V.ref) ∧ PySem.W.kitAny X.K (.ref C) (cs.map Value.ref) = some b ∧ Q (.bl b) H) := by
  intro pins s σ H xs us Q I r h
  obtain ⟨a, C, tp, cs, b, rfl, ha, q, ht, e, z⟩ := h
  obtain ⟨u1, u2, rfl, r1, r2⟩ := vals2 r
  cases (show u1 = Value.ref a from r1)
  cases (show u2 = Value.ref tp from r2)
  obtain ⟨p, _, _⟩ := (show ObjOk X.prog X.w H s.heap a (.ext (ErrAt a C)) from I.hok a _ ha)
  obtain ⟨its, rv, ⟨o, ho, hc, n, hd⟩, _⟩ := I.tuple ht
  have ei := vals_refs rv
  obtain ⟨cls, dd, dt, sl⟩ := o
  cases hc
  cases hd
  exact PySem.W.kia_tup (kitx_err q) I.kIn p ho (by rw [ei]; exact e) (fun z => nomatch z) fun tk => ⟨.bl b, H, I.tok _, rfl, z⟩
end L2

set_option linter.all false
set_option maxRecDepth 100000
namespace L2
open PySem
variable {r : List Expr} {env : Env} {pos : Pos}
theorem star_tup {es : List Expr} {k : Nat} : starEach (.Tuple es k pos :: r) env = (false, eval (.Tuple es k pos) env) :: starEach r env := rfl
end L2
namespace L2
open PySem

inductive TupC : List Expr → List (Int × Int) → Prop where
  | nil : TupC [] []
  | cons {a b : Int} {j1 j2 k : Nat} {p1 p2 pos : Pos} {es : List Expr} {qs : List (Int × Int)} (h : TupC es qs) : TupC (.Tuple [.Constant (.int a) j1 p1, .Constant (.int b) j2 p2] k pos :: es) ((a, b) :: qs)
end L2
namespace L2
open PySem
end L2

set_option Elab.async false
set_option linter.all false
set_option maxRecDepth 100000
namespace L2
open PySem PySem.Spec PyProof.Rows

noncomputable def clOf (cells : List (Str × Addr)) : List (Str × NameKind) → List (Str × Addr) → List (Str × Addr)
  | [], acc => acc
  | (n, k) :: r, acc => clOf cells r (if k = .free then (n, (cells.lookup n).getD 0) :: acc else acc)
theorem closure_go {env : Env} : ∀ (l : List (Str × NameKind)) (acc : List (Str × Addr)), (∀ p ∈ l, p.2 = .free → ∃ c, env.cells.lookup p.1 = some c) →
    (forIn l acc fun (x : Str × NameKind) (cs : List (Str × Addr)) => if (x.2 == NameKind.free) = true then (do let c ← cellOf env x.1; pure (ForInStep.yield ((x.1, c) :: cs))) else (pure (ForInStep.yield cs) : Sem _)) = pure (clOf env.cells l acc)
  | [], acc, _ => rfl
  | (n, k) :: r, acc, h => by
    have ih := fun acc => closure_go (env := env) r acc fun p hp => h p (List.mem_cons_of_mem _ hp)
    rw [List.forIn_cons]
    by_cases hk : k = .free
    · obtain ⟨c, hc⟩ := h (n, k) List.mem_cons_self hk
      have hc' : env.cells.lookup n = some c := hc
      have e : cellOf env n = pure c := by unfold cellOf; rw [hc']
      have e2 : (k == NameKind.free) = true := by simp [hk]
      simp only [e2, if_true, e, pure_bind, ih]
      simp only [clOf, hk, if_true, hc', Option.getD_some]
    · have e2 : (k == NameKind.free) = false := by simpa using hk
      simp only [e2, Bool.false_eq_true, if_false, pure_bind, ih]
      simp only [clOf, hk, if_false]
theorem closure_of {scope : Scope} {env : Env} (h : ∀ p ∈ scope.names, p.2 = .free → ∃ c, env.cells.lookup p.1 = some c) : closureFor scope env = pure (clOf env.cells scope.names []) := by
  have := closure_go (env := env) scope.names [] h
  unfold closureFor
  simp only [bind_pure]
  exact this
end L2
namespace L2
open PySem PySem.Spec PyProof.Rows
theorem clOf_sub {cells : List (Str × Addr)} : ∀ (l : List (Str × NameKind)) (acc : List (Str × Addr)), (∀ p ∈ l, p.2 = .free → ∃ c, cells.lookup p.1 = some c) → (∀ y c, acc.lookup y = some c → cells.lookup y = some c) →
    ∀ y c, (clOf cells l acc).lookup y = some c → cells.lookup y = some c
  | [], _, _, ha, y, c, h => ha y c h
  | (n, k) :: r, acc, hl, ha, y, c, h => by
    refine clOf_sub r _ (fun p hp => hl p (List.mem_cons_of_mem _ hp)) (fun z d hz => ?_) y c h
    by_cases hk : k = .free
    · rw [if_pos hk, List.lookup_cons] at hz
      obtain ⟨c', hc'⟩ := hl (n, k) List.mem_cons_self hk
      have hc2 : cells.lookup n = some c' := hc'
      split at hz
      · rename_i e
        have e' : z = n := by simpa using e
        subst e'
        rw [hc2] at hz ⊢
        exact hz
      · exact ha z d hz
    · rw [if_neg hk] at hz
      exact ha z d hz
theorem clOf_mem {cells : List (Str × Addr)} : ∀ (l : List (Str × NameKind)) (acc : List (Str × Addr)) (y : Str), ((acc.lookup y).isSome = true ∨ (y, NameKind.free) ∈ l) → ((clOf cells l acc).lookup y).isSome = true
  | [], _, _, h => h.elim id fun z => nomatch z
  | (n, k) :: r, acc, y, h => by
    refine clOf_mem r _ y ?_
    by_cases hk : k = .free
    · rw [if_pos hk, List.lookup_cons]
      by_cases e : (y == n) = true
      · left; rw [e]; rfl
      · rw [Bool.not_eq_true] at e
        rw [e]
        rcases h with h | h
        · exact .inl h
        · rcases List.mem_cons.mp h with h | h
          · have : y = n := congrArg Prod.fst h
            subst this
            simp at e
          · exact .inr h
    · rw [if_neg hk]
      rcases h with h | h
      · exact .inl h
      · rcases List.mem_cons.mp h with h | h
        · have : NameKind.free = k := congrArg Prod.snd h
          exact absurd this.symm hk
        · exact .inr h
theorem clOf_from {cells : List (Str × Addr)} : ∀ (l : List (Str × NameKind)) (acc : List (Str × Addr)) (y : Str) (c : Addr), (clOf cells l acc).lookup y = some c → (∃ c', acc.lookup y = some c') ∨ (y, NameKind.free) ∈ l
  | [], _, y, c, h => .inl ⟨c, h⟩
  | (n, k) :: r, acc, y, c, h => by
    rcases clOf_from r _ y c h with ⟨c', h'⟩ | h'
    · by_cases hk : k = .free
      · rw [if_pos hk, List.lookup_cons] at h'
        split at h'
        · rename_i e
          have e' : y = n := by simpa using e
          subst e'
          subst hk
          exact .inr List.mem_cons_self
        · exact .inl ⟨c', h'⟩
      · rw [if_neg hk] at h'
        exact .inl ⟨c', h'⟩
    · exact .inr (List.mem_cons_of_mem _ h')
theorem relabel_lookup {env : Env} (hk : env.scope.kind = .function) : ∀ (l : List (Str × NameKind)) (y : Str),
    (l.map fun (n, k) => if (k == NameKind.free && env.scope.kind == .function && env.kindOf n == some .cell) then (n, NameKind.cell) else (n, k)).lookup y = (l.lookup y).map fun k => if (k == NameKind.free && env.kindOf y == some .cell) = true then NameKind.cell else k
  | [], _ => rfl
  | (n, k) :: r, y => by
    have ih := relabel_lookup hk r y
    have hk' : (env.scope.kind == ScopeKind.function) = true := by rw [hk]; rfl
    rw [List.map_cons, List.lookup_cons]
    by_cases e : (y == n) = true
    · have e' : y = n := by simpa using e
      subst e'
      by_cases hc : (k == NameKind.free && env.kindOf y == some .cell) = true
      · have hc2 : (k == NameKind.free && env.scope.kind == .function && env.kindOf y == some .cell) = true := by
          rw [hk', Bool.and_true]; exact hc
        simp only [hc2, if_true, List.lookup_cons, beq_self_eq_true, Option.map_some, hc]
      · have hc2 : ¬ (k == NameKind.free && env.scope.kind == .function && env.kindOf y == some .cell) = true := by
          rw [hk', Bool.and_true]; exact hc
        rw [if_neg hc2]
        simp only [List.lookup_cons, beq_self_eq_true, Option.map_some]
        rw [if_neg hc]
    · rw [Bool.not_eq_true] at e
      by_cases hc2 : (k == NameKind.free && env.scope.kind == .function && env.kindOf n == some .cell) = true
      · simp only [hc2, if_true, e, List.lookup_cons]
        exact ih
      · rw [Bool.not_eq_true] at hc2
        simp only [hc2, Bool.false_eq_true, if_false, e, List.lookup_cons]
        exact ih

noncomputable def compOk (sc xsc : Scope) (N N' xs : List Str) : Bool :=
  sc.kind == .function && xs.all (fun x => sc.names.lookup x == some .local && !N'.contains x) &&
  sc.names.all (fun p => p.2 != .cell && (p.2 != .local || sc.names.lookup p.1 == some .local) && (p.2 != .free || (xsc.names.lookup p.1 == some .cell && sc.names.lookup p.1 == some .free))) &&
  N'.all (fun y => sc.names.lookup y != some .local) && (N.length == N'.length && (N.zip N').all (fun p => p.1 == p.2 || sc.names.lookup p.2 == none))

structure CompOk (sc xsc : Scope) (N N' xs : List Str) : Prop where
  kind : sc.kind = .function
  own : ∀ x ∈ xs, sc.names.lookup x = some .local ∧ x ∉ N'
  nocell : ∀ p ∈ sc.names, p.2 ≠ .cell
  loc : ∀ p ∈ sc.names, p.2 = .local → sc.names.lookup p.1 = some .local
  free : ∀ p ∈ sc.names, p.2 = .free → xsc.names.lookup p.1 = some .cell ∧ sc.names.lookup p.1 = some .free
  out : ∀ y ∈ N', sc.names.lookup y ≠ some .local
  len : N.length = N'.length
  pair : ∀ (i : Nat) (y : Str), N'[i]? = some y → sc.names.lookup y ≠ none → N[i]? = some y
theorem CompOk.of {sc xsc : Scope} {N N' xs : List Str} (h : compOk sc xsc N N' xs = true) : CompOk sc xsc N N' xs := by
  unfold compOk at h
  simp only [Bool.and_eq_true, List.all_eq_true, Bool.or_eq_true, bne_iff_ne, beq_iff_eq, Bool.not_eq_true', ne_eq] at h
  obtain ⟨⟨⟨⟨h1, h2⟩, h3⟩, h4⟩, h5, h6⟩ := h
  refine ⟨h1, fun x hx => ⟨(h2 x hx).1, fun z => ?_⟩, fun p hp => (h3 p hp).1.1, fun p hp e => ?_, fun p hp e => ?_, h4, h5, fun i y hy hn => ?_⟩
  · have := (h2 x hx).2
    rw [List.contains_eq_mem] at this
    simp [z] at this
  · rcases (h3 p hp).1.2 with z | z
    · exact absurd e z
    · exact z
  · rcases (h3 p hp).2 with z | z
    · exact absurd e z
    · exact z
  · have hi : i < N'.length := (List.getElem?_eq_some_iff.mp hy).1
    have hN : N[i]? = some (N[i]'(by omega)) := List.getElem?_eq_getElem (by omega)
    have hm : (N[i]'(by omega), y) ∈ N.zip N' := by
      refine List.mem_of_getElem? (i := i) ?_
      rw [List.getElem?_zip_eq_some]
      exact ⟨hN, hy⟩
    rcases h6 _ hm with z | z
    · rw [hN]
      exact congrArg some z
    · exact absurd z hn
noncomputable def cxComp (X : Cx) (scope : Scope) (C : Addr) (xs N' : List Str) (s : Shared) (H : Hp) (fp : List Addr) : Cx :=
  { X with N := xs ++ N', s₀ := s, H₀ := H, env := compEnvC scope (clOf X.env.cells scope.names []) C X.env, outer := X.stack, stack := X.stack, ex := fp, fn := fun y => xs.contains y, pn := [], xe := fun _ _ => False }
section
variable {X : Cx} {pins : List (Addr × Obj)} {σ : St} {H : Hp} {s : Shared} {scope : Scope} {xs N' : List Str} {fp : List Addr}
theorem comp_cells (I : Inv X pins σ H s) (O : CompOk scope X.env.scope X.N N' xs) : ∀ p ∈ scope.names, p.2 = .free → ∃ c, X.env.cells.lookup p.1 = some c := fun p hp e =>
  I.ok.has p.1 (.inl (O.free p hp e).1)
theorem comp_kind (I : Inv X pins σ H s) (O : CompOk scope X.env.scope X.N N' xs) (y : Str) : (relabel scope X.env).names.lookup y = (scope.names.lookup y).map fun k => if k = .free then NameKind.cell else k := by
  unfold relabel
  show (List.map _ scope.names).lookup y = _
  rw [relabel_lookup I.ok.kind]
  cases e : scope.names.lookup y with
  | none => rfl
  | some k =>
    rw [Option.map_some, Option.map_some]
    by_cases hk : k = .free
    · subst hk
      have := (O.free (y, .free) (PySem.mem_of_lookup e) rfl).1
      have h2 : X.env.kindOf y = some .cell := this
      rw [h2]
      rfl
    · rw [if_neg hk, if_neg (by simp [hk])]
theorem inv_comp {h1 : Heap} {tk : Nat} (I : Inv X pins σ H s) (O : CompOk scope X.env.scope X.N N' xs) (hf : ∀ b ∈ fp, FpOk X pins H b) (hlt : ∀ b ∈ fp, b < s.heap.objs.size) {m0 : Str → Option Value}
    (hn : h1.Ns s.heap.objs.size m0) (hk : ∀ b o, s.heap.get? b = some o → h1.get? b = some o) :
    Inv (cxComp X scope s.heap.objs.size xs N' s H fp) [] (xs.map (fun _ => none) ++ σ) H { s with heap := h1, toks := tk } := by
  have hcl := clOf_sub (cells := X.env.cells) scope.names [] (comp_cells I O) (fun y c z => nomatch z)
  refine ⟨⟨I.ok.mod, ?_, I.ok.glob, I.ok.blt, Nat.le_refl _, fun x y c h1 h2 => I.ok.inj x y c (hcl x c h1) (hcl y c h2), fun y hy => ?_, fun y c h1 h2 => ?_, I.ok.hd, I.ok.frames, .inl rfl, fun b hb => ⟨Nat.ne_of_lt (hlt b hb), fun x c e => (hf b hb).2.2.2.2.1 x c (hcl x c e)⟩,
    I.bs, Nat.le_trans I.ok.bsz I.sz, fun b o e hb => ?_, fun b hb z => ?_, I.stack, I.stkFree⟩, rfl, I.bare, Un.kept hk, ⟨m0, hn, fun i y v e1 e2 e3 => ?_⟩, fun y c e => ?_, I.hok.fresh (Nat.le_refl _), fun y c e => I.freeC y c (hcl y c e), fun p hp => absurd (show p ∈ ([] : List (Addr × Obj)) from hp) (by simp), I.hok.kept hk, ?_⟩
  · show scope.kind = _
    exact O.kind
  · have hy' : (relabel scope X.env).names.lookup y = some .cell ∨ (relabel scope X.env).names.lookup y = some .free := hy
    rw [comp_kind I O] at hy'
    have hfree : scope.names.lookup y = some .free := by
      cases e : scope.names.lookup y with
      | none => rw [e] at hy'; rcases hy' with z | z <;> cases z
      | some k =>
        rw [e] at hy'
        by_cases hk : k = .free
        · rw [hk]
        · rw [Option.map_some, if_neg hk] at hy'
          rcases hy' with z | z
          · have : k = .cell := Option.some.inj z
            exact absurd this (O.nocell (y, k) (PySem.mem_of_lookup e))
          · exact absurd (Option.some.inj z) hk
    exact Option.isSome_iff_exists.mp (clOf_mem scope.names [] y (.inr (PySem.mem_of_lookup hfree)))
  · have h2' : (clOf X.env.cells scope.names []).lookup y = some c := h2
    have hy : y ∈ xs := by
      have h1' : xs.contains y = true := h1
      simpa using h1'
    rcases clOf_from scope.names [] y c h2' with ⟨_, z⟩ | z
    · cases z
    · have q1 := (O.free (y, .free) z rfl).2
      rw [(O.own y hy).1] at q1
      cases q1
  · have e' : X.base.get? b = some o := e
    rcases (hf b hb).2.2.2.1 with z | z
    · exact I.ok.noex b o e' z
    · exact absurd (Nat.lt_of_lt_of_le (Heap.lt_size e') (Nat.le_trans I.ok.bsz z)) (Nat.lt_irrefl _)
  · rcases List.mem_cons.mp (I.stkSub b z) with q | q
    · exact (hf b hb).2.1 q
    · exact (hf b hb).2.2.1 q
  · have e1' : (xs ++ N')[i]? = some y := e1
    by_cases hi : i < xs.length
    · rw [List.getElem?_append_left (by simpa using hi), List.getElem?_map] at e2
      cases q : xs[i]? with
      | none => rw [q] at e2; cases e2
      | some z => rw [q] at e2; cases e2
    · rw [List.getElem?_append_right (by simpa using hi)] at e2
      rw [List.getElem?_append_right (by omega)] at e1'
      rw [List.length_map] at e2
      have hyN : y ∈ N' := List.mem_of_getElem? e1'
      have e3' : Vis (relabel scope X.env) y := e3
      unfold Vis at e3'
      rw [comp_kind I O] at e3'
      have hfree : scope.names.lookup y = some .free := by
        cases e : scope.names.lookup y with
        | none => rw [e] at e3'; rcases e3' with z | z | z <;> cases z
        | some k =>
          rw [e] at e3'
          by_cases hk : k = .free
          · rw [hk]
          · rw [Option.map_some, if_neg hk] at e3'
            rcases e3' with z | z | z
            · have : k = .local := Option.some.inj z
              subst this
              exact absurd e (O.out y hyN)
            · have : k = .cell := Option.some.inj z
              exact absurd this (O.nocell (y, k) (PySem.mem_of_lookup e))
            · exact absurd (Option.some.inj z) hk
      have hXc := (O.free (y, .free) (PySem.mem_of_lookup hfree) rfl).1
      obtain ⟨m, hn0, hl⟩ := I.loc
      have e1N := O.pair _ y e1' (by rw [hfree]; simp)
      obtain ⟨u, r, l⟩ := hl _ y v e1N e2 (.inr (.inl hXc))
      refine ⟨u, r, ?_⟩
      rcases l with ⟨l1, _⟩ | ⟨_, c, hc, o, ho, hd⟩
      · have : X.env.scope.names.lookup y = some .local := l1
        rw [hXc] at this
        cases this
      · refine .inr ⟨.inl ?_, c, ?_, o, hk c o ho, hd⟩
        · show (relabel scope X.env).names.lookup y = _
          rw [comp_kind I O, hfree]
          rfl
        · obtain ⟨c', hc'⟩ := Option.isSome_iff_exists.mp (clOf_mem (cells := X.env.cells) scope.names [] y (.inr (PySem.mem_of_lookup hfree)))
          have q := hcl y c' hc'
          rw [hc] at q
          show (clOf X.env.cells scope.names []).lookup y = some c
          rw [hc', ← Option.some.inj q]
  · obtain ⟨v, o, ho, hd⟩ := I.cell y c (hcl y c e)
    exact ⟨v, o, hk c o ho, hd⟩
  · show (xs.map (fun _ => none) ++ σ).length = (xs ++ N').length
    rw [List.length_append, List.length_append, List.length_map, I.len, O.len]
end
end L2
namespace L2
open PySem PySem.Spec PyProof.Rows
noncomputable def PF (X : Cx) (ifs : List Expr) (t : TT) : Prop :=
  ∀ (pins : List (Addr × Obj)) (s : Shared) (σ : St) (H : Hp) (Q : Bool → Hp → Prop), Inv X pins σ H s → t σ H Q →
    wpAny (model X.prog X.w) X.A (forIn ifs true fun c r => if r = true then do let ok ← isTrue c X.env (eval c X.env); pure (ForInStep.yield ok) else pure (ForInStep.yield r)) (TP X pins σ Q) X.xe s
noncomputable def tYes : TT := fun _ H Q => Q true H
theorem pf_nil {X : Cx} : PF X [] tYes := fun _ _ _ H _ I h => wpAny_tests_nil ⟨H, I, h⟩
noncomputable def tComp (k : Nat) (wi : TI) (g : TG) (tc : TT) (te : TE) : TE := fun σ H Q => wi σ H fun J H1 => ∀ D, H1 D = none → ∃ W : Nat → Nat → Hp → Prop, (∃ m, W 0 m (upd H1 D (.lst []))) ∧ ∀ i m H2, W i m H2 →
  (J.stop i H2 ∧ Q (.ref D) H2) ∨ (J.go i H2 ∧ ∀ x H3, J.yld i H2 x H3 → ∀ v0 : List (Option V), v0.length = k → g x (v0 ++ σ) H3 fun σ2 H4 => ∃ v1 : List (Option V), v1.length = k ∧ σ2 = v1 ++ σ ∧
    tc σ2 H4 fun b H5 => if b = true then te σ2 H5 fun y H6 => ∃ ys, H6 D = some (.lst ys) ∧ ys.length < sizeLine ∧ ∃ m', m' < m ∧ W (i + 1) m' (upd H6 D (.lst (ys ++ [y]))) else ∃ m', m' < m ∧ W (i + 1) m' H5)
theorem compLoop_any {prog : Program} {w : World} {A : Around} {R : Result → Shared → Prop} {s : Shared} {elt target iter : Expr} {ifs : List Expr} {scope : Scope} {pos : Pos} {it acc : Value} {env : Env} (I : Nat → Shared → Prop)
    (turn : ∀ n s, I n s → wpAny (model prog w) A (pyNext it) (fun r s₁ => match r with
      | none => R (.ok .next) s₁
      | some v => wpAny (model prog w) A (letOwnedTupleGo target it v) (fun _ s₁' => wpAny (model prog w) A (assign target env v) (fun _ s₂ =>
          wpAny (model prog w) A (forIn ifs true fun c r => if r = true then do let ok ← isTrue c env (eval c env); pure (ForInStep.yield ok) else pure (ForInStep.yield r)) (fun ok s₃ =>
            if ok = true then wpAny (model prog w) A (eval elt env) (fun x s₄ =>
              wpAny (model prog w) A (call (.builtin "list.append") [acc, x]) (fun _ s₅ => ∃ m, m < n ∧ I m s₅) (fun _ _ => False) s₄) (fun _ _ => False) s₃
            else ∃ m, m < n ∧ I m s₃) (fun _ _ => False) s₂) (fun _ _ => False) s₁') (fun _ _ => False) s₁) (fun _ _ => False) s)
    (n : Nat) (h : I n s) :
    codeAny (model prog w) A (.compLoop (.ListComp elt [⟨target, iter, ifs, 0⟩] scope pos) 0 it acc env) R s := by
  refine codeAny_loop rfl I (fun n s hI => ?_) n h
  show wpAny _ A ((compTurn (.ListComp elt [⟨target, iter, ifs, 0⟩] scope pos) 0 it acc env).onRaise (fun x => do noteFrame x env; theTreesLotGoes x)) _ _ s
  refine wpAny_noted ?_
  rw [compTurn_list]
  refine wpAny_bind (wpAny_standAt (wpAny_bind (wpAny_mono (turn n s hI) (fun r s₁ h₁ => ?_) fun _ _ h' => h'.elim)))
  cases r with
  | none => exact wpAny_pure h₁
  | some v =>
    refine wpAny_bind (wpAny_mono h₁ (fun _ s₁' h₁' => ?_) fun _ _ h' => h'.elim)
    refine wpAny_bind (wpAny_mono h₁' (fun _ s₂ h₂ => wpAny_bind (wpAny_mono h₂ (fun ok s₃ h₃ => ?_) fun _ _ h' => h'.elim)) fun _ _ h' => h'.elim)
    cases ok with
    | false => exact wpAny_pure ⟨rfl, h₃⟩
    | true =>
      exact wpAny_bind (wpAny_bind (wpAny_mono h₃ (fun x s₄ h₄ => wpAny_bind (wpAny_mono h₄ (fun _ s₅ h₅ => wpAny_pure (wpAny_pure ⟨rfl, h₅⟩)) fun _ _ h' => h'.elim)) fun _ _ h' => h'.elim))
section
variable {X : Cx}

theorem comp_block {tg iter elt : Expr} {ifs : List Expr} {scope : Scope} {xs N' : List Str} {pos : Pos} {g : TG} {tc : TT} {te : TE} (hc : X.calm = true) (O : CompOk scope X.env.scope X.N N' xs)
    (hg : ∀ C s0 H0 fp, PG (cxComp X scope C xs N' s0 H0 fp) tg g) (hf : ∀ C s0 H0 fp, PF (cxComp X scope C xs N' s0 H0 fp) ifs tc) (he : ∀ C s0 H0 fp, PE (cxComp X scope C xs N' s0 H0 fp) elt te)
    {pins : List (Addr × Obj)} {σ : St} {H1 : Hp} {s2 : Shared} {it : Addr} {fp : List Addr} {tn : Nat → Heap → Prop} {J : It} {Q : VK} {E : Value → Shared → Prop} {RR : Value → Addr → Result → Shared → Prop}
    (I2 : Inv X pins σ H1 s2) (T : Turn X.prog X.w X.K tg J fp it tn) (st2 : tn 0 s2.heap) (f2 : ∀ b ∈ fp, FpOk X pins H1 b)
    (h : ∀ D, H1 D = none → ∃ W : Nat → Nat → Hp → Prop, (∃ m, W 0 m (upd H1 D (.lst []))) ∧ ∀ i m H2, W i m H2 →
      (J.stop i H2 ∧ Q (.ref D) H2) ∨ (J.go i H2 ∧ ∀ x H3, J.yld i H2 x H3 → ∀ v0 : List (Option V), v0.length = xs.length → g x (v0 ++ σ) H3 fun σ2 H4 => ∃ v1 : List (Option V), v1.length = xs.length ∧ σ2 = v1 ++ σ ∧
        tc σ2 H4 fun b H5 => if b = true then te σ2 H5 fun y H6 => ∃ ys, H6 D = some (.lst ys) ∧ ys.length < sizeLine ∧ ∃ m', m' < m ∧ W (i + 1) m' (upd H6 D (.lst (ys ++ [y]))) else ∃ m', m' < m ∧ W (i + 1) m' H5))
    (hRR : ∀ D C s' H', (∃ m, s'.heap.Ns C m) → (∀ h', Heap.SameBut C s'.heap h' → Inv X pins σ H' { s' with heap := h' }) → s2.heap.objs.size ≤ D → s2.heap.objs.size ≤ C → Q (.ref D) H' → RR (.ref D) C (.ok .next) s') :
    wpAny (model X.prog X.w) X.A (newList []) (fun acc s₃ => wpAny (model X.prog X.w) X.A (newFunctionEnv scope X.env.globals (clOf X.env.cells scope.names []) [] X.env.qual none .none (some X.env)) (fun cenv s₄ =>
      codeAny (model X.prog X.w) X.A (.compStart (.ListComp elt [⟨tg, iter, ifs, 0⟩] scope pos) 0 (.ref it) acc { cenv with scope := relabel scope X.env }) (RR acc cenv.locals) s₄) E s₃) E s2 := by
  refine wpAny_newObj_type (wpAny_newFunctionEnv O.nocell (by intro y hy; simp at hy) (fun h₁ hns₁ hsb₁ => ?_) O.kind)
  dsimp only at hns₁ hsb₁ ⊢
  have hD : H1 s2.heap.objs.size = none := I2.hok.fresh (Nat.le_refl _)
  obtain ⟨W, ⟨m0, w0⟩, turn⟩ := h s2.heap.objs.size hD
  have I3 : Inv X pins σ (upd H1 s2.heap.objs.size (.lst [])) { s2 with heap := s2.heap.push { cls := .type "list", dict := none, data := .seq ([] : List Value).toArray } } :=
    I2.laid (t' := s2.toks) (fun b u e => Heap.get?_push_of_some _ e) (Nat.le_refl _) ⟨Nat.zero_le _, [], 0, .nil, Heap.get?_push_size _ rfl⟩
  have lt2 : ∀ b ∈ fp, b < s2.heap.objs.size := fun b hb => by
    obtain ⟨o, e, _⟩ := T.obj _ _ st2 b hb
    exact Heap.lt_size e
  have f3 : ∀ b ∈ fp, FpOk X pins (upd H1 s2.heap.objs.size (.lst [])) b := fun b hb => by
    obtain ⟨q0, q⟩ := f2 b hb
    exact ⟨by rw [upd_ne (Nat.ne_of_lt (lt2 b hb))]; exact q0, q⟩
  generalize hs3 : ({ s2 with heap := s2.heap.push { cls := .type "list", dict := none, data := .seq ([] : List Value).toArray } } : Shared) = s3 at I3
  have hheap : s3.heap = s2.heap.push { cls := .type "list", dict := none, data := .seq ([] : List Value).toArray } := by rw [← hs3]
  have hsz : s3.heap.objs.size = s2.heap.objs.size + 1 := by rw [hheap, Heap.size_push]
  have old : ∀ b o, s3.heap.get? b = some o → h₁.get? b = some o := fun b o e =>
    hsb₁.extBut b o (by rw [← hheap]; exact Nat.ne_of_lt (Heap.lt_size e)) (Heap.get?_push_of_some _ (by rw [← hheap]; exact e))
  have J4 : Inv (cxComp X scope s3.heap.objs.size xs N' s3 (upd H1 s2.heap.objs.size (.lst [])) fp) [] (xs.map (fun _ => none) ++ σ) (upd H1 s2.heap.objs.size (.lst [])) { s3 with heap := h₁, toks := s2.toks + ([] : List (Str × Value)).length } :=
    inv_comp I3 O f3 (fun b hb => by rw [hsz]; exact Nat.lt_succ_of_lt (lt2 b hb)) (by rw [hheap]; exact hns₁) old
  have es4 : ({ s3 with heap := h₁, toks := s2.toks + ([] : List (Str × Value)).length } : Shared) = { s2 with heap := h₁, toks := s2.toks + ([] : List (Str × Value)).length } := by rw [← hs3]
  rw [es4] at J4
  have st4 : tn 0 h₁ := T.keep _ _ _ st2 fun b hb o e => old b o (by rw [hheap]; exact Heap.get?_push_of_some _ e)
  have hC : (s2.heap.push { cls := .type "list", dict := none, data := .seq ([] : List Value).toArray }).objs.size = s3.heap.objs.size := by rw [hheap]
  have fpC : ∀ {H' : Hp}, (∀ b ∈ fp, H' b = none) → ∀ b ∈ fp, FpOk (cxComp X scope s3.heap.objs.size xs N' s3 (upd H1 s2.heap.objs.size (.lst [])) fp) [] H' b := fun hn b hb =>
    ⟨hn b hb, Nat.ne_of_lt (by rw [hsz]; exact Nat.lt_succ_of_lt (lt2 b hb)), J4.ok.exfs b hb, .inl hb, fun x c e => ((J4.ok.exf b hb).2 x c e), fun p hp => absurd (show p ∈ ([] : List (Addr × Obj)) from hp) (by simp)⟩
  have loop : codeAny (model X.prog X.w) X.A (.compLoop (.ListComp elt [⟨tg, iter, ifs, 0⟩] scope pos) 0 (.ref it) (.ref s2.heap.objs.size) (compEnvC scope (clOf X.env.cells scope.names []) s3.heap.objs.size X.env))
      (RR (.ref s2.heap.objs.size) s3.heap.objs.size) { s2 with heap := h₁, toks := s2.toks + ([] : List (Str × Value)).length } := by
    refine compLoop_any (fun n s' => ∃ (i : Nat) (v0 : List (Option V)) (H' : Hp), v0.length = xs.length ∧ Inv (cxComp X scope s3.heap.objs.size xs N' s3 (upd H1 s2.heap.objs.size (.lst [])) fp) [] (v0 ++ σ) H' s' ∧ tn i s'.heap ∧ (∀ b ∈ fp, H' b = none) ∧ W i n H') ?_ m0
      ⟨0, xs.map (fun _ => none), _, List.length_map _, J4, st4, fun b hb => (f3 b hb).1, w0⟩
    rintro n s5 ⟨i, v0, H5, hv0, I5, st5, fr5, w5⟩
    rcases turn i n H5 w5 with ⟨stop, qn⟩ | ⟨go, step⟩
    · refine thn (T.done (cxComp X scope s3.heap.objs.size xs N' s3 (upd H1 s2.heap.objs.size (.lst [])) fp) rfl rfl rfl hc i [] s5 (v0 ++ σ) H5 _ I5 (fpC fr5) st5 stop) fun r s6 ⟨hr, I6⟩ => ?_
      subst hr
      obtain ⟨m, hnm, _⟩ := I6.loc
      refine hRR _ _ s6 H5 ⟨m, hnm⟩ (fun h' hsb => ?_) (Nat.le_refl _) (by rw [hsz]; exact Nat.le_succ _) qn
      have ltC : ∀ b o, s3.heap.get? b = some o → b ≠ s3.heap.objs.size := fun b o e => Nat.ne_of_lt (Heap.lt_size e)
      have u := I6.base
      have I3' := I3.call' (s' := { s6 with heap := h' }) (H' := H5) (ch := fp) I6.os ⟨fun b o e n hb hx => hsb.extBut b _ (ltC b o e) (u.keep b o e n hb hx), fun b o e n hb hx => by
          obtain ⟨sl, q⟩ := u.slot b o e n hb hx
          exact ⟨sl, hsb.extBut b _ (ltC b o e) q⟩, u.free, fun b o e hx => by
          obtain ⟨o', q⟩ := u.there b o e hx
          exact ⟨o', hsb.extBut b _ (ltC b o e) q⟩, u.tups, u.frzs, u.tbls⟩ (fun a o e => ?_) I6.bare (fun b hb => ?_)
      · exact I3'
      · have hnC : ∀ b u, H5 b = some u → b ≠ s3.heap.objs.size := fun b u e z => by
          subst z
          have := I6.free
          have e2 : H5 s3.heap.objs.size = none := this
          rw [e2] at e
          cases e
        refine (I6.hok a o e).stay (fun b u hb q => hsb.extBut b u ?_ q) (fun _ q => q) fun _ _ q => q
        rcases hb with rfl | hb
        · exact hnC _ _ e
        · exact hnC _ _ hb
      · obtain ⟨q0, q1, q2, q3, q4, q5⟩ := f3 b hb
        exact ⟨q3, q1, q4, q5⟩
    · refine thn (T.item (cxComp X scope s3.heap.objs.size xs N' s3 (upd H1 s2.heap.objs.size (.lst [])) fp) rfl rfl rfl hc i [] s5 (v0 ++ σ) H5 _ I5 (fpC fr5) st5 go) fun r s6 ⟨u, hr, h6⟩ => ?_
      subst hr
      refine thn h6 fun _ s7 ⟨x, H7, I7, r7, y7, st7, fr7⟩ => ?_
      have I7' := I7.pinned (fpC fr7) (T.obj _ _ st7)
      refine thn (hg _ _ _ _ _ s7 (v0 ++ σ) H7 x u _ I7' r7 (step x H7 y7 v0 hv0)) fun _ s8 ⟨σ8, H8, I8, v1, hv1, e8, q8⟩ => ?_
      subst e8
      have fin : ∀ {s9 : Shared} {H9 : Hp}, Inv (cxComp X scope s3.heap.objs.size xs N' s3 (upd H1 s2.heap.objs.size (.lst [])) fp) ([] ++ pinsAt fp s7.heap) (v1 ++ σ) H9 s9 → (∃ m', m' < n ∧ W (i + 1) m' H9) →
          ∃ m, m < n ∧ ∃ (i : Nat) (v0 : List (Option V)) (H' : Hp), v0.length = xs.length ∧ Inv (cxComp X scope s3.heap.objs.size xs N' s3 (upd H1 s2.heap.objs.size (.lst [])) fp) [] (v0 ++ σ) H' s9 ∧ tn i s9.heap ∧ (∀ b ∈ fp, H' b = none) ∧ W i m H' := fun {s9 H9} I9 ⟨m', hm, w9⟩ => by
        refine ⟨m', hm, i + 1, v1, H9, hv1, I9.unpinned, T.keep _ _ _ st7 fun b hb o e => (I9.pin (b, o) (List.mem_append_right _ (List.mem_append_right _ (mem_pinsAt hb e)))).1, fun b hb => ?_, w9⟩
        obtain ⟨o, e, d⟩ := T.obj _ _ st7 b hb
        exact (I9.pin (b, o) (List.mem_append_right _ (List.mem_append_right _ (mem_pinsAt hb e)))).2.1
      refine thn (hf _ _ _ _ _ s8 (v1 ++ σ) H8 _ I8 q8) fun ok s9 ⟨H9, I9, q9⟩ => ?_
      cases ok with
      | false => exact fin I9 q9
      | true =>
        show wpAny _ _ _ _ _ _
        refine thn (he _ _ _ _ _ s9 (v1 ++ σ) H9 _ I9 q9) fun y s10 ⟨vy, H10, I10, r10, ys, hys, hl, q10⟩ => ?_
        refine thn (mt_append (X := cxComp X scope s3.heap.objs.size xs N' s3 (upd H1 s2.heap.objs.size (.lst [])) fp) _ s10 (v1 ++ σ) H10 (.ref s2.heap.objs.size) [vy] _ [y] (fun _ H' => ∃ m', m' < n ∧ W (i + 1) m' H') I10 rfl (.cons r10 .nil) ⟨_, ys, vy, rfl, rfl, hys, hl, q10⟩) fun _ s11 ⟨_, H11, I11, _, q11⟩ => ?_
        exact fin I11 q11
  rw [hC]
  exact codeAny_compStart_list loop (T.self X.A 0 _ _ _ st4 loop)
theorem pe_comp {tg iter elt : Expr} {ifs : List Expr} {scope : Scope} (xs N' : List Str) {pos : Pos} {wi : TI} {g : TG} {tc : TT} {te : TE} (hc : X.calm = true) (ho : compOk scope X.env.scope X.N N' xs = true) (hi : PI X tg iter wi)
    (hg : ∀ C s0 H0 fp, PG (cxComp X scope C xs N' s0 H0 fp) tg g) (hf : ∀ C s0 H0 fp, PF (cxComp X scope C xs N' s0 H0 fp) ifs tc) (he : ∀ C s0 H0 fp, PE (cxComp X scope C xs N' s0 H0 fp) elt te)
    (hs : ∀ z, foldedSetIterable iter X.env z = pure z := by intro _; rfl) : PE X (.ListComp elt [⟨tg, iter, ifs, 0⟩] scope pos) (tComp xs.length wi g tc te) := by
  intro pins s σ H Q I h
  have O := CompOk.of ho
  rw [eval_ListComp]
  refine wpAny_comprehension_free (use := none) rfl hs (closure_of (comp_cells I O)) O.kind O.loc (thn (hi pins s σ H _ I h) fun v s1 h1 => thn h1 fun itv s2 h2 => ?_)
  obtain ⟨it, fp, tn, J, H2, e, I2, T, st2, f2, hq⟩ := h2
  subst e
  refine comp_block (RR := fun acc C => compPost (model X.prog X.w) X.A X.xe none (EP X pins σ Q) acc C) hc O hg hf he I2 T st2 f2 hq ?_
  intro D C s' H' ⟨m, hm⟩ hI _ _ q
  exact ⟨m, hm, fun h' hsb => ⟨.ref D, H', hI h' hsb, rfl, q⟩⟩
end
end L2
namespace L2
open PySem PySem.Spec PyProof.Rows

noncomputable def CNext (D : Addr) (n i : Nat) (Pv : Nat → List V → Hp → Prop) (y : V) (H6 : Hp) : Prop :=
  ∃ ys, H6 D = some (.lst ys) ∧ ys.length < sizeLine ∧ ∃ m', m' < n - i ∧ (m' = n - (i + 1) ∧ i + 1 ≤ n ∧ ∃ zs, Pv (i + 1) zs (upd H6 D (.lst (ys ++ [y]))))
theorem cnext {D : Addr} {n i : Nat} {Pv : Nat → List V → Hp → Prop} {y : V} {H6 : Hp} {ys zs : List V} (hi : i < n) (h1 : H6 D = some (.lst ys)) (h2 : ys.length < sizeLine) (h3 : Pv (i + 1) zs (upd H6 D (.lst (ys ++ [y])))) : CNext D n i Pv y H6 :=
  ⟨ys, h1, h2, n - (i + 1), by omega, rfl, hi, zs, h3⟩
theorem comp_list {K : PySem.W.Frag} {a D : Addr} {xs : List V} {te : TE} {σ : St} {H1 : Hp} {R : Hp → Prop} (Pv : Nat → List V → Hp → Prop) (h0 : Pv 0 [] (upd H1 D (.lst []))) (hl : ∀ i ys H, Pv i ys H → SqL K H a xs)
    (hs : ∀ i x ys H, xs[i]? = some x → Pv i ys H → te (some x :: σ) H (CNext D xs.length i Pv)) (hd : ∀ ys H, Pv xs.length ys H → R H) :
    ∃ W : Nat → Nat → Hp → Prop, (∃ m, W 0 m (upd H1 D (.lst []))) ∧ ∀ i m H2, W i m H2 →
      ((Itl K a).stop i H2 ∧ R H2) ∨ ((Itl K a).go i H2 ∧ ∀ x H3, (Itl K a).yld i H2 x H3 → ∀ v0 : List (Option V), v0.length = 1 → gName 0 x (v0 ++ σ) H3 fun σ2 H4 => ∃ v1 : List (Option V), v1.length = 1 ∧ σ2 = v1 ++ σ ∧
        tYes σ2 H4 fun b H5 => if b = true then te σ2 H5 fun y H6 => ∃ ys, H6 D = some (.lst ys) ∧ ys.length < sizeLine ∧ ∃ m', m' < m ∧ W (i + 1) m' (upd H6 D (.lst (ys ++ [y]))) else ∃ m', m' < m ∧ W (i + 1) m' H5) := by
  refine ⟨fun i m H => m = xs.length - i ∧ i ≤ xs.length ∧ ∃ ys, Pv i ys H, ⟨xs.length, by simp, Nat.zero_le _, [], h0⟩, ?_⟩
  rintro i m H ⟨rfl, hi, ys, p⟩
  have q := hl i ys H p
  by_cases hlt : i < xs.length
  · refine .inr ⟨⟨xs, xs[i], q, by simp [hlt]⟩, fun x H' y v0 hv0 => ?_⟩
    obtain ⟨e, y⟩ := y
    subst e
    match v0, hv0 with
    | [_], _ => exact ⟨[some x], rfl, rfl, hs i x ys _ (y xs q) p⟩
  · have e : i = xs.length := by omega
    subst e
    exact .inl ⟨⟨xs, q, Nat.le_refl _⟩, hd ys H p⟩
theorem bools_get {bs : List Bool} : ∀ {us : List Value}, Vals (bs.map V.bl) us → us = bs.map Value.bool := by
  induction bs with
  | nil => intro us r; rw [List.map_nil] at r; cases r; rfl
  | cons b bs ih =>
    intro us r
    rw [List.map_cons] at r
    cases r with
    | cons r1 r2 =>
      have e : _ = Value.bool b := r1
      rw [e, ih r2]
      rfl
theorem range_all2 (bs : List Bool) : ((List.range bs.length).all fun i => (bs[i]?).getD true) = bs.all id := by
  rw [Bool.eq_iff_iff, List.all_eq_true, List.all_eq_true]
  constructor
  · intro h b hb
    obtain ⟨i, hi, rfl⟩ := List.getElem_of_mem hb
    have := h i (List.mem_range.mpr hi)
    simp only [List.getElem?_eq_getElem hi, Option.getD_some] at this
    exact this
  · intro h i hi
    have hi' := List.mem_range.mp hi
    simp only [List.getElem?_eq_getElem hi', Option.getD_some]
    exact h _ (List.getElem_mem hi')
section
variable {X : Cx}
theorem call_allB (hc : X.calm = true) : CallR X (.builtin "all") (fun xs H Q => ∃ (p : Addr) (bs : List Bool), xs = [.ref p] ∧ SqL X.K H p (bs.map V.bl) ∧ Q (.bl (bs.all id)) H) := by
  intro pins s σ H xs us Q I r h
  obtain ⟨p, bs, rfl, hS, q⟩ := h
  obtain ⟨u, rfl, ru⟩ := Vals.one r
  cases (show u = Value.ref p from ru)
  obtain ⟨its, rv, pl, _⟩ := I.list hS
  have hb := bools_get rv
  have hl := pl.isList
  have hlt : p < s.heap.objs.size := by obtain ⟨_, e, _⟩ := hl; exact Heap.lt_size e
  refine call_all_walk (wpAny_pyIter_list hl ?_)
  refine ⟨s.heap.objs.size, [s.heap.objs.size, p], [s.heap.objs.size], its.toArray.size, _, _, fun i => (bs[i]?).getD true, rfl, Walks.list (A := X.A.in1) (I.ok.hd hc) _ p (Nat.ne_of_lt hlt) its.toArray,
    ⟨⟨_, Heap.get?_push_size _ rfl, rfl, rfl⟩, hl.push _⟩, fun i v s' Q' E' hP hQ => ?_, fun h' tk hk => ?_⟩
  · have hv : its[i]? = some v := by simpa using hP
    rw [hb, List.getElem?_map] at hv
    cases e : bs[i]? with
    | none => rw [e] at hv; cases hv
    | some b =>
      rw [e] at hv
      simp only [e, Option.getD_some] at hQ
      have : v = Value.bool b := (Option.some.inj hv).symm
      subst this
      exact wpAny_truthy_bool hQ
  · have e : ((List.range its.toArray.size).all fun i => (bs[i]?).getD true) = bs.all id := by
      have el : its.toArray.size = bs.length := by rw [List.size_toArray, hb, List.length_map]
      rw [el]
      exact range_all2 bs
    rw [e]
    exact ⟨.bl _, H, I.kept fun b o z => hk b o (fun hm => by rw [List.mem_singleton.mp hm] at z; exact Nat.lt_irrefl _ (Heap.lt_size z)) (Heap.get?_push_of_some _ z), rfl, q⟩
end
end L2

set_option Elab.async false
set_option linter.all false
set_option maxRecDepth 100000
namespace L2
open PySem PySem.Spec PyProof.Rows

section
variable {X : Cx}
theorem mt_bits : MtR X "int.bit_length" (fun x xs H Q => ∃ i : Int, x = .int i ∧ xs = [] ∧ Q (.int (Builtin.Int.intBits i : Nat)) H) := by
  intro pins s σ H x xs v us Q I rx rv h
  obtain ⟨i, rfl, rfl, q⟩ := h
  obtain ⟨t, rfl⟩ := rx
  cases rv
  exact call_gives F.slot_int_bit_length (typeIs_int s i t) F.entry_int_bit_length (F.args_int_bit_length_1 _) (PySem.AutoIntG2.int_bit_length_int_0 i t) (show EP X pins σ Q (.int _ _) _ from ⟨.int _, H, I.tok _, ⟨_, rfl⟩, q⟩)
theorem pe_globx {x : Str} {v : V} {pos : Pos} (hg : Gl X x) (hm : ∃ u, X.mg x = some u ∧ RelV v u) (hd : (x == ("__debug__" : Str)) = false := by decide) : PE X (.Name x pos) (tC v) := by
  obtain ⟨u, h1, h2⟩ := hm
  exact pe_glob hg h1 h2 hd
end
end L2
namespace L2
open PySem
end L2

set_option Elab.async false
set_option linter.all false
set_option maxRecDepth 100000
namespace L2
open PySem PySem.Spec PyProof.Rows

noncomputable def Dt (X : Cx) (H : Hp) (x : V) (d : PyData) : Prop :=
  ∀ (pins : List (Addr × Obj)) (σ : St) (s : Shared) (u : Value), Inv X pins σ H s → RelV x u → ∃ as, Reads s.heap u d as
section
variable {X : Cx} {H : Hp}
theorem dt_int (i : Int) : Dt X H (.int i) (.int i) := fun _ _ s u _ r => by
  obtain ⟨t, rfl⟩ := r
  exact ⟨_, .int i t⟩
theorem dt_all {pins : List (Addr × Obj)} {σ : St} {s : Shared} (I : Inv X pins σ H s) : ∀ {xs : List V} {ds : List PyData} {us : List Value}, Paired (Dt X H) xs ds → Vals xs us → ∃ as, ReadsAll s.heap us ds as
  | _, _, _, .nil, .nil => ⟨_, .nil⟩
  | _, _, _, .cons h t, .cons r rr => by
    obtain ⟨as, q⟩ := h _ _ _ _ I r
    obtain ⟨bs, q2⟩ := dt_all I t rr
    exact ⟨_, .cons q q2⟩
theorem dt_lst {a : Addr} {xs : List V} {ds : List PyData} (h : SqL X.K H a xs) (hall : Paired (Dt X H) xs ds) : Dt X H (.ref a) (.list ds) := fun _ _ s u I r => by
  cases (show u = Value.ref a from r)
  obtain ⟨its, rv, pl, _⟩ := I.list h
  obtain ⟨as, q⟩ := dt_all I hall rv
  obtain ⟨o, ho, hc, n, hd⟩ := pl.isList
  exact ⟨_, .list ho hc hd (by simpa using q)⟩
theorem dt_tup {a : Addr} {xs : List V} {ds : List PyData} (h : SqT X.K H a xs) (hall : Paired (Dt X H) xs ds) : Dt X H (.ref a) (.tuple ds) := fun _ _ s u I r => by
  cases (show u = Value.ref a from r)
  obtain ⟨its, rv, ht, _⟩ := I.tuple h
  obtain ⟨as, q⟩ := dt_all I hall rv
  obtain ⟨o, ho, hc, n, hd⟩ := ht
  exact ⟨_, .tuple ho hc hd (by simpa using q)⟩
noncomputable def rEqD (X : Cx) : R2 := fun x y H Q => ∃ dx dy, Dt X H x dx ∧ Dt X H y dy ∧ (SeqAt.shaped dx = true ∧ SeqAt.shaped dy = true ∧ SeqAt.noMix dx dy = true) ∧ Q (.bl (PySem.Spec.same dx dy)) H
noncomputable def rNeD (X : Cx) : R2 := fun x y H Q => ∃ dx dy, Dt X H x dx ∧ Dt X H y dy ∧ (SeqAt.shaped dx = true ∧ SeqAt.shaped dy = true ∧ SeqAt.noMix dx dy = true) ∧ Q (.bl (!PySem.Spec.same dx dy)) H
theorem op_eqD (hu : X.A.units + 64 < cLine) : OpR X (compareOp .Eq) (rEqD X) := by
  intro pins s σ H x y v u Q I rx ry h
  obtain ⟨dx, dy, h1, h2, ⟨q1, q2, q3⟩, q⟩ := h
  obtain ⟨as, r1⟩ := h1 _ _ _ _ I rx
  obtain ⟨bs, r2⟩ := h2 _ _ _ _ I ry
  exact eq_dataH_same r1 r2 q1 q2 hu q3 ⟨.bl _, H, I, rfl, q⟩
theorem op_neD (hu : X.A.units + 64 < cLine) : OpR X (compareOp .NotEq) (rNeD X) := by
  intro pins s σ H x y v u Q I rx ry h
  obtain ⟨dx, dy, h1, h2, ⟨q1, q2, q3⟩, q⟩ := h
  obtain ⟨as, r1⟩ := h1 _ _ _ _ I rx
  obtain ⟨bs, r2⟩ := h2 _ _ _ _ I ry
  exact ne_dataH_same r1 r2 q1 q2 hu q3 ⟨.bl _, H, I, rfl, q⟩

end
end L2

set_option Elab.async false
set_option linter.all false
set_option maxRecDepth 100000
namespace L2
open PySem PySem.Spec PyProof.Rows

section
variable {X : Cx}
end
end L2

set_option Elab.async false
set_option linter.all false
set_option maxRecDepth 100000
namespace L2
open PySem PySem.Spec PyProof.Rows

section
variable {X : Cx} {tg : Expr}
end
end L2

set_option Elab.async false
set_option linter.all false
set_option maxRecDepth 100000
namespace L2
open PySem PySem.Spec PyProof.Rows

section
variable {X : Cx} {H : Hp}
end
end L2
namespace L2
open PySem PySem.Spec PyProof.Rows
theorem ix_tupK {X : Cx} {K : PySem.W.Frag} (h : X.K = K) : IxR X (rIxT K) := h ▸ ix_tup
end L2

set_option Elab.async false
set_option linter.all false
set_option maxRecDepth 100000
namespace L2
open PySem PySem.Spec PyProof.Rows

mutual
def treeI : PyData → Bool
  | .int _ => true
  | .list xs => treesI xs
  | .tuple xs => treesI xs
  | .none => false
  | .bool _ => false
  | .str _ => false
  | .dict _ => false
def treesI : List PyData → Bool
  | [] => true
  | x :: xs => treeI x && treesI xs
end
mutual
theorem tree_lay : ∀ d : PyData, treeI d = true → d.canLay0 = true
  | .int _, _ => by simp [PyData.canLay0]
  | .list xs, h => by rw [treeI] at h; rw [PyData.canLay0]; exact trees_lay xs h
  | .tuple xs, h => by rw [treeI] at h; rw [PyData.canLay0]; exact trees_lay xs h
  | .none, h => by simp [treeI] at h
  | .bool _, h => by simp [treeI] at h
  | .str _, h => by simp [treeI] at h
  | .dict _, h => by simp [treeI] at h
theorem trees_lay : ∀ xs : List PyData, treesI xs = true → PyData.canLayAll0 xs = true
  | [], _ => by simp [PyData.canLayAll0]
  | x :: xs, h => by
    rw [treesI, Bool.and_eq_true] at h
    rw [PyData.canLayAll0, tree_lay x h.1, trees_lay xs h.2]
    rfl
end
mutual
theorem tree_mix : ∀ d e : PyData, treeI d = true → treeI e = true → SeqAt.noMix d e = true
  | .int _, .int _, _, _ => by simp [SeqAt.noMix]
  | .int _, .list _, _, _ => by simp [SeqAt.noMix]
  | .int _, .tuple _, _, _ => by simp [SeqAt.noMix]
  | .list _, .int _, _, _ => by simp [SeqAt.noMix]
  | .list _, .tuple _, _, _ => by simp [SeqAt.noMix]
  | .tuple _, .int _, _, _ => by simp [SeqAt.noMix]
  | .tuple _, .list _, _, _ => by simp [SeqAt.noMix]
  | .list xs, .list ys, h, h2 => by rw [treeI] at h h2; rw [SeqAt.noMix]; exact trees_mix xs ys h h2
  | .tuple xs, .tuple ys, h, h2 => by rw [treeI] at h h2; rw [SeqAt.noMix]; exact trees_mix xs ys h h2
  | .none, _, h, _ => by simp [treeI] at h
  | .bool _, _, h, _ => by simp [treeI] at h
  | .str _, _, h, _ => by simp [treeI] at h
  | .dict _, _, h, _ => by simp [treeI] at h
  | .int _, .none, _, h => by simp [treeI] at h
  | .int _, .bool _, _, h => by simp [treeI] at h
  | .int _, .str _, _, h => by simp [treeI] at h
  | .int _, .dict _, _, h => by simp [treeI] at h
  | .list _, .none, _, h => by simp [treeI] at h
  | .list _, .bool _, _, h => by simp [treeI] at h
  | .list _, .str _, _, h => by simp [treeI] at h
  | .list _, .dict _, _, h => by simp [treeI] at h
  | .tuple _, .none, _, h => by simp [treeI] at h
  | .tuple _, .bool _, _, h => by simp [treeI] at h
  | .tuple _, .str _, _, h => by simp [treeI] at h
  | .tuple _, .dict _, _, h => by simp [treeI] at h
theorem trees_mix : ∀ xs ys : List PyData, treesI xs = true → treesI ys = true → SeqAt.noMixAll xs ys = true
  | [], [], _, _ => by simp [SeqAt.noMixAll]
  | [], _ :: _, _, _ => by simp [SeqAt.noMixAll]
  | _ :: _, [], _, _ => by simp [SeqAt.noMixAll]
  | x :: xs, y :: ys, h, h2 => by
    rw [treesI, Bool.and_eq_true] at h h2
    rw [SeqAt.noMixAll, tree_mix x y h.1 h2.1, trees_mix xs ys h.2 h2.2]
    rfl
end
mutual
theorem tree_same : ∀ d e : PyData, treeI d = true → treeI e = true → (same d e = true ↔ d = e)
  | .int a, .int b, _, _ => by simp [same]
  | .int _, .list _, _, _ => by simp [same]
  | .int _, .tuple _, _, _ => by simp [same]
  | .list _, .int _, _, _ => by simp [same]
  | .list _, .tuple _, _, _ => by simp [same]
  | .tuple _, .int _, _, _ => by simp [same]
  | .tuple _, .list _, _, _ => by simp [same]
  | .list xs, .list ys, h, h2 => by rw [treeI] at h h2; rw [same, trees_same xs ys h h2, PyData.list.injEq]
  | .tuple xs, .tuple ys, h, h2 => by rw [treeI] at h h2; rw [same, trees_same xs ys h h2, PyData.tuple.injEq]
  | .none, _, h, _ => by simp [treeI] at h
  | .bool _, _, h, _ => by simp [treeI] at h
  | .str _, _, h, _ => by simp [treeI] at h
  | .dict _, _, h, _ => by simp [treeI] at h
  | .int _, .none, _, h => by simp [treeI] at h
  | .int _, .bool _, _, h => by simp [treeI] at h
  | .int _, .str _, _, h => by simp [treeI] at h
  | .int _, .dict _, _, h => by simp [treeI] at h
  | .list _, .none, _, h => by simp [treeI] at h
  | .list _, .bool _, _, h => by simp [treeI] at h
  | .list _, .str _, _, h => by simp [treeI] at h
  | .list _, .dict _, _, h => by simp [treeI] at h
  | .tuple _, .none, _, h => by simp [treeI] at h
  | .tuple _, .bool _, _, h => by simp [treeI] at h
  | .tuple _, .str _, _, h => by simp [treeI] at h
  | .tuple _, .dict _, _, h => by simp [treeI] at h
theorem trees_same : ∀ xs ys : List PyData, treesI xs = true → treesI ys = true → (sameAll xs ys = true ↔ xs = ys)
  | [], [], _, _ => by simp [sameAll]
  | [], _ :: _, _, _ => by simp [sameAll]
  | _ :: _, [], _, _ => by simp [sameAll]
  | x :: xs, y :: ys, h, h2 => by
    rw [treesI, Bool.and_eq_true] at h h2
    rw [sameAll, Bool.and_eq_true, tree_same x y h.1 h2.1, trees_same xs ys h.2 h2.2, List.cons.injEq]
end

noncomputable def TreeI (d : PyData) : Prop := treeI d = true ∧ d.depth ≤ 64
theorem TreeI.shaped {d : PyData} (h : TreeI d) : SeqAt.shaped d = true := by
  unfold SeqAt.shaped
  rw [tree_lay d h.1, decide_eq_true h.2]
  rfl
section
variable {X : Cx}
noncomputable def rEqT (X : Cx) : R2 := fun x y H Q => ∃ dx dy, Dt X H x dx ∧ Dt X H y dy ∧ (TreeI dx ∧ TreeI dy) ∧ ∀ b : Bool, (b = true ↔ dx = dy) → Q (.bl b) H
noncomputable def rNeT (X : Cx) : R2 := fun x y H Q => ∃ dx dy, Dt X H x dx ∧ Dt X H y dy ∧ (TreeI dx ∧ TreeI dy) ∧ ∀ b : Bool, (b = true ↔ dx = dy) → Q (.bl (!b)) H
theorem op_eqT (hu : X.A.units + 64 < cLine) : OpR X (compareOp .Eq) (rEqT X) := by
  intro pins s σ H x y v u Q I rx ry h
  obtain ⟨dx, dy, h1, h2, ⟨q1, q2⟩, q⟩ := h
  exact op_eqD hu pins s σ H x y v u Q I rx ry ⟨dx, dy, h1, h2, ⟨q1.shaped, q2.shaped, tree_mix dx dy q1.1 q2.1⟩, q _ (tree_same dx dy q1.1 q2.1)⟩
theorem op_neT (hu : X.A.units + 64 < cLine) : OpR X (compareOp .NotEq) (rNeT X) := by
  intro pins s σ H x y v u Q I rx ry h
  obtain ⟨dx, dy, h1, h2, ⟨q1, q2⟩, q⟩ := h
  exact op_neD hu pins s σ H x y v u Q I rx ry ⟨dx, dy, h1, h2, ⟨q1.shaped, q2.shaped, tree_mix dx dy q1.1 q2.1⟩, q _ (tree_same dx dy q1.1 q2.1)⟩
end
theorem treesI_of {xs : List PyData} (h : ∀ x ∈ xs, treeI x = true) : treesI xs = true := by
  induction xs with
  | nil => rfl
  | cons x xs ih =>
    rw [treesI, h x (List.mem_cons_self ..), ih fun y hy => h y (List.mem_cons_of_mem _ hy)]
    rfl
theorem deepI_of {xs : List PyData} {n : Nat} (h : ∀ x ∈ xs, x.depth ≤ n) : PyData.depthAll xs ≤ n := by
  induction xs with
  | nil => simp [PyData.depthAll]
  | cons x xs ih =>
    rw [PyData.depthAll]
    have := h x (List.mem_cons_self ..)
    have := ih fun y hy => h y (List.mem_cons_of_mem _ hy)
    omega

theorem tr_list {xs : List PyData} {n : Nat} (h : ∀ x ∈ xs, treeI x = true ∧ x.depth ≤ n) : treeI (.list xs) = true ∧ (PyData.list xs).depth ≤ n + 1 :=
  ⟨treesI_of fun x hx => (h x hx).1, Nat.succ_le_succ (deepI_of fun x hx => (h x hx).2)⟩
end L2

set_option Elab.async false
set_option linter.all false
set_option maxRecDepth 100000
namespace L2
open PySem PySem.Spec PyProof.Rows

noncomputable abbrev FR (H : Hp) (p : Addr) (r : Rat) : Prop := H p = some (.tup [.int r.num, .int r.den])
noncomputable abbrev rv (as : List (Addr × Rat)) : List V := as.map fun x => V.ref x.1
noncomputable abbrev rq (as : List (Addr × Rat)) : List Rat := as.map fun x => x.2
noncomputable def Row (K : PySem.W.Frag) (H : Hp) (p : Addr) (as : List (Addr × Rat)) : Prop := SqL K H p (rv as) ∧ ∀ x ∈ as, FR H x.1 x.2
theorem frc_keep {H : Hp} {p q : Addr} {r : Rat} {xs ys : List V} (h : FR H q r) (hp : H p = some (.lst xs)) : FR (upd H p (.lst ys)) q r := by
  show upd _ _ _ _ = _
  rw [upd_ne (ne_of h hp (by intro z; cases z))]
  exact h
noncomputable def dFrac (r : Rat) : PyData := .tuple [.int r.num, .int r.den]
noncomputable def dRow (rs : List Rat) : PyData := .list (rs.map dFrac)
theorem dFrac_inj {r r' : Rat} : dFrac r = dFrac r' ↔ r = r' := by
  constructor
  · intro h
    unfold dFrac at h
    simp only [PyData.tuple.injEq, List.cons.injEq, PyData.int.injEq, and_true] at h
    exact Rat.ext h.1 (by have := h.2; omega)
  · intro h; rw [h]
theorem dRow_inj {rs rs' : List Rat} : dRow rs = dRow rs' ↔ rs = rs' := by
  constructor
  · intro h
    unfold dRow at h
    rw [PyData.list.injEq] at h
    exact (List.map_inj_right (fun a b e => dFrac_inj.mp e)).mp h
  · intro h; rw [h]
theorem tr_frac (r : Rat) : treeI (dFrac r) = true ∧ (dFrac r).depth ≤ 1 := ⟨rfl, Nat.le_refl _⟩
theorem tr_row (rs : List Rat) : treeI (dRow rs) = true ∧ (dRow rs).depth ≤ 2 := tr_list fun x hx => by
  obtain ⟨r, _, rfl⟩ := List.mem_map.mp hx
  exact tr_frac r
theorem TreeI.of {d : PyData} {n : Nat} (h : treeI d = true ∧ d.depth ≤ n) (hn : n ≤ 64) : TreeI d := ⟨h.1, Nat.le_trans h.2 hn⟩
section
variable {X : Cx} {H : Hp}
theorem dt_frac {p : Addr} {r : Rat} (h : FR H p r) : Dt X H (.ref p) (dFrac r) := dt_tup (SqT.of h) (.cons (dt_int _) (.cons (dt_int _) .nil))
theorem dt_rvs : ∀ {as : List (Addr × Rat)}, (∀ x ∈ as, FR H x.1 x.2) → Paired (Dt X H) (rv as) ((rq as).map dFrac)
  | [], _ => .nil
  | x :: as, h => .cons (dt_frac (h x (List.mem_cons_self ..))) (dt_rvs fun y hy => h y (List.mem_cons_of_mem _ hy))
theorem dt_row {p : Addr} {as : List (Addr × Rat)} (h : Row X.K H p as) : Dt X H (.ref p) (dRow (rq as)) := dt_lst h.1 (dt_rvs h.2)
theorem dt_nil {p : Addr} (h : SqL X.K H p []) : Dt X H (.ref p) (dRow []) := dt_lst h .nil
end
theorem rq_nil {as : List (Addr × Rat)} : rq as = [] ↔ as = [] := by cases as <;> simp [rq]

theorem rv_get {as : List (Addr × Rat)} {i : Nat} {y : V} (h : (rv as)[i]? = some y) : ∃ x, as[i]? = some x ∧ y = .ref x.1 := by
  unfold rv at h
  rw [List.getElem?_map] at h
  cases e : as[i]? with
  | none => rw [e] at h; cases h
  | some x => rw [e] at h; exact ⟨x, rfl, (Option.some.inj h).symm⟩
end L2

set_option linter.all false
namespace Num
theorem gcd_step (a b q : Int) : Int.gcd b (a - q * b) = Int.gcd a b := by
  apply Nat.dvd_antisymm
  · apply Int.dvd_gcd
    · have h1 : ((Int.gcd b (a - q * b) : Nat) : Int) ∣ b := Int.gcd_dvd_left ..
      have h2 : ((Int.gcd b (a - q * b) : Nat) : Int) ∣ (a - q * b) := Int.gcd_dvd_right ..
      have h3 := Int.dvd_add h2 (Int.dvd_mul_of_dvd_right h1 : _ ∣ q * b)
      have e : a - q * b + q * b = a := by omega
      rw [e] at h3
      exact h3
    · exact Int.gcd_dvd_left ..
  · apply Int.dvd_gcd
    · exact Int.gcd_dvd_right ..
    · exact Int.dvd_sub (Int.gcd_dvd_left ..) (Int.dvd_mul_of_dvd_right (Int.gcd_dvd_right ..))

theorem fl (a b : Int) (hb : b ≠ 0) : (0 < b → 0 ≤ a - a.fdiv b * b ∧ a - a.fdiv b * b < b) ∧ (b < 0 → b < a - a.fdiv b * b ∧ a - a.fdiv b * b ≤ 0) := by
  have e := Int.mul_ediv_add_emod a b
  have h0 := Int.emod_nonneg a hb
  have h1 : a % b < (b.natAbs : Int) := by
    rcases Int.lt_or_le 0 b with z | z
    · have := Int.emod_lt_of_pos a z
      omega
    · have := Int.emod_lt_of_pos a (show 0 < -b by omega)
      rw [Int.emod_neg] at this
      omega
  rw [Int.fdiv_eq_ediv]
  have eb : b * (a / b) = (a / b) * b := Int.mul_comm _ _
  constructor
  · intro h
    rw [if_pos (Or.inl (by omega)), Int.sub_zero]
    omega
  · intro h
    split
    · rename_i hd
      have hz : a % b = 0 := Int.emod_eq_zero_of_dvd (by omega)
      rw [Int.sub_zero]
      omega
    · rename_i hd
      have hz : a % b ≠ 0 := fun z => hd (.inr (Int.dvd_of_emod_eq_zero z))
      have : (a / b - 1) * b = a / b * b - b := by rw [Int.sub_mul]; omega
      omega
theorem fl_abs (a b : Int) (hb : b ≠ 0) : (a - a.fdiv b * b).natAbs < b.natAbs := by
  have := fl a b hb
  omega
theorem fmod_eq (a b : Int) : a.fmod b = a - a.fdiv b * b := by
  have := Int.mul_fdiv_add_fmod a b
  have : b * a.fdiv b = a.fdiv b * b := Int.mul_comm _ _
  omega
end Num

set_option linter.all false
namespace Num
theorem dz (r : Rat) : (r.den : Int) ≠ 0 := by have := r.den_nz; omega
theorem dpos (r : Rat) : (0 : Int) < r.den := by have := r.den_pos; omega
theorem rat_of {n : Int} {d : Nat} {r : Rat} (hd : d ≠ 0) (hc : Nat.gcd n.natAbs d = 1) (h : n * r.den = r.num * d) : r.num = n ∧ (r.den : Int) = d := by
  have e : r = ⟨n, d, hd, hc⟩ := by
    rw [← Rat.num_divInt_den r, Rat.mk_eq_divInt, Rat.divInt_eq_divInt_iff (dz r) (by omega)]
    exact h.symm
  rw [e]
  exact ⟨rfl, rfl⟩
theorem red (r : Rat) : Int.gcd r.num r.den = 1 := r.reduced

theorem gcd_out (x y : Int) (h : y ≠ 0) : ∃ x' y' : Int, x = (Int.gcd x y : Nat) * x' ∧ y = (Int.gcd x y : Nat) * y' ∧ Int.gcd x' y' = 1 ∧ 0 < ((Int.gcd x y : Nat) : Int) := by
  have hg : 0 < Int.gcd x y := Int.gcd_pos_of_ne_zero_right _ h
  obtain ⟨x', hx⟩ : ((Int.gcd x y : Nat) : Int) ∣ x := Int.gcd_dvd_left ..
  obtain ⟨y', hy⟩ : ((Int.gcd x y : Nat) : Int) ∣ y := Int.gcd_dvd_right ..
  refine ⟨x', y', hx, hy, ?_, by omega⟩
  have e : Int.gcd ((Int.gcd x y : Nat) * x') ((Int.gcd x y : Nat) * y') = Int.gcd x y * Int.gcd x' y' := by
    rw [Int.gcd_mul_left]
    rfl
  rw [← hx, ← hy] at e
  have : Int.gcd x y * 1 = Int.gcd x y * Int.gcd x' y' := by omega
  exact (Nat.eq_of_mul_eq_mul_left hg this).symm
theorem div_out {g x x' : Int} (h : x = g * x') (hg : 0 < g) : x / g = x' := by
  rw [h]
  exact Int.mul_ediv_cancel_left _ (by omega)
theorem pos_of {g y y' : Int} (h : y = g * y') (hg : 0 < g) (hy : 0 < y) : 0 < y' := by
  rcases Int.lt_or_le 0 y' with z | z
  · exact z
  · have := Int.mul_nonpos_of_nonneg_of_nonpos (Int.le_of_lt hg) z
    omega
theorem rat_set {n d : Int} {r : Rat} (hd : 0 < d) (hc : Int.gcd n d = 1) (h : n * r.den = r.num * d) : r.num = n ∧ (r.den : Int) = d := by
  have e : ((d.toNat : Nat) : Int) = d := by omega
  have := rat_of (n := n) (d := d.toNat) (r := r) (by omega) (by unfold Int.gcd at hc; rw [show d.toNat = d.natAbs by omega]; exact hc) (by rw [e]; exact h)
  rw [e] at this
  exact this

noncomputable def Bd (n : Nat) (r : Rat) : Prop := r.num.natAbs < 2 ^ n ∧ r.den < 2 ^ n
theorem lt_mul {x y n m : Nat} (h1 : x < 2 ^ n) (h2 : y < 2 ^ m) : x * y < 2 ^ (n + m) := by
  rw [Nat.pow_add]
  rcases Nat.eq_zero_or_pos y with z | z
  · subst z
    have := Nat.mul_pos (Nat.pow_pos (n := n) (show 0 < 2 by decide)) (Nat.pow_pos (n := m) (show 0 < 2 by decide))
    omega
  · exact Nat.lt_of_lt_of_le (Nat.mul_lt_mul_of_pos_right h1 z) (Nat.mul_le_mul_left _ (Nat.le_of_lt h2))
end Num

set_option linter.all false
namespace Num

theorem frac_out (t b : Int) (hb : b ≠ 0) : ((if b < 0 then -((Int.gcd t b : Nat) : Int) else ((Int.gcd t b : Nat) : Int)) ≠ 0) ∧ (Rat.divInt t b).num = t.fdiv (if b < 0 then -((Int.gcd t b : Nat) : Int) else ((Int.gcd t b : Nat) : Int)) ∧
    ((Rat.divInt t b).den : Int) = b.fdiv (if b < 0 then -((Int.gcd t b : Nat) : Int) else ((Int.gcd t b : Nat) : Int)) := by
  obtain ⟨x, y, hx, hy, hxy, hg⟩ := gcd_out t b hb
  have cross := (Rat.divInt_eq_divInt_iff (dz (Rat.divInt t b)) hb).mp (Rat.num_divInt_den (Rat.divInt t b))
  generalize ((Int.gcd t b : Nat) : Int) = g at *
  generalize Rat.divInt t b = r at *
  have gz : g ≠ 0 := by omega
  have c2 : x * r.den = r.num * y := by
    rw [hx, hy] at cross
    have : g * (x * r.den) = g * (r.num * y) := by grind
    exact Int.eq_of_mul_eq_mul_left gz this
  rcases Int.lt_or_le b 0 with z | z
  · rw [if_pos z]
    have py : 0 < -y := by
      rcases Int.lt_or_le 0 (-y) with q | q
      · exact q
      · have := Int.mul_nonneg (Int.le_of_lt hg) (show 0 ≤ y by omega)
        omega
    have fin := rat_set (n := -x) (d := -y) (r := r) py (by rw [Int.gcd_neg, Int.neg_gcd]; exact hxy) (by grind)
    have ng : -g ≠ 0 := by omega
    refine ⟨ng, ?_, ?_⟩
    · rw [fin.1, hx, show g * x = -g * -x by grind, Int.mul_fdiv_cancel_left _ ng]
    · rw [fin.2, hy, show g * y = -g * -y by grind, Int.mul_fdiv_cancel_left _ ng]
  · rw [if_neg (by omega)]
    have py := pos_of hy hg (by omega)
    have fin := rat_set (r := r) py hxy c2
    refine ⟨gz, ?_, ?_⟩
    · rw [fin.1, hx, Int.mul_fdiv_cancel_left _ gz]
    · rw [fin.2, hy, Int.mul_fdiv_cancel_left _ gz]
theorem frac_cross (t b : Int) (hb : b ≠ 0) : (Rat.divInt t b).num * b = t * (Rat.divInt t b).den := (Rat.divInt_eq_divInt_iff (dz _) hb).mp (Rat.num_divInt_den _)
theorem frac_bd (t b : Int) (hb : b ≠ 0) : (Rat.divInt t b).num.natAbs ≤ t.natAbs ∧ (Rat.divInt t b).den ≤ b.natAbs := by
  have c := frac_cross t b hb
  generalize Rat.divInt t b = r at *
  have hN : r.num.natAbs * b.natAbs = t.natAbs * r.den := by
    have := congrArg Int.natAbs c
    rw [Int.natAbs_mul, Int.natAbs_mul, Int.natAbs_natCast] at this
    exact this
  have cop : Nat.Coprime r.num.natAbs r.den := r.reduced
  have hb' : 0 < b.natAbs := by omega
  have d1 : r.den ∣ b.natAbs := cop.symm.dvd_of_dvd_mul_left ⟨t.natAbs, by rw [hN, Nat.mul_comm]⟩
  have d2 : r.num.natAbs ∣ t.natAbs := cop.dvd_of_dvd_mul_right ⟨b.natAbs, hN.symm⟩
  refine ⟨?_, Nat.le_of_dvd hb' d1⟩
  rcases Nat.eq_zero_or_pos t.natAbs with z | z
  · rw [z, Nat.zero_mul] at hN
    rcases Nat.mul_eq_zero.mp hN with q | q
    · omega
    · omega
  · exact Nat.le_of_dvd z d2
end Num
namespace Num
end Num

set_option linter.all false
namespace Num

noncomputable def ev (x : Rat) : List Rat → Rat
  | [] => 0
  | r :: rs => r + x * ev x rs
end Num
namespace Num
theorem num_den (x : Rat) : x * ((x.den : Int) : Rat) = ((x.num : Int) : Rat) := by
  have h := Rat.num_divInt_den x
  rw [Rat.divInt_eq_div] at h
  have : ((x.den : Int) : Rat) ≠ 0 := fun z => by
    have := Rat.intCast_inj.mp (z.trans (show (0 : Rat) = ((0 : Int) : Rat) from rfl))
    have := x.den_nz
    omega
  grind
theorem clear_one {x : Rat} {B : Int} (h : (x.den : Int) ∣ B) : ((x.num * (B / x.den) : Int) : Rat) = x * B := by
  obtain ⟨k, hk⟩ := h
  have e : B / (x.den : Int) = k := by rw [hk]; exact Int.mul_ediv_cancel_left _ (dz x)
  rw [e, hk, Rat.intCast_mul, Rat.intCast_mul, ← num_den x]
  grind
end Num

set_option linter.all false
namespace Num

end Num

set_option linter.all false
namespace Num

noncomputable def sm (f : Nat → Int) : Nat → Int
  | 0 => 0
  | n + 1 => sm f n + f n
end Num

set_option linter.all false
namespace Num

end Num

set_option linter.all false
namespace Num

noncomputable def Cd (D : Int) (n : Nat) (x : Rat) : Prop := ∃ z : Int, x * D = z ∧ z.natAbs < 2 ^ n
theorem Cd.dvd {D : Int} {n : Nat} {x : Rat} (h : Cd D n x) : (x.den : Int) ∣ D ∧ (x.num * (D / x.den)).natAbs < 2 ^ n := by
  obtain ⟨z, h1, h2⟩ := h
  have e : x.num * D = z * x.den := by
    have e := num_den x
    have : ((x.num * D : Int) : Rat) = ((z * x.den : Int) : Rat) := by
      rw [Rat.intCast_mul, Rat.intCast_mul, ← e, ← h1]
      grind
    exact Rat.intCast_inj.mp this
  have d : (x.den : Int) ∣ D := by
    have c : Nat.Coprime x.den x.num.natAbs := Nat.Coprime.symm x.reduced
    have hn : x.den ∣ x.num.natAbs * D.natAbs := ⟨z.natAbs, by
      have := congrArg Int.natAbs e
      rw [Int.natAbs_mul, Int.natAbs_mul, Int.natAbs_natCast] at this
      rw [this, Nat.mul_comm]⟩
    have := c.dvd_of_dvd_mul_left hn
    rw [← Int.natAbs_natCast x.den] at this
    exact Int.natAbs_dvd_natAbs.mp this
  refine ⟨d, ?_⟩
  have : ((x.num * (D / x.den) : Int) : Rat) = (z : Rat) := by rw [clear_one d, h1]
  rw [Rat.intCast_inj.mp this]
  exact h2
theorem Cd.of {D : Int} {n : Nat} {x : Rat} (d : (x.den : Int) ∣ D) (h : (x.num * (D / x.den)).natAbs < 2 ^ n) : Cd D n x := ⟨_, (clear_one d).symm, h⟩
noncomputable def dens : List Rat → Int
  | [] => 1
  | r :: rs => r.den * dens rs
theorem dens_pos : ∀ rs : List Rat, 0 < dens rs
  | [] => by decide
  | r :: rs => Int.mul_pos (dpos r) (dens_pos rs)
theorem dens_bd {n : Nat} : ∀ rs : List Rat, (∀ x ∈ rs, Bd n x) → (dens rs).natAbs < 2 ^ (n * rs.length + 1)
  | [], _ => by show 1 < 2 ^ (n * 0 + 1); rw [Nat.mul_zero]; decide
  | r :: rs, h => by
    have ih := dens_bd rs fun y hy => h y (List.mem_cons_of_mem _ hy)
    have hr := (h r (List.mem_cons_self ..)).2
    show ((r.den : Int) * dens rs).natAbs < _
    rw [Int.natAbs_mul, Int.natAbs_natCast, List.length_cons, Nat.mul_add, Nat.mul_one, show n * rs.length + n + 1 = n + (n * rs.length + 1) by omega]
    exact lt_mul hr ih
theorem dens_dvd : ∀ (rs : List Rat), ∀ x ∈ rs, (x.den : Int) ∣ dens rs
  | r :: rs, x, hx => by
    rcases List.mem_cons.mp hx with rfl | h
    · exact ⟨dens rs, rfl⟩
    · exact Int.dvd_trans (dens_dvd rs x h) ⟨r.den, Int.mul_comm _ _⟩
theorem dens_cd {n : Nat} {rs : List Rat} (h : ∀ x ∈ rs, Bd n x) : ∀ x ∈ rs, Cd (dens rs) (n * (rs.length + 1) + 1) x := fun x hx => by
  refine Cd.of (dens_dvd rs x hx) ?_
  rw [Int.natAbs_mul, show n * (rs.length + 1) + 1 = n + (n * rs.length + 1) by rw [Nat.mul_add]; omega]
  refine lt_mul (h x hx).1 (Nat.lt_of_le_of_lt ?_ (dens_bd rs h))
  have p := dens_pos rs
  have h1 := Int.ediv_le_self (x.den : Int) (Int.le_of_lt p)
  have h2 := Int.ediv_nonneg (Int.le_of_lt p) (Int.le_of_lt (dpos x))
  omega
end Num

set_option linter.all false
namespace Num
theorem cop_dvdI {a b c : Int} (h : Int.gcd a b = 1) (hd : a ∣ b * c) : a ∣ c := by
  have hn : a.natAbs ∣ b.natAbs * c.natAbs := by rw [← Int.natAbs_mul]; exact Int.natAbs_dvd_natAbs.mpr hd
  exact Int.natAbs_dvd_natAbs.mp (Nat.Coprime.dvd_of_dvd_mul_left (show Nat.Coprime a.natAbs b.natAbs from h) hn)
theorem lcm_dvdI {B d D : Int} (hd : d ≠ 0) (h1 : B ∣ D) (h2 : d ∣ D) : B / (Int.gcd B d : Nat) * d ∣ D := by
  obtain ⟨x, y, hx, hy, hxy, hg⟩ := gcd_out B d hd
  rw [show B / ((Int.gcd B d : Nat) : Int) = x from Num.div_out hx hg]
  obtain ⟨u, hu⟩ := h1
  obtain ⟨v, hv⟩ := h2
  generalize ((Int.gcd B d : Nat) : Int) = g at *
  have e : x * u = y * v := by
    have : g * (x * u) = g * (y * v) := by
      rw [← Int.mul_assoc, ← Int.mul_assoc, ← hx, ← hy, ← hu, ← hv]
    exact Int.eq_of_mul_eq_mul_left (by omega) this
  obtain ⟨w, hw⟩ : y ∣ u := cop_dvdI (by rw [Int.gcd_comm]; exact hxy) ⟨v, e⟩
  refine ⟨w, ?_⟩
  rw [hu, hx, hw, hy]
  grind
end Num
namespace L2
open PySem
end L2

set_option linter.all false
namespace Num
end Num

set_option linter.all false
namespace Num

noncomputable def gc (s : Nat) : List Int → Nat
  | [] => s
  | x :: xs => gc (Int.gcd x s) xs
theorem gc_app (x : Int) : ∀ (xs : List Int) (s : Nat), gc s (xs ++ [x]) = Int.gcd x (gc s xs)
  | [], s => rfl
  | y :: ys, s => gc_app x ys _
theorem gc_mul (c : Nat) : ∀ (ms : List Int) (s : Nat), gc (c * s) (ms.map fun x => (c : Int) * x) = c * gc s ms
  | [], s => rfl
  | y :: ys, s => by
    show gc (Int.gcd ((c : Int) * y) ((c * s : Nat) : Int)) _ = _
    have e : Int.gcd ((c : Int) * y) ((c * s : Nat) : Int) = c * Int.gcd y s := by
      rw [Int.natCast_mul, Int.gcd_mul_left, Int.natAbs_natCast]
    rw [e]
    exact gc_mul c ys _
theorem gc_neg : ∀ (ms : List Int) (s : Nat), gc s (ms.map fun x => -1 * x) = gc s ms
  | [], s => rfl
  | y :: ys, s => by
    show gc (Int.gcd (-1 * y) s) _ = gc (Int.gcd y s) ys
    rw [gc_neg ys, Int.neg_one_mul, Int.neg_gcd]
theorem gc_dvd : ∀ (ns : List Int) (s : Nat), gc s ns ∣ s ∧ ∀ x ∈ ns, ((gc s ns : Nat) : Int) ∣ x
  | [], s => ⟨Nat.dvd_refl _, fun x hx => nomatch hx⟩
  | y :: ys, s => by
    obtain ⟨h1, h2⟩ := gc_dvd ys (Int.gcd y s)
    have hy : ((gc (Int.gcd y s) ys : Nat) : Int) ∣ y := Int.dvd_trans (Int.natCast_dvd_natCast.mpr h1) (Int.gcd_dvd_left ..)
    have hs : ((gc (Int.gcd y s) ys : Nat) : Int) ∣ (s : Int) := Int.dvd_trans (Int.natCast_dvd_natCast.mpr h1) (Int.gcd_dvd_right ..)
    refine ⟨Int.natCast_dvd_natCast.mp hs, fun x hx => ?_⟩
    rcases List.mem_cons.mp hx with rfl | h
    · exact hy
    · exact h2 x h
theorem gc_one : ∀ ns : List Int, gc 1 ns = 1
  | [] => rfl
  | y :: ys => by
    show gc (Int.gcd y ((1 : Nat) : Int)) ys = 1
    have e : Int.gcd y ((1 : Nat) : Int) = 1 := Int.gcd_one_right y
    rw [e]
    exact gc_one ys
theorem gc_split (xs ys : List Int) (s : Nat) : gc s (xs ++ ys) = gc (gc s xs) ys := by
  induction xs generalizing s with
  | nil => rfl
  | cons x xs ih => exact ih _
theorem gcd_bd {x : Int} {s n : Nat} (h1 : x.natAbs < 2 ^ n) (h2 : s < 2 ^ n) : Int.gcd x s < 2 ^ n := by
  by_cases hx : x = 0
  · rw [hx, Int.gcd_zero_left]
    exact h2
  · refine Nat.lt_of_le_of_lt (Nat.le_of_dvd (by omega) ?_) h1
    have := Int.gcd_dvd_left x s
    have h3 := Int.natAbs_dvd_natAbs.mpr this
    rw [Int.natAbs_natCast] at h3
    exact h3
theorem gc_bd {n : Nat} : ∀ (ns : List Int) (s : Nat), (∀ x ∈ ns, x.natAbs < 2 ^ n) → s < 2 ^ n → gc s ns < 2 ^ n
  | [], s, _, h => h
  | y :: ys, s, hb, h => gc_bd ys _ (fun x hx => hb x (List.mem_cons_of_mem _ hx)) (gcd_bd (hb y List.mem_cons_self) h)
theorem gc_pos {ns : List Int} {x : Int} (hx : x ∈ ns) (nz : x ≠ 0) : 0 < gc 0 ns := by
  rcases Nat.eq_zero_or_pos (gc 0 ns) with e | e
  · have := (gc_dvd ns 0).2 x hx
    rw [e] at this
    exact absurd (Int.zero_dvd.mp this) nz
  · exact e
theorem map_back {c : Nat} {ns : List Int} (h : ∀ x ∈ ns, (c : Int) ∣ x) : (ns.map fun x => x / (c : Int)).map (fun x => (c : Int) * x) = ns := by
  rw [List.map_map]
  refine (List.map_congr_left fun x hx => ?_).trans (List.map_id ns)
  exact Int.mul_ediv_cancel' (h x hx)

theorem gc_prim {ns : List Int} (h : 0 < gc 0 ns) : gc 0 (ns.map fun x => x / ((gc 0 ns : Nat) : Int)) = 1 := by
  have e := gc_mul (gc 0 ns) (ns.map fun x => x / ((gc 0 ns : Nat) : Int)) 0
  rw [map_back (gc_dvd ns 0).2, Nat.mul_zero] at e
  generalize gc 0 (ns.map fun x => x / ((gc 0 ns : Nat) : Int)) = y at *
  generalize gc 0 ns = c at *
  exact Nat.eq_of_mul_eq_mul_left h (by omega)
theorem div_bd {x : Int} {c n : Nat} (hc : 0 < c) (h : x.natAbs < 2 ^ n) : (x / (c : Int)).natAbs < 2 ^ n := by
  have e := Int.emod_add_mul_ediv x c
  have r0 := Int.emod_nonneg x (show (c : Int) ≠ 0 by omega)
  have r1 := Int.emod_lt_of_pos x (show (0 : Int) < (c : Int) by omega)
  rcases Int.lt_or_le x 0 with hx | hx
  · have h1 : x ≤ x / (c : Int) := by
      have := Int.ediv_le_ediv (a := x) (b := 0) (c := (c : Int)) (by omega) (by omega)
      have h2 : x / (c : Int) < 0 := Int.ediv_neg_of_neg_of_pos hx (by omega)
      have h3 : (c : Int) * (x / (c : Int)) ≤ x / (c : Int) := by
        have := Int.mul_le_mul_of_nonpos_right (show (1 : Int) ≤ (c : Int) by omega) (Int.le_of_lt h2)
        rw [Int.one_mul] at this
        exact this
      have h4 : x ≤ (c : Int) * (x / (c : Int)) + (c : Int) := by omega
      exact Int.le_of_lt_add_one (by
        have : (c : Int) * (x / (c : Int)) ≥ x - (c : Int) + 1 := by omega
        have h5 : ((c : Int) - 1) * (x / (c : Int) + 1) ≤ 0 := Int.mul_nonpos_of_nonneg_of_nonpos (by omega) (by omega)
        have h6 : ((c : Int) - 1) * (x / (c : Int) + 1) = (c : Int) * (x / (c : Int)) + (c : Int) - x / (c : Int) - 1 := by grind
        omega)
    have h2 : x / (c : Int) < 0 := Int.ediv_neg_of_neg_of_pos hx (by omega)
    omega
  · have h1 := Int.ediv_le_self (c : Int) hx
    have h2 := Int.ediv_nonneg hx (show (0 : Int) ≤ (c : Int) by omega)
    omega
end Num

set_option Elab.async false
set_option linter.all false
set_option maxRecDepth 100000
set_option maxHeartbeats 4000000
namespace Toy
open PySem L2 Num
local macro_rules | `(tactic| walk_at "hp") => `(tactic| first
  | assumption
  | exact upd_same
  | exact upd_keep (by walk_at "hp") (by assumption)
  | (rw [upd_ne (by first | assumption | exact Ne.symm (by assumption))]; walk_at "hp")
  | exact Same.get (by assumption) (by walk_at "hp"))
local macro_rules | `(tactic| walk_at "side") => `(tactic| first
  | exact mulOk_small (by omega) (by omega)
  | exact mulOk_smallR (by omega) (by omega)
  | exact cdivP_small (by omega) (by omega)
  | exact cpow_small (by decide) (by decide) (by decide)
  | (show (0 : Int) < _; omega)
  | (with_reducible show _ ≤ sizeLine; exact small_len (by simp only [List.length_cons, List.length_nil]; omega)))
local macro_rules | `(tactic| walk_at "rd1") => `(tactic| first
  | refine ⟨_, rfl, ?_⟩
  | refine ⟨_, _, rfl, rfl, ?_⟩
  | refine ⟨rfl, ?_⟩
  | refine ⟨_, _, rfl, ?_⟩
  | refine ⟨_, _, rfl, SqT.of (by walk_at "hp"), rfl, ?_⟩
  | refine ⟨_, _, _, _, rfl, rfl, SqL.of (by walk_at "hp"), (by assumption), ?_⟩
  | refine ⟨_, _, _, _, rfl, rfl, SqT.of (by walk_at "hp"), (by assumption), ?_⟩
  | (refine ⟨?sidegoal, ?_⟩; (case sidegoal => walk_at "side")))
local macro_rules | `(tactic| walk_at "rd") => `(tactic| repeat walk_at "rd1")

set_option genInjectivity false
set_option genSizeOf false
noncomputable def top (i : Nat) : Stmt := PySem.Challenge.pw_paperwright_k32_whole_rows.main.body.getD i (.Pass ⟨0, 0, 0, 0⟩)
noncomputable abbrev s_gcd : Stmt := top 3
noncomputable abbrev s_fraction : Stmt := top 19
noncomputable abbrev s_cleared : Stmt := top 21
noncomputable abbrev s_scaled : Stmt := top 22
noncomputable abbrev s_shortened : Stmt := top 23
noncomputable abbrev s_primitive : Stmt := top 25
noncomputable abbrev s_whole_row : Stmt := top 27
noncomputable abbrev s_things : Stmt := top 29
noncomputable abbrev s_cell : Stmt := top 30
noncomputable abbrev s_whole : Stmt := top 31
noncomputable abbrev s_divisor : Stmt := top 32
noncomputable abbrev s_lowest : Stmt := top 33
noncomputable abbrev s_is_fraction : Stmt := top 34
noncomputable abbrev s_is_whole_row : Stmt := top 35
noncomputable abbrev s_drawn_row : Stmt := top 36
noncomputable abbrev s_asked : Stmt := top 37
noncomputable abbrev s_refused : Stmt := top 38
noncomputable abbrev s_right : Stmt := top 39
noncomputable abbrev s_law : Stmt := top 40
theorem sc_gcd : FnScope ["one", "other"] ["one", "other"] (defScope s_gcd) := ⟨rfl, rfl, rfl, by decide +kernel, rfl, by decide +kernel, by decide +kernel⟩
theorem sc_fraction : FnScope ["top", "bottom", "divisor"] ["top", "bottom"] (defScope s_fraction) := ⟨rfl, rfl, rfl, by decide +kernel, rfl, by decide +kernel, by decide +kernel⟩
theorem sc_cleared : FnScope ["row", "bottom", "number", "part"] ["row"] (defScope s_cleared) := ⟨rfl, rfl, rfl, by decide +kernel, rfl, by decide +kernel, by decide +kernel⟩
theorem sc_scaled : FnScope ["numbers", "by"] ["numbers", "by"] (defScope s_scaled) := ⟨rfl, rfl, rfl, by decide +kernel, rfl, by decide +kernel, by decide +kernel⟩
theorem sc_shortened : FnScope ["numbers", "content", "number"] ["numbers"] (defScope s_shortened) := ⟨rfl, rfl, rfl, by decide +kernel, rfl, by decide +kernel, by decide +kernel⟩
theorem sc_primitive : FnScope ["row", "numbers", "bottom", "content"] ["row"] (defScope s_primitive) := ⟨rfl, rfl, rfl, by decide +kernel, rfl, by decide +kernel, by decide +kernel⟩
theorem sc_whole_row : FnScope ["row", "numbers", "bottom", "content"] ["row"] (defScope s_whole_row) := ⟨rfl, rfl, rfl, by decide +kernel, rfl, by decide +kernel, by decide +kernel⟩
theorem sc_things : FnScope ["_law_cell_here", "_law_many", "_law_one", "_law_other", "_law_found", "_law_k", "_law_number"] ["_law_cell_here", "_law_many"] (defScope s_things) := ⟨rfl, rfl, rfl, by decide +kernel, rfl, by decide +kernel, by decide +kernel⟩
theorem sc_cell : FnScope ["_law_script", "_law_k"] ["_law_script", "_law_k"] (defScope s_cell) := ⟨rfl, rfl, rfl, by decide +kernel, rfl, by decide +kernel, by decide +kernel⟩
theorem sc_whole : FnScope ["_law_found"] ["_law_found"] (defScope s_whole) := ⟨rfl, rfl, rfl, by decide +kernel, rfl, by decide +kernel, by decide +kernel⟩
theorem sc_divisor : FnScope ["_law_one", "_law_other"] ["_law_one", "_law_other"] (defScope s_divisor) := ⟨rfl, rfl, rfl, by decide +kernel, rfl, by decide +kernel, by decide +kernel⟩
theorem sc_lowest : FnScope ["_law_top", "_law_bottom", "_law_share"] ["_law_top", "_law_bottom"] (defScope s_lowest) := ⟨rfl, rfl, rfl, by decide +kernel, rfl, by decide +kernel, by decide +kernel⟩
theorem sc_is_fraction : FnScope ["_law_found"] ["_law_found"] (defScope s_is_fraction) := ⟨rfl, rfl, rfl, by decide +kernel, rfl, by decide +kernel, by decide +kernel⟩
theorem sc_is_whole_row : FnScope ["_law_found", "_law_share", "_law_number"] ["_law_found"] (defScope s_is_whole_row) := ⟨rfl, rfl, rfl, by decide +kernel, rfl, by decide +kernel, by decide +kernel⟩
theorem sc_drawn_row : FnScope ["_law_cell_here", "_law_xs", "_law_top", "_law_bottom", "_law_by", "_law_found", "_law_k", "_law_most", "_law_wide", "_law_number", "_law_low"] ["_law_cell_here"] (defScope s_drawn_row) := ⟨rfl, rfl, rfl, by decide +kernel, rfl, by decide +kernel, by decide +kernel⟩
theorem sc_asked : FnScope ["_law_row", "_law_found", "_law_caught", "e"] ["_law_row"] (defScope s_asked) := ⟨rfl, rfl, rfl, by decide +kernel, rfl, by decide +kernel, by decide +kernel⟩
theorem sc_refused : FnScope ["_law_caught"] ["_law_caught"] (defScope s_refused) := ⟨rfl, rfl, rfl, by decide +kernel, rfl, by decide +kernel, by decide +kernel⟩
theorem sc_right : FnScope ["_law_row", "_law_handed", "_law_found", "_law_caught"] ["_law_row"] (defScope s_right) := ⟨rfl, rfl, rfl, by decide +kernel, rfl, by decide +kernel, by decide +kernel⟩
theorem sc_law : FnScope ["_law_script", "_law_cell_here"] ["_law_script"] (defScope s_law) := ⟨rfl, rfl, rfl, by decide +kernel, rfl, by decide +kernel, by decide +kernel⟩
structure Tx (K : PySem.W.Frag) (mg : Str → Option Value) where
  f_gcd : Addr
  fd_gcd : FuncData
  F_gcd : Fun K "gcd" "gcd" s_gcd f_gcd fd_gcd
  m_gcd : mg "gcd" = some (.ref f_gcd)
  b_gcd : Binds K fd_gcd ["one", "other"] []
  f_fraction : Addr
  fd_fraction : FuncData
  F_fraction : Fun K "fraction" "fraction" s_fraction f_fraction fd_fraction
  m_fraction : mg "fraction" = some (.ref f_fraction)
  b_fraction : Binds K fd_fraction ["top", "bottom"] []
  f_cleared : Addr
  fd_cleared : FuncData
  F_cleared : Fun K "cleared" "cleared" s_cleared f_cleared fd_cleared
  m_cleared : mg "cleared" = some (.ref f_cleared)
  b_cleared : Binds K fd_cleared ["row"] []
  f_scaled : Addr
  fd_scaled : FuncData
  F_scaled : Fun K "scaled" "scaled" s_scaled f_scaled fd_scaled
  m_scaled : mg "scaled" = some (.ref f_scaled)
  b_scaled : Binds K fd_scaled ["numbers", "by"] []
  f_shortened : Addr
  fd_shortened : FuncData
  F_shortened : Fun K "shortened" "shortened" s_shortened f_shortened fd_shortened
  m_shortened : mg "shortened" = some (.ref f_shortened)
  b_shortened : Binds K fd_shortened ["numbers"] []
  f_primitive : Addr
  fd_primitive : FuncData
  F_primitive : Fun K "primitive" "primitive" s_primitive f_primitive fd_primitive
  m_primitive : mg "primitive" = some (.ref f_primitive)
  b_primitive : Binds K fd_primitive ["row"] []
  f_whole_row : Addr
  fd_whole_row : FuncData
  F_whole_row : Fun K "whole_row" "whole_row" s_whole_row f_whole_row fd_whole_row
  m_whole_row : mg "whole_row" = some (.ref f_whole_row)
  b_whole_row : Binds K fd_whole_row ["row"] []
  f_things : Addr
  fd_things : FuncData
  F_things : Fun K "_law_things" "_law_things" s_things f_things fd_things
  m_things : mg "_law_things" = some (.ref f_things)
  b_things : Binds K fd_things ["_law_cell_here", "_law_many"] []
  f_cell : Addr
  fd_cell : FuncData
  F_cell : Fun K "_law_cell" "_law_cell" s_cell f_cell fd_cell
  m_cell : mg "_law_cell" = some (.ref f_cell)
  b_cell : Binds K fd_cell ["_law_script", "_law_k"] []
  f_whole : Addr
  fd_whole : FuncData
  F_whole : Fun K "_law_whole" "_law_whole" s_whole f_whole fd_whole
  m_whole : mg "_law_whole" = some (.ref f_whole)
  b_whole : Binds K fd_whole ["_law_found"] []
  f_divisor : Addr
  fd_divisor : FuncData
  F_divisor : Fun K "_law_divisor" "_law_divisor" s_divisor f_divisor fd_divisor
  m_divisor : mg "_law_divisor" = some (.ref f_divisor)
  b_divisor : Binds K fd_divisor ["_law_one", "_law_other"] []
  f_lowest : Addr
  fd_lowest : FuncData
  F_lowest : Fun K "_law_lowest" "_law_lowest" s_lowest f_lowest fd_lowest
  m_lowest : mg "_law_lowest" = some (.ref f_lowest)
  b_lowest : Binds K fd_lowest ["_law_top", "_law_bottom"] []
  f_is_fraction : Addr
  fd_is_fraction : FuncData
  F_is_fraction : Fun K "_law_is_fraction" "_law_is_fraction" s_is_fraction f_is_fraction fd_is_fraction
  m_is_fraction : mg "_law_is_fraction" = some (.ref f_is_fraction)
  b_is_fraction : Binds K fd_is_fraction ["_law_found"] []
  f_is_whole_row : Addr
  fd_is_whole_row : FuncData
  F_is_whole_row : Fun K "_law_is_whole_row" "_law_is_whole_row" s_is_whole_row f_is_whole_row fd_is_whole_row
  m_is_whole_row : mg "_law_is_whole_row" = some (.ref f_is_whole_row)
  b_is_whole_row : Binds K fd_is_whole_row ["_law_found"] []
  f_drawn_row : Addr
  fd_drawn_row : FuncData
  F_drawn_row : Fun K "_law_drawn_row" "_law_drawn_row" s_drawn_row f_drawn_row fd_drawn_row
  m_drawn_row : mg "_law_drawn_row" = some (.ref f_drawn_row)
  b_drawn_row : Binds K fd_drawn_row ["_law_cell_here"] []
  f_asked : Addr
  fd_asked : FuncData
  F_asked : Fun K "_law_asked" "_law_asked" s_asked f_asked fd_asked
  m_asked : mg "_law_asked" = some (.ref f_asked)
  b_asked : Binds K fd_asked ["_law_row"] []
  f_refused : Addr
  fd_refused : FuncData
  F_refused : Fun K "_law_refused" "_law_refused" s_refused f_refused fd_refused
  m_refused : mg "_law_refused" = some (.ref f_refused)
  b_refused : Binds K fd_refused ["_law_caught"] []
  f_right : Addr
  fd_right : FuncData
  F_right : Fun K "_law_right" "_law_right" s_right f_right fd_right
  m_right : mg "_law_right" = some (.ref f_right)
  b_right : Binds K fd_right ["_law_row"] []
  f_law : Addr
  fd_law : FuncData
  F_law : Fun K "law" "law" s_law f_law fd_law
  m_law : mg "law" = some (.ref f_law)
  b_law : Binds K fd_law ["_law_script"] []
  z_ValueError : mg "ValueError" = none
  z_abs : mg "abs" = none
  z_all : mg "all" = none
  z_bool : mg "bool" = none
  z_int : mg "int" = none
  z_isinstance : mg "isinstance" = none
  z_len : mg "len" = none
  z_list : mg "list" = none
  z_range : mg "range" = none
  z_tuple : mg "tuple" = none
  g_LONG : ∃ u, mg "LONG" = some u ∧ RelV (.int 6000) u
  k_ib : PySem.W.kitOne K (.type "int") (.type "bool") = some false
  C_HouseError : Addr
  c_HouseError : mg "HouseError" = some (.ref C_HouseError)
  e_HouseError : Err K C_HouseError
  C_NoNumber : Addr
  c_NoNumber : mg "NoNumber" = some (.ref C_NoNumber)
  e_NoNumber : Err K C_NoNumber
  C_NoRow : Addr
  c_NoRow : mg "NoRow" = some (.ref C_NoRow)
  e_NoRow : Err K C_NoRow
  C_NoValue : Addr
  c_NoValue : mg "NoValue" = some (.ref C_NoValue)
  C_NoText : Addr
  c_NoText : mg "NoText" = some (.ref C_NoText)
  C_NoRoot : Addr
  c_NoRoot : mg "NoRoot" = some (.ref C_NoRoot)
  C_TooFar : Addr
  c_TooFar : mg "TooFar" = some (.ref C_TooFar)
  C_NoLine : Addr
  c_NoLine : mg "NoLine" = some (.ref C_NoLine)
  k_NoRow_NoNumber : PySem.W.kitOne K (.ref C_NoRow) (.ref C_NoNumber) = some false
  k_NoRow_NoRow : PySem.W.kitOne K (.ref C_NoRow) (.ref C_NoRow) = some true
  k_NoRow_NoValue : PySem.W.kitOne K (.ref C_NoRow) (.ref C_NoValue) = some false
  k_NoRow_NoText : PySem.W.kitOne K (.ref C_NoRow) (.ref C_NoText) = some false
  k_NoRow_NoRoot : PySem.W.kitOne K (.ref C_NoRow) (.ref C_NoRoot) = some false
  k_NoRow_TooFar : PySem.W.kitOne K (.ref C_NoRow) (.ref C_TooFar) = some false
  k_NoRow_NoLine : PySem.W.kitOne K (.ref C_NoRow) (.ref C_NoLine) = some false
  k_NoRow_ValueError : PySem.W.kitOne K (.ref C_NoRow) (.type "ValueError") = some true
  u_NoRow_HouseError : PySem.W.mroIn K C_NoRow (.ref C_HouseError) = some true
noncomputable def spLaw (K : PySem.W.Frag) : Sp := fun vs H Q _ => ∃ (a : Addr) (ns : List Int), vs = [.ref a] ∧ SqL K H a (ns.map V.int) ∧ ns.length ≤ 63 ∧ ∀ H', Q (.bl true) H'
theorem mulOk_pow {x y : Int} {n m : Nat} (h : x.natAbs < 2 ^ n) (h2 : y.natAbs < 2 ^ m) (hs : n + m ≤ 134217728) : IntMulOk x y := mulOk_bits (Nat.le_trans (Nat.add_le_add (bits_le h) (bits_le h2)) hs)
theorem log2_pow {y : Int} {n : Nat} (h : y.natAbs < 2 ^ n) (hn : n ≤ 8000) : y.natAbs.log2 < 9000 := by
  rcases Nat.eq_zero_or_pos y.natAbs with e | e
  · rw [e]; decide
  · have := (Nat.log2_lt (Nat.ne_of_gt e)).mpr h
    omega
theorem nat_lt {x : Nat} {n m : Nat} (h : x < 2 ^ n) (hm : n ≤ m) : x < 2 ^ m := Nat.lt_of_lt_of_le h (Nat.pow_le_pow_right (by decide) hm)

section
variable {P : Program} {w : World} {K : PySem.W.Frag} {mg : Str → Option Value} {base : Heap}
noncomputable def spDrawn : Sp := fun vs H Q _ => ∃ (c m : Int), vs = [.int c, .int m] ∧ 0 ≤ m ∧ m ≤ 1000 ∧ ∀ (p : Addr) (ns : List Int) (H' : Hp), Same H H' → H p = none → H' p = some (.lst (ns.map V.int)) → (ns.length : Int) = m → (∀ n ∈ ns, 0 ≤ n ∧ n < 1000000007) → Q (.ref p) H'
theorem ok_things (T : Tx K mg) : FnOk P w K mg base CX0 1 T.f_things T.fd_things ["_law_cell_here", "_law_many"] spDrawn := by
  refine T.F_things.ok sc_things (fun vs H Q E h => ?_) (fun cdv A outer s H vs Q E hr h => ?_)
  · obtain ⟨c, m, rfl, _⟩ := h
    rfl
  obtain ⟨c, m, rfl, m0, m1, q⟩ := h
  refine ⟨_, (@pss_cons _ _ _ _ _ (ps_set (i := 2) sc_things.nd rfl (by first | exact Or.inl rfl | exact Or.inr rfl) (pe_op op_add (pe_op op_mod (pv 0) pe_int) pe_int))
      (@pss_cons _ _ _ _ _ (ps_set (i := 3) sc_things.nd rfl (by first | exact Or.inl rfl | exact Or.inr rfl) (pe_op op_add (pe_op op_mod (pe_op op_fdivP (pv 0) pe_int) pe_int) pe_int))
      (@pss_cons _ _ _ _ _ (ps_set (i := 4) sc_things.nd rfl (by first | exact Or.inl rfl | exact Or.inr rfl) (pe_lst pa_nil))
      (@pss_cons _ _ _ _ _ (ps_for PassesOwn.never rfl (pi_range1 rfl T.z_range (pa_cons (pv 1) pa_nil)) (pg_name (i := 5) sc_things.nd rfl (by first | exact Or.inl rfl | exact Or.inr rfl)) (@pss_cons _ _ _ _ _ (ps_set (i := 2) sc_things.nd rfl (by first | exact Or.inl rfl | exact Or.inr rfl) (pe_op op_mod (pe_op op_add (pe_op op_add (pe_op op_mulG (pv 2) (pv 3)) (pe_op op_mulG pe_int (pv 5))) pe_int) pe_int))
      (@pss_cons _ _ _ _ _ (ps_set (i := 3) sc_things.nd rfl (by first | exact Or.inl rfl | exact Or.inr rfl) (pe_op op_mod (pe_op op_add (pe_op op_add (pe_op op_mulG (pv 3) pe_int) (pv 2)) (pv 5)) pe_int))
      (@pss_cons _ _ _ _ _ (ps_set (i := 6) sc_things.nd rfl (by first | exact Or.inl rfl | exact Or.inr rfl) (pe_op op_mod (pe_op op_add (pe_op op_mulG pe_int (pv 2)) (pv 3)) pe_int))
      (pss_cut (ps_if (pt_cmpR op_ge (pv 0) (pe_powc (v := 1000000000000000000) (by decide) (cpow_small (by decide) (by decide) (by decide))) (nomark _)) (@pss_cons _ _ _ _ _ (ps_set (i := 6) sc_things.nd rfl (by first | exact Or.inl rfl | exact Or.inr rfl) (pe_op op_mod (pv 0) (pe_powc (v := 1000000000) (by decide) (cpow_small (by decide) (by decide) (by decide)))))
      (pss_one (ps_set (i := 0) sc_things.nd rfl (by first | exact Or.inl rfl | exact Or.inr rfl) (pe_op op_fdivP (pv 0) (pe_powc (v := 1000000000) (by decide) (cpow_small (by decide) (by decide) (by decide))))))) pss_nil)
      (pss_one (ps_expr (pe_bm PySem.F.plainAttrs_list PySem.F.slot_list_append PySem.F.type_list_append mt_append (pv 4) (pa_cons (pv 6) pa_nil)))))))))
      (pss_one (ps_ret (pv 4))))))), ?_⟩
  walk_at "rd"
  intro p hp
  refine ⟨_, rfl, m, rfl, by omega, by omega, for_range (n := m.toNat) (fun i σ H2 => ∃ (c o t : Int) (ns : List Int) (v6 v7 : Option V), (0 ≤ o ∧ o < 999999940 ∧ 0 ≤ t ∧ t < 2147483400 ∧ ns.length = i ∧ (∀ n ∈ ns, 0 ≤ n ∧ n < 1000000007)) ∧ Same H H2 ∧ H2 p = some (.lst (ns.map V.int)) ∧
    σ = [some (.int c), some (.int m), some (.int o), some (.int t), some (.ref p), v6, v7]) ?_ ?_ ?_⟩
  · refine ⟨c, _, _, [], none, none, ⟨?_, ?_, ?_, ?_, rfl, by simp⟩, same_new hp _, upd_same, rfl⟩
    all_goals omega
  · rintro i σ H2 hi ⟨c, o, t, ns, v6, v7, ⟨o0, o1, t0, t1, hl, hb⟩, sm, hH, rfl⟩
    walk_at "rd"
    refine ⟨fun σ' H' => ∃ (c n : Int) (o t k : Int), (0 ≤ n ∧ n < 1000000007 ∧ 0 ≤ o ∧ o < 999999940 ∧ 0 ≤ t ∧ t < 2147483400) ∧ σ' = [some (.int c), some (.int m), some (.int o), some (.int t), some (.ref p), some (.int k), some (.int n)] ∧ H' = H2, ?_, ?_⟩
    · walk_at "rd"
      refine itd (fun h => ?_) (fun h => ?_)
      · walk_at "rd"
        refine ⟨_, _, _, _, _, ⟨?_, ?_, ?_, ?_, ?_, ?_⟩, rfl, rfl⟩
        all_goals omega
      · refine ⟨_, _, _, _, _, ⟨?_, ?_, ?_, ?_, ?_, ?_⟩, rfl, rfl⟩
        all_goals omega
    · rintro σ' H3 ⟨c, n, o, t, k, ⟨n0, n1, o0, o1, t0, t1⟩, rfl, rfl⟩
      refine ⟨_, rfl, .inl ⟨rfl, _, SqL.of hH⟩, _, rfl, p, _, _, rfl, rfl, hH, ?_, ?_⟩
      · rw [List.length_map]
        exact small1000 (by omega)
      · refine ⟨c, o, t, ns ++ [n], _, _, ⟨o0, o1, t0, t1, by simp [hl], ?_⟩, same_upd sm hp _, by rw [upd_same, List.map_append]; rfl, rfl⟩
        intro x hx
        rcases List.mem_append.mp hx with h | h
        · exact hb x h
        · rw [List.mem_singleton] at h
          subst h
          exact ⟨n0, n1⟩
  · rintro σ H2 ⟨c, o, t, ns, v6, v7, ⟨o0, o1, t0, t1, hl, hb⟩, sm, hH, rfl⟩
    walk_at "rd"
    exact q p ns H2 sm hp hH (by omega) hb
noncomputable def spCell (K : PySem.W.Frag) : Sp := fun vs H Q _ => ∃ (a : Addr) (ns : List Int) (p : Int), vs = [.ref a, .int p] ∧ SqL K H a (ns.map V.int) ∧ 0 ≤ p ∧ ∀ (z : Int), Q (.int z) H
theorem ok_cell (T : Tx K mg) : FnOk P w K mg base CX0 1 T.f_cell T.fd_cell ["_law_script", "_law_k"] (spCell K) := by
  refine T.F_cell.ok sc_cell (fun vs H Q E h => ?_) (fun cdv A outer s H vs Q E hr h => ?_)
  · obtain ⟨a, ns, p, rfl, _⟩ := h
    rfl
  obtain ⟨a, ns, p, rfl, hS, hp, q⟩ := h
  refine ⟨_, (@pss_cons _ _ _ _ _ (ps_if (pt_cmpR op_lt (pv 1) (pe_callB call_len_seq (by rfl) T.z_len PySem.boot_len (pa_cons (pv 0) pa_nil)) (nomark _)) (pss_one (ps_ret (pe_ix ix_list (pv 0) (pv 1) (fun _ _ => rfl)))) pss_nil)
      (pss_one (ps_ret pe_int))), ?_⟩
  refine ⟨_, rfl, _, rfl, a, _, rfl, .inl hS, _, _, rfl, rfl, _, rfl, ?_⟩
  refine itd (fun h => ?_) (fun h => ?_)
  · rw [List.length_map] at h
    exact ⟨_, rfl, _, rfl, a, _, _, _, rfl, rfl, hS, at_ints hp h, q _⟩
  · exact q _
end

section
variable {P : Program} {w : World} {K : PySem.W.Frag} {mg : Str → Option Value} {base : Heap}
noncomputable abbrev Frc (H : Hp) (p : Addr) (r : Rat) : Prop := H p = some (.tup [.int r.num, .int r.den])
noncomputable def spGcd : Sp := fun vs H Q _ => ∃ (a b : Int) (n : Nat), vs = [.int a, .int b] ∧ b.natAbs < 2 ^ n ∧ n ≤ 6000 ∧ Q (.int (Int.gcd a b : Nat)) H
theorem ok_gcd (T : Tx K mg) : FnOk P w K mg base CX0 1 T.f_gcd T.fd_gcd ["one", "other"] spGcd := by
  refine T.F_gcd.ok sc_gcd (fun vs H Q E h => ?_) (fun cdv A outer s H vs Q E hr h => ?_)
  · obtain ⟨a, b, n, rfl, _⟩ := h
    rfl
  obtain ⟨a, b, n, rfl, hb, hn, q⟩ := h
  refine ⟨_, (@pss_cons _ _ _ _ _ (ps_par (i := 0) (j := 1) rfl sc_gcd.nd rfl rfl (by decide) rfl rfl (pa_cons (pe_callB call_abs (by rfl) T.z_abs (by rfl) (pa_cons (pv 0) pa_nil)) (pa_cons (pe_callB call_abs (by rfl) T.z_abs (by rfl) (pa_cons (pv 1) pa_nil)) pa_nil)) rfl)
      (@pss_cons _ _ _ _ _ (ps_while PassesOwn.never (pt_cmpR op_gt (pe_bm0 PySem.F.plainAttrs_int PySem.F.slot_int_bit_length PySem.F.type_int_bit_length mt_bits (pv 1)) (pe_globx rfl T.g_LONG) (nomark _)) pss_never)
      (@pss_cons _ _ _ _ _ (ps_while PassesOwn.never (pt_cmpR op_ne (pv 1) pe_int (nomark _)) (pss_one (ps_par (i := 0) (j := 1) rfl sc_gcd.nd rfl rfl (by decide) rfl rfl (pa_cons (pv 1) (pa_cons (pe_op op_mod (pv 0) (pv 1)) pa_nil)) rfl)))
      (pss_one (ps_ret (pv 0)))))), ?_⟩
  walk_at "rd"
  have ea : (if a < 0 then -a else a) = (a.natAbs : Int) := by split <;> omega
  have eb : (if b < 0 then -b else b) = (b.natAbs : Int) := by split <;> omega
  rw [ea, eb]
  have hbb : Builtin.Int.intBits ((b.natAbs : Nat) : Int) ≤ 6000 := Nat.le_trans (bits_le (by rw [Int.natAbs_natCast]; exact hb)) hn
  refine ⟨fun m σ H' => H' = H ∧ σ = [some (.int (a.natAbs : Int)), some (.int (b.natAbs : Int))], ⟨0, rfl, rfl⟩, ?_⟩
  rintro m σ H' ⟨rfl, rfl⟩
  walk_at "rd"
  refine itd (fun h => absurd h (by omega)) (fun _ => ?_)
  refine ⟨fun m σ H2 => ∃ x y : Int, (0 ≤ x ∧ 0 ≤ y ∧ Int.gcd x y = Int.gcd a b ∧ m = y.natAbs) ∧ H2 = H' ∧ σ = [some (.int x), some (.int y)], ⟨_, a.natAbs, b.natAbs, ⟨by omega, by omega, by unfold Int.gcd; rw [Int.natAbs_natCast, Int.natAbs_natCast], rfl⟩, rfl, rfl⟩, ?_⟩
  rintro m σ H2 ⟨x, y, ⟨x0, y0, hg, rfl⟩, rfl, rfl⟩
  walk_at "rd"
  refine itn (fun h => ?_) (fun h => ?_)
  · have hy : y ≠ 0 := fun z => h (congrArg V.int z)
    refine ⟨fun σ' H3 => ∃ m', m' < y.natAbs ∧ ∃ x y : Int, (0 ≤ x ∧ 0 ≤ y ∧ Int.gcd x y = Int.gcd a b ∧ m' = y.natAbs) ∧ H3 = H2 ∧ σ' = [some (.int x), some (.int y)], fun _ _ z => z, ?_⟩
    walk_at "rd"
    have e := fmod_eq x y
    rw [Int.fmod_eq_emod_of_nonneg x y0] at e
    have e2 := gcd_step x y (x.fdiv y)
    have e3 := fl_abs x y hy
    rw [← e] at e2 e3
    exact ⟨_, e3, y, x % y, ⟨y0, Int.emod_nonneg _ hy, by rw [e2, hg], rfl⟩, rfl, rfl⟩
  · have hy : y = 0 := V.int.inj h
    subst hy
    rw [Int.gcd_zero_right] at hg
    walk_at "rd"
    have e : x = ((Int.gcd a b : Nat) : Int) := by omega
    rw [← e] at q
    exact q
theorem log2_bd {y : Int} {n : Nat} (h : y.natAbs < 2 ^ n) (hn : n ≤ 8000) : y.natAbs.log2 < 9000 := log2_pow h hn
end

section
variable {P : Program} {w : World} {K : PySem.W.Frag} {mg : Str → Option Value} {base : Heap}
noncomputable def spLGcd : Sp := fun vs H Q _ => ∃ (a b : Int), vs = [.int a, .int b] ∧ Q (.int (Int.gcd a b : Nat)) H
theorem ok_divisor (T : Tx K mg) : FnOk P w K mg base CX0 1 T.f_divisor T.fd_divisor ["_law_one", "_law_other"] spLGcd := by
  refine T.F_divisor.ok sc_divisor (fun vs H Q E h => ?_) (fun cdv A outer s H vs Q E hr h => ?_)
  · obtain ⟨a, b, rfl, _⟩ := h
    rfl
  obtain ⟨a, b, rfl, q⟩ := h
  refine ⟨_, (@pss_cons _ _ _ _ _ (ps_while PassesOwn.never (pt_cmpR op_ne (pv 1) pe_int (nomark _)) (pss_one (ps_par (i := 0) (j := 1) rfl sc_divisor.nd rfl rfl (by decide) rfl rfl (pa_cons (pv 1) (pa_cons (pe_op op_modN (pv 0) (pv 1)) pa_nil)) rfl)))
      (pss_one (ps_ret (pe_callB call_abs (by rfl) T.z_abs (by rfl) (pa_cons (pv 0) pa_nil))))), ?_⟩
  refine ⟨fun m σ H' => ∃ x y : Int, (Int.gcd x y = Int.gcd a b ∧ m = y.natAbs) ∧ H' = H ∧ σ = [some (.int x), some (.int y)], ⟨_, a, b, ⟨rfl, rfl⟩, rfl, rfl⟩, ?_⟩
  rintro m σ H' ⟨x, y, ⟨hg, rfl⟩, rfl, rfl⟩
  walk_at "rd"
  refine itn (fun h => ?_) (fun h => ?_)
  · have hy : y ≠ 0 := fun z => h (congrArg V.int z)
    refine ⟨fun σ' H2 => ∃ m', m' < y.natAbs ∧ ∃ x y : Int, (Int.gcd x y = Int.gcd a b ∧ m' = y.natAbs) ∧ H2 = H' ∧ σ' = [some (.int x), some (.int y)], fun _ _ z => z, ?_⟩
    walk_at "rd"
    refine ⟨hy, ?_⟩
    walk_at "rd"
    have e := fmod_eq x y
    have e2 := gcd_step x y (x.fdiv y)
    have e3 := fl_abs x y hy
    rw [← e] at e2 e3
    exact ⟨_, e3, y, x.fmod y, ⟨by rw [e2, hg], rfl⟩, rfl, rfl⟩
  · have hy : y = 0 := V.int.inj h
    subst hy
    walk_at "rd"
    have e : (if x < 0 then -x else x) = ((Int.gcd a b : Nat) : Int) := by
      rw [← hg, Int.gcd_zero_right]
      split <;> omega
    rw [e]
    exact q
@[irreducible] noncomputable def spLow : Sp := fun vs H Q _ => ∃ (t b : Int) (n : Nat), vs = [.int t, .int b] ∧ (n ≤ 8000 ∧ 0 < b ∧ b.natAbs < 2 ^ n) ∧ ∀ (p : Addr) (H' : Hp), Same H H' → H p = none → Frc H' p (Rat.divInt t b) → Q (.ref p) H'
theorem spLow_mk  {vs : List V} {H : Hp} {Q : VK} {E : XK} (h : ∃ (t b : Int) (n : Nat), vs = [.int t, .int b] ∧ (n ≤ 8000 ∧ 0 < b ∧ b.natAbs < 2 ^ n) ∧ ∀ (p : Addr) (H' : Hp), Same H H' → H p = none → Frc H' p (Rat.divInt t b) → Q (.ref p) H') : spLow  vs H Q E := by
  unfold spLow
  exact h
theorem ok_lowest (T : Tx K mg) : FnOk P w K mg base CX0 2 T.f_lowest T.fd_lowest ["_law_top", "_law_bottom"] spLow := by
  refine T.F_lowest.ok sc_lowest (fun vs H Q E h => ?_) (fun cdv A outer s H vs Q E hr h => ?_)
  · unfold spLow at h
    obtain ⟨t, b, n, rfl, _⟩ := h
    rfl
  unfold spLow at h
  obtain ⟨t, b, n, rfl, ⟨hn, hb, hbn⟩, q⟩ := h
  refine ⟨_, (@pss_cons _ _ _ _ _ (ps_set (i := 2) sc_lowest.nd rfl (by first | exact Or.inl rfl | exact Or.inr rfl) (pe_call (ok_divisor T) (hr.mono (by omega)) rfl T.m_divisor T.F_divisor.kp T.b_divisor .nil pass0 (pa_cons (pv 0) (pa_cons (pv 1) pa_nil))))
      (pss_one (ps_ret (pe_tup (pa_cons (pe_op op_fdivG (pv 0) (pv 2)) (pa_cons (pe_op op_fdivG (pv 1) (pv 2)) pa_nil)))))), ?_⟩
  obtain ⟨f1, f2, f3⟩ := frac_out t b (by omega)
  have lg : ((Int.gcd t b : Nat) : Int).natAbs < 2 ^ n := by
    have : ((Int.gcd t b : Nat) : Int) ≤ b.natAbs := Int.le_of_dvd (by omega) (by rw [Int.dvd_natAbs]; exact Int.gcd_dvd_right ..)
    omega
  rw [if_neg (by omega)] at f1 f2 f3
  walk_at "rd"
  generalize ((Int.gcd t b : Nat) : Int) = g at *
  refine ⟨⟨f1, log2_bd lg (by omega)⟩, ?_⟩
  walk_at "rd"
  refine ⟨⟨f1, log2_bd lg (by omega)⟩, ?_⟩
  walk_at "rd"
  intro p hp
  refine q p _ (same_new hp _) hp ?_
  show upd _ _ _ _ = _
  rw [upd_same, f2, f3]
theorem bd_div {t b : Int} {n : Nat} (hb : b ≠ 0) (h1 : t.natAbs < 2 ^ n) (h2 : b.natAbs < 2 ^ n) : Bd n (Rat.divInt t b) := ⟨Nat.lt_of_le_of_lt (frac_bd t b hb).1 h1, Nat.lt_of_le_of_lt (frac_bd t b hb).2 h2⟩
end

section
variable {P : Program} {w : World} {K : PySem.W.Frag} {mg : Str → Option Value} {base : Heap}
@[irreducible] noncomputable def spFrac (T : Tx K mg) : Sp := fun vs H Q E => ∃ (t b : Int) (n : Nat), vs = [.int t, .int b] ∧ (b.natAbs < 2 ^ n ∧ n ≤ 6000) ∧ ((b = 0 ∧ E (.ref T.C_NoNumber) none H) ∨ (b ≠ 0 ∧ ∀ (p : Addr) (H' : Hp), Same H H' → Frc H' p (Rat.divInt t b) → Q (.ref p) H'))
theorem ok_fraction (T : Tx K mg) : FnOk P w K mg base (CX1 P w) 2 T.f_fraction T.fd_fraction ["top", "bottom"] (spFrac T) := by
  refine T.F_fraction.okE sc_fraction (fun vs H Q E h => ?_) (fun cdv A outer s H vs Q E hr h => ?_)
  · unfold spFrac at h
    obtain ⟨t, b, n, rfl, _⟩ := h
    rfl
  unfold spFrac at h
  obtain ⟨t, b, n, rfl, ⟨hb, hn⟩, h⟩ := h
  refine ⟨_, (@pss_cons _ _ _ _ _ (ps_if (pt_cmpR op_eq (pv 1) pe_int (nomark _)) (pss_one (ps_raise raiser1 rfl rfl T.c_NoNumber T.e_NoNumber (pa_cons pe_str pa_nil))) pss_nil)
      (@pss_cons _ _ _ _ _ (PS.nox (ps_set (i := 2) sc_fraction.nd rfl (by first | exact Or.inl rfl | exact Or.inr rfl) (pe_call (ok_gcd T) (hr.mono (by omega)) rfl T.m_gcd T.F_gcd.kp T.b_gcd .nil pass0 (pa_cons (pv 0) (pa_cons (pv 1) pa_nil)))))
      (pss_cut (PS.nox (ps_if (pt_cmpR op_lt (pv 1) pe_int (nomark _)) (pss_one (PS.nox (ps_set (i := 2) sc_fraction.nd rfl (by first | exact Or.inl rfl | exact Or.inr rfl) (pe_un un_neg (pv 2))))) pss_nil))
      (pss_one (PS.nox (ps_ret (pe_tup (pa_cons (pe_op op_fdivG (pv 0) (pv 2)) (pa_cons (pe_op op_fdivG (pv 1) (pv 2)) pa_nil))))))))), ?_⟩
  walk_at "rd"
  refine itd (fun hz => ?_) (fun hz => ?_)
  · have hz' : b = 0 := V.int.inj hz
    rcases h with ⟨_, q⟩ | ⟨nz, _⟩
    · exact ⟨small_len (by decide), q⟩
    · exact absurd hz' nz
  have hz' : b ≠ 0 := fun z => hz (congrArg V.int z)
  rcases h with ⟨z, _⟩ | ⟨nz, q⟩
  · exact absurd z hz'
  obtain ⟨f1, f2, f3⟩ := frac_out t b nz
  have lg : ((Int.gcd t b : Nat) : Int).natAbs < 2 ^ n := by
    have : ((Int.gcd t b : Nat) : Int) ≤ b.natAbs := Int.le_of_dvd (by omega) (by rw [Int.dvd_natAbs]; exact Int.gcd_dvd_right ..)
    omega
  refine ⟨_, rfl, _, rfl, _, _, n, rfl, hb, by omega, ?_⟩
  generalize ((Int.gcd t b : Nat) : Int) = g at *
  refine ⟨fun σ' H' => σ' = [some (.int t), some (.int b), some (.int (if b < 0 then -g else g))] ∧ H' = H, ?_, ?_⟩
  · walk_at "rd"
    refine itd (fun h => ?_) (fun h => ?_)
    · walk_at "rd"
      rw [if_pos h]
      exact ⟨rfl, rfl⟩
    · rw [if_neg h]
      exact ⟨rfl, rfl⟩
  rintro σ' H' ⟨rfl, rfl⟩
  have ld : (if b < 0 then -g else g).natAbs < 2 ^ n := by
    split <;> omega
  walk_at "rd"
  refine ⟨⟨f1, log2_bd ld (by omega)⟩, ?_⟩
  walk_at "rd"
  refine ⟨⟨f1, log2_bd ld (by omega)⟩, ?_⟩
  walk_at "rd"
  intro p hp
  refine q p _ (same_new hp _) ?_
  show upd _ _ _ _ = _
  rw [upd_same, f2, f3]
@[irreducible] noncomputable def spFrac0 : Sp := fun vs H Q _ => ∃ (t b : Int) (n : Nat), vs = [.int t, .int b] ∧ (b.natAbs < 2 ^ n ∧ n ≤ 6000) ∧ b ≠ 0 ∧ ∀ (p : Addr) (H' : Hp), Same H H' → Frc H' p (Rat.divInt t b) → Q (.ref p) H'
theorem spFrac0_mk  {vs : List V} {H : Hp} {Q : VK} {E : XK} (h : ∃ (t b : Int) (n : Nat), vs = [.int t, .int b] ∧ (b.natAbs < 2 ^ n ∧ n ≤ 6000) ∧ b ≠ 0 ∧ ∀ (p : Addr) (H' : Hp), Same H H' → Frc H' p (Rat.divInt t b) → Q (.ref p) H') : spFrac0  vs H Q E := by
  unfold spFrac0
  exact h
theorem ok_fraction0 (T : Tx K mg) : FnOk P w K mg base CX0 2 T.f_fraction T.fd_fraction ["top", "bottom"] spFrac0 := by
  refine (FnOk.noerr (ok_fraction T)).imp fun vs H Q E h => ?_
  unfold spFrac0 at h
  unfold spFrac
  obtain ⟨t, b, n, rfl, hb, nz, q⟩ := h
  exact ⟨t, b, n, rfl, hb, .inr ⟨nz, q⟩⟩
end

section
variable {P : Program} {w : World} {K : PySem.W.Frag} {mg : Str → Option Value} {base : Heap}
noncomputable def spWhole : Sp := fun vs H Q _ => ∃ (a : Int), vs = [.int a] ∧ Q (.bl true) H
theorem ok_whole (T : Tx K mg) : FnOk P w K mg base CX0 1 T.f_whole T.fd_whole ["_law_found"] spWhole := by
  refine T.F_whole.ok sc_whole (fun vs H Q E h => ?_) (fun cdv A outer s H vs Q E hr h => ?_)
  · obtain ⟨a, rfl, _⟩ := h
    rfl
  obtain ⟨a, rfl, q⟩ := h
  refine ⟨_, (pss_one (ps_ret (pe_and (pe_callB call_isinst (by rfl) T.z_isinstance (by rfl) (pa_cons (pv 0) (pa_cons (pe_bltn (v := .ty "int") (u := .type "int") (by rfl) T.z_int (by rfl) rfl) pa_nil))) (pe_one (pe_not (pe_callB call_isinst (by rfl) T.z_isinstance (by rfl) (pa_cons (pv 0) (pa_cons (pe_bltn (v := .ty "bool") (u := .type "bool") (by rfl) T.z_bool (by rfl) rfl) pa_nil)))))))), ?_⟩
  walk_at "rd"
  refine ⟨_, _, _, _, rfl, .int _, kit_self _ _, ?_⟩
  walk_at "rd"
  refine ⟨_, _, _, _, rfl, .int _, T.k_ib, ?_⟩
  exact ⟨_, rfl, q⟩
noncomputable def spIsFrac : Sp := fun vs H Q _ => ∃ (p : Addr) (r : Rat), vs = [.ref p] ∧ Frc H p r ∧ Q (.bl true) H
theorem ok_is_fraction (T : Tx K mg) : FnOk P w K mg base CX0 2 T.f_is_fraction T.fd_is_fraction ["_law_found"] spIsFrac := by
  refine T.F_is_fraction.ok sc_is_fraction (fun vs H Q E h => ?_) (fun cdv A outer s H vs Q E hr h => ?_)
  · obtain ⟨p, r, rfl, _⟩ := h
    rfl
  obtain ⟨p, r, rfl, hp, q⟩ := h
  refine ⟨_, (@pss_cons _ _ _ _ _ (ps_if (PW.pt (pw_or (pt_not (pt_val (pe_callB call_isinst (by rfl) T.z_isinstance (by rfl) (pa_cons (pv 0) (pa_cons (pe_bltn (v := .ty "tuple") (u := .type "tuple") (by rfl) T.z_tuple (by rfl) rfl) pa_nil))))) (pw_or (pt_cmpR op_ne (pe_callB call_len_seq (by rfl) T.z_len PySem.boot_len (pa_cons (pv 0) pa_nil)) pe_int (nomark _)) (pw_or (pt_not (pt_val (pe_call (ok_whole T) (hr.mono (by omega)) rfl T.m_whole T.F_whole.kp T.b_whole .nil pass0 (pa_cons (pe_ix ix_tup (pv 0) pe_int (fun _ _ => rfl)) pa_nil)))) (pw_or1 (pt_not (pt_val (pe_call (ok_whole T) (hr.mono (by omega)) rfl T.m_whole T.F_whole.kp T.b_whole .nil pass0 (pa_cons (pe_ix ix_tup (pv 0) pe_int (fun _ _ => rfl)) pa_nil))))))))) (pss_one (ps_ret pe_bl)) pss_nil)
      (pss_one (ps_ret (pe_and (pe_cmpR op_gt (pe_ix ix_tup (pv 0) pe_int (fun _ _ => rfl)) pe_int (nomark _)) (pe_one (pe_cmpR op_eq (pe_call (ok_divisor T) (hr.mono (by omega)) rfl T.m_divisor T.F_divisor.kp T.b_divisor .nil pass0 (pa_cons (pe_ix ix_tup (pv 0) pe_int (fun _ _ => rfl)) (pa_cons (pe_ix ix_tup (pv 0) pe_int (fun _ _ => rfl)) pa_nil))) pe_int (nomark _))))))), ?_⟩
  have a0 : atI [V.int r.num, V.int r.den] 0 = some (.int r.num) := rfl
  have a1 : atI [V.int r.num, V.int r.den] 1 = some (.int r.den) := rfl
  walk_at "rd"
  refine ⟨_, _, _, _, rfl, .tup hp, kit_self _ _, ?_⟩
  walk_at "rd"
  refine ⟨p, _, rfl, .inr (SqT.of hp), ?_⟩
  walk_at "rd"
  refine itd (fun _ => ?_) (fun h => absurd (dpos r) h)
  walk_at "rd"
  have e : V.int ((Int.gcd r.num r.den : Nat) : Int) = V.int 1 := by rw [red r]; rfl
  rw [decide_eq_true e]
  exact q
end

theorem get_eq {ns : List Int} {i : Nat} {z : Int} (hy : (ns.map V.int)[i]? = some (V.int z)) : ns.getD i 0 = z := by
  rw [List.getElem?_map] at hy
  rw [List.getD_eq_getElem?_getD]
  cases e : ns[i]? with
  | none => rw [e] at hy; cases hy
  | some z' => rw [e] at hy; exact V.int.inj (Option.some.inj hy)

section
variable {P : Program} {w : World} {K : PySem.W.Frag} {mg : Str → Option Value} {base : Heap}

noncomputable def Cleared (as : List (Addr × Rat)) (ns : List Int) (B : Int) : Prop := ns.length = as.length ∧ 0 < B ∧ ∀ (i : Nat) (x : Addr × Rat), as[i]? = some x → (x.2.den : Int) ∣ B ∧ ns.getD i 0 = x.2.num * (B / x.2.den)
@[irreducible] noncomputable def spCleared (K : PySem.W.Frag) : Sp := fun vs H Q _ => ∃ (p : Addr) (as : List (Addr × Rat)) (D : Int) (n k : Nat), vs = [.ref p] ∧ Row K H p as ∧ ((∀ x ∈ as, Cd D n x.2) ∧ 0 < D ∧ D.natAbs < 2 ^ k ∧ k ≤ 6000 ∧ n ≤ 100000 ∧ as.length ≤ 100) ∧ ∀ (pt pl : Addr) (ns : List Int) (B : Int) (H' : Hp), Same H H' → H' pt = some (.tup [.ref pl, .int B]) → H' pl = some (.lst (ns.map V.int)) → Cleared as ns B → B ∣ D → B.natAbs < 2 ^ k → (∀ x ∈ ns, x.natAbs < 2 ^ n) → Q (.ref pt) H'
theorem spCleared_mk {vs : List V} {H : Hp} {Q : VK} {E : XK} (h : ∃ (p : Addr) (as : List (Addr × Rat)) (D : Int) (n k : Nat), vs = [.ref p] ∧ Row K H p as ∧ ((∀ x ∈ as, Cd D n x.2) ∧ 0 < D ∧ D.natAbs < 2 ^ k ∧ k ≤ 6000 ∧ n ≤ 100000 ∧ as.length ≤ 100) ∧ ∀ (pt pl : Addr) (ns : List Int) (B : Int) (H' : Hp), Same H H' → H' pt = some (.tup [.ref pl, .int B]) → H' pl = some (.lst (ns.map V.int)) → Cleared as ns B → B ∣ D → B.natAbs < 2 ^ k → (∀ x ∈ ns, x.natAbs < 2 ^ n) → Q (.ref pt) H') : spCleared K vs H Q E := by
  unfold spCleared
  exact h
theorem ok_cleared (T : Tx K mg) : FnOk P w K mg base CX0 2 T.f_cleared T.fd_cleared ["row"] (spCleared K) := by
  refine T.F_cleared.ok sc_cleared (fun vs H Q E h => ?_) (fun cdv A outer s H vs Q E hr h => ?_)
  · unfold spCleared at h
    obtain ⟨p, as, D, n, k, rfl, _⟩ := h
    rfl
  unfold spCleared at h
  obtain ⟨p, as, D, n, k, rfl, hR, ⟨hc, hD, hDk, hk, hn, hl⟩, q⟩ := h
  refine ⟨_, (@pss_cons _ _ _ _ _ (ps_set (i := 1) sc_cleared.nd rfl (by first | exact Or.inl rfl | exact Or.inr rfl) pe_int)
      (@pss_cons _ _ _ _ _ (ps_for PassesOwn.never rfl (pi_list (pv 0)) (pg_name (i := 2) sc_cleared.nd rfl (by first | exact Or.inl rfl | exact Or.inr rfl)) (@pss_cons _ _ _ _ _ (ps_set (i := 3) sc_cleared.nd rfl (by first | exact Or.inl rfl | exact Or.inr rfl) (pe_ix ix_tup (pv 2) pe_int (fun _ _ => rfl)))
      (pss_one (ps_if (pt_cmpR op_ne (pe_op op_mod (pv 1) (pv 3)) pe_int (nomark _)) (pss_one (ps_set (i := 1) sc_cleared.nd rfl (by first | exact Or.inl rfl | exact Or.inr rfl) (pe_op op_mulG (pe_op op_fdivP (pv 1) (pe_call (ok_gcd T) (hr.mono (by omega)) rfl T.m_gcd T.F_gcd.kp T.b_gcd .nil pass0 (pa_cons (pv 1) (pa_cons (pv 3) pa_nil)))) (pv 3)))) pss_nil))))
      (pss_one (ps_ret (pe_tup (pa_cons (pe_comp ["number"] ["row", "bottom", "number!", "part"] rfl (by show compOk _ (defScope s_cleared) ["row", "bottom", "number", "part"] ["row", "bottom", "number!", "part"] ["number"] = true; decide +kernel) (pi_list (pv 0)) (fun _ _ _ _ => (pg_name (i := 0) (show List.Nodup ((["number"] : List Str) ++ (["row", "bottom", "number!", "part"] : List Str)) by decide +kernel) rfl (Or.inl rfl) (Or.inr rfl))) (fun _ _ _ _ => pf_nil) (fun _ _ _ _ => (pe_op op_mulG (pe_ix (ix_tupK (K := K) rfl) (pv 0) pe_int (fun _ _ => rfl)) (pe_op op_fdivP (pv 2) (pe_ix (ix_tupK (K := K) rfl) (pv 0) pe_int (fun _ _ => rfl)))))) (pa_cons (pv 1) pa_nil))))))), ?_⟩
  have small : ∀ y : Int, 0 < y → y ∣ D → y.natAbs < 2 ^ k := fun y h1 h2 => by
    have := Int.le_of_dvd hD h2
    omega
  refine ⟨_, rfl, p, rfl, ⟨_, hR.1⟩, for_list (K := K) (a := p) (xs := rv as) (fun i σ H2 => ∃ (B : Int) (v2 v3 : Option V), (i ≤ as.length ∧ 0 < B ∧ B ∣ D ∧ ∀ j x, j < i → as[j]? = some x → (x.2.den : Int) ∣ B) ∧ H2 = H ∧ σ = [some (.ref p), some (.int B), v2, v3]) ?_ ?_ ?_ ?_⟩
  · exact ⟨1, _, _, ⟨Nat.zero_le _, by decide, Int.one_dvd _, fun j x h => by omega⟩, rfl, rfl⟩
  · rintro i σ H2 _ ⟨B, v2, v3, _, rfl, rfl⟩
    exact hR.1
  · rintro i y σ H2 hy ⟨B, v2, v3, ⟨hi, hB, hB2, hd⟩, rfl, rfl⟩
    obtain ⟨x, hx, rfl⟩ := rv_get hy
    have hm := List.mem_of_getElem? hx
    have fx := hR.2 x hm
    have dx := (hc x hm).dvd.1
    have hi2 : i < as.length := (List.getElem?_eq_some_iff.mp hx).1
    have a1 : atI [V.int x.2.num, V.int x.2.den] 1 = some (.int x.2.den) := rfl
    have dp := dpos x.2
    have bd := small _ dp dx
    have bB := small _ hB hB2
    have step : ∀ B' : Int, 0 < B' → B' ∣ D → B ∣ B' → (x.2.den : Int) ∣ B' → ∃ (B : Int) (v2 v3 : Option V), (i + 1 ≤ as.length ∧ 0 < B ∧ B ∣ D ∧ ∀ j x, j < i + 1 → as[j]? = some x → (x.2.den : Int) ∣ B) ∧ H2 = H2 ∧ [some (V.ref p), some (.int B'), some (.ref x.1), some (.int x.2.den)] = [some (.ref p), some (.int B), v2, v3] := fun B' h1 h2 h3 h4 =>
      ⟨B', _, _, ⟨hi2, h1, h2, fun j z hj hz => by
        by_cases hji : j = i
        · subst hji
          rw [hx] at hz
          cases hz
          exact h4
        · exact Int.dvd_trans (hd j z (by omega) hz) h3⟩, rfl, rfl⟩
    walk_at "rd"
    refine itn (fun h => ?_) (fun h => ?_)
    · have hg : ((Int.gcd B x.2.den : Nat) : Int) ≤ x.2.den := Int.le_of_dvd dp (Int.gcd_dvd_right ..)
      have hg0 : 0 < ((Int.gcd B x.2.den : Nat) : Int) := by
        have : 0 < Int.gcd B x.2.den := Int.gcd_pos_of_ne_zero_left _ (by omega)
        omega
      have hdv : ((Int.gcd B x.2.den : Nat) : Int) ∣ B := Int.gcd_dvd_left ..
      have hdv2 : ((Int.gcd B x.2.den : Nat) : Int) ∣ (x.2.den : Int) := Int.gcd_dvd_right ..
      have hlcm := lcm_dvdI (dz x.2) hB2 dx
      walk_at "rd"
      refine ⟨_, _, k, rfl, bd, by omega, ?_⟩
      generalize ((Int.gcd B x.2.den : Nat) : Int) = g at *
      have lg : g.natAbs < 2 ^ k := by omega
      walk_at "rd"
      refine ⟨⟨hg0, log2_bd lg (by omega)⟩, ?_⟩
      have hq0 : 0 < B / g := Int.ediv_pos_of_pos_of_dvd hB (Int.le_of_lt hg0) hdv
      have hqB : B / g ≤ B := Int.ediv_le_self _ (Int.le_of_lt hB)
      have hqb : (B / g).natAbs < 2 ^ k := by omega
      walk_at "rd"
      refine ⟨mulOk_pow hqb bd (by omega), ?_⟩
      refine step _ (Int.mul_pos hq0 dp) hlcm ?_ ⟨B / g, Int.mul_comm _ _⟩
      obtain ⟨j, hj⟩ := hdv2
      refine ⟨j, ?_⟩
      rw [hj, ← Int.mul_assoc, Int.ediv_mul_cancel hdv]
    · have hz : B % x.2.den = 0 := V.int.inj h
      exact step B hB hB2 (Int.dvd_refl _) (Int.dvd_of_emod_eq_zero hz)
  · rintro σ H2 ⟨B, v2, v3, ⟨_, hB, hB2, hd⟩, rfl, rfl⟩
    have lr : (rv as).length = as.length := List.length_map _
    rw [lr] at hd
    have bB := small _ hB hB2
    have nb : ∀ x ∈ as, (x.2.den : Int) ∣ B → (x.2.num * (B / x.2.den)).natAbs < 2 ^ n := fun x hm hdx => by
      have e := (hc x hm).dvd
      obtain ⟨j, hj⟩ := hB2
      have dp := dpos x.2
      have e2 : D / x.2.den = B / x.2.den * j := by
        rw [hj]
        exact Int.mul_ediv_assoc' _ hdx |> fun h => by rw [← h]
      have j0 : j ≠ 0 := fun z => by rw [z, Int.mul_zero] at hj; omega
      refine Nat.lt_of_le_of_lt ?_ e.2
      rw [e2, ← Int.mul_assoc, Int.natAbs_mul (x.2.num * (B / x.2.den)) j]
      exact Nat.le_mul_of_pos_right _ (by omega)
    refine ⟨_, rfl, p, rfl, ⟨_, hR.1⟩, fun D0 hD0 => comp_list (K := K) (a := p) (xs := rv as) (fun i ys H3 => ∃ ns : List Int, (ns.length = i ∧ (∀ x ∈ ns, x.natAbs < 2 ^ n) ∧ ∀ j x, j < i → as[j]? = some x → ns.getD j 0 = x.2.num * (B / x.2.den)) ∧ Same H2 H3 ∧ H3 D0 = some (.lst ys) ∧ ys = ns.map V.int) ?_ ?_ ?_ ?_⟩
    · exact ⟨[], ⟨rfl, by simp, fun j x h => by omega⟩, same_new hD0 _, upd_same, rfl⟩
    · rintro i ys H3 ⟨ns, _, sm, _⟩
      exact sm.seq hR.1
    · rintro i y ys H3 hy ⟨ns, ⟨ln, bn, dn⟩, sm, hyD, rfl⟩
      obtain ⟨x, hx, rfl⟩ := rv_get hy
      have hm := List.mem_of_getElem? hx
      have fx := sm _ _ (hR.2 x hm)
      have hi2 : i < as.length := (List.getElem?_eq_some_iff.mp hx).1
      have a0 : atI [V.int x.2.num, V.int x.2.den] 0 = some (.int x.2.num) := rfl
      have a1 : atI [V.int x.2.num, V.int x.2.den] 1 = some (.int x.2.den) := rfl
      have dp := dpos x.2
      have dB := hd i x hi2 hx
      have bd := small _ dp (hc x hm).dvd.1
      have big := nb x hm dB
      have q0 : 0 < B / x.2.den := Int.ediv_pos_of_pos_of_dvd hB (Int.le_of_lt dp) dB
      have hqb : (B / x.2.den).natAbs < 2 ^ k := by
        have h1 := Int.ediv_le_self (x.2.den : Int) (Int.le_of_lt hB)
        omega
      have bnum : x.2.num.natAbs < 2 ^ n := by
        refine Nat.lt_of_le_of_lt ?_ big
        rw [Int.natAbs_mul]
        exact Nat.le_mul_of_pos_right _ (by omega)
      refine ⟨_, rfl, x.1, _, _, _, rfl, rfl, SqT.of fx, a0, _, rfl, _, rfl, x.1, _, _, _, rfl, rfl, SqT.of fx, a1, ?_⟩
      refine ⟨_, _, rfl, rfl, ⟨dp, log2_bd bd (by omega)⟩, ?_⟩
      refine ⟨_, _, rfl, rfl, mulOk_pow bnum hqb (by omega), ?_⟩
      refine cnext (zs := (ns ++ [x.2.num * (B / x.2.den)]).map V.int) (by rw [lr]; exact hi2) hyD (by rw [List.length_map]; exact small1000 (by omega)) ⟨ns ++ [x.2.num * (B / x.2.den)], ⟨by simp [ln], fun z hz => ?_, fun j z hj hz => ?_⟩, same_upd sm hD0 _, ?_, rfl⟩
      · rcases List.mem_append.mp hz with h | h
        · exact bn z h
        · rw [List.mem_singleton] at h
          subst h
          exact big
      · rw [List.getD_eq_getElem?_getD]
        by_cases hj2 : j < i
        · rw [List.getElem?_append_left (by omega), ← List.getD_eq_getElem?_getD]
          exact dn j z hj2 hz
        · have ej : j = i := by omega
          subst ej
          rw [hx] at hz
          cases hz
          rw [List.getElem?_append_right (by omega), ln, Nat.sub_self]
          rfl
      · rw [upd_same, List.map_append]
        rfl
    · rintro ys H3 ⟨ns, ⟨ln, bn, dn⟩, sm, hyD, rfl⟩
      rw [lr] at ln dn
      walk_at "rd"
      intro pt hpt
      refine q pt D0 ns B _ (sm.trans (same_new hpt _)) upd_same (upd_keep hyD hpt) ⟨ln, hB, fun i x hx => ?_⟩ hB2 bB bn
      have hi2 : i < as.length := (List.getElem?_eq_some_iff.mp hx).1
      exact ⟨hd i x hi2 hx, dn i x hi2 hx⟩
end

section
variable {P : Program} {w : World} {K : PySem.W.Frag} {mg : Str → Option Value} {base : Heap}
@[irreducible] noncomputable def spScaled (K : PySem.W.Frag) : Sp := fun vs H Q _ => ∃ (a : Addr) (ns : List Int) (m : Int) (n : Nat), vs = [.ref a, .int m] ∧ SqL K H a (ns.map V.int) ∧ (ns.length ≤ 500 ∧ m.natAbs < 2 ^ n ∧ n ≤ 10000000 ∧ ∀ x ∈ ns, x.natAbs < 2 ^ n) ∧ ∀ (p : Addr) (H' : Hp), Same H H' → H p = none → H' p = some (.lst ((ns.map fun x => m * x).map V.int)) → Q (.ref p) H'
theorem spScaled_mk {vs : List V} {H : Hp} {Q : VK} {E : XK} (h : ∃ (a : Addr) (ns : List Int) (m : Int) (n : Nat), vs = [.ref a, .int m] ∧ SqL K H a (ns.map V.int) ∧ (ns.length ≤ 500 ∧ m.natAbs < 2 ^ n ∧ n ≤ 10000000 ∧ ∀ x ∈ ns, x.natAbs < 2 ^ n) ∧ ∀ (p : Addr) (H' : Hp), Same H H' → H p = none → H' p = some (.lst ((ns.map fun x => m * x).map V.int)) → Q (.ref p) H') : spScaled K vs H Q E := by
  unfold spScaled
  exact h
theorem ok_scaled (T : Tx K mg) : FnOk P w K mg base CX0 1 T.f_scaled T.fd_scaled ["numbers", "by"] (spScaled K) := by
  refine T.F_scaled.ok sc_scaled (fun vs H Q E h => ?_) (fun cdv A outer s H vs Q E hr h => ?_)
  · unfold spScaled at h
    obtain ⟨a, ns, m, n, rfl, _⟩ := h
    rfl
  unfold spScaled at h
  obtain ⟨a, ns, m, n, rfl, hS, ⟨hl, hm, hn, hb⟩, q⟩ := h
  refine ⟨_, (pss_one (ps_ret (pe_comp ["number"] ["numbers", "by"] rfl (by show compOk _ (defScope s_scaled) ["numbers", "by"] ["numbers", "by"] ["number"] = true; decide +kernel) (pi_list (pv 0)) (fun _ _ _ _ => (pg_name (i := 0) (show List.Nodup ((["number"] : List Str) ++ (["numbers", "by"] : List Str)) by decide +kernel) rfl (Or.inl rfl) (Or.inr rfl))) (fun _ _ _ _ => pf_nil) (fun _ _ _ _ => (pe_op op_mulG (pv 2) (pv 0)))))), ?_⟩
  refine ⟨_, rfl, a, rfl, ⟨_, hS⟩, fun D hD => comp_list (K := K) (a := a) (xs := ns.map V.int) (fun i ys H2 => i ≤ ns.length ∧ Same H H2 ∧ H2 D = some (.lst ys) ∧ ys = (((ns.map fun x => m * x).take i).map V.int)) ?_ ?_ ?_ ?_⟩
  · exact ⟨Nat.zero_le _, same_new hD _, upd_same, rfl⟩
  · rintro i ys H2 ⟨_, sm, _⟩
    exact sm.seq hS
  · rintro i x ys H2 hx ⟨hi, sm, hy, rfl⟩
    have hx' := hx
    obtain ⟨z, rfl, hz, hi2⟩ := ints_get hx
    have ez : ns[i]? = some z := by
      rw [List.getElem?_map] at hx'
      cases e : ns[i]? with
      | none => rw [e] at hx'; cases hx'
      | some z' => rw [e] at hx'; rw [V.int.inj (Option.some.inj hx')]
    refine ⟨_, rfl, _, rfl, _, _, rfl, rfl, mulOk_pow hm (hb z hz) (by omega), ?_⟩
    refine cnext (by rw [List.length_map]; exact hi2) hy (by rw [List.length_map, List.length_take]; exact small1000 (by omega)) ⟨hi2, same_upd sm hD _, upd_same, ?_⟩
    rw [List.take_add_one, List.getElem?_map, ez, List.map_append]
    rfl
  · rintro ys H2 ⟨_, sm, hy, rfl⟩
    rw [List.length_map] at hy
    have e : (ns.map fun x => m * x).take ns.length = ns.map fun x => m * x := by
      rw [List.take_of_length_le]
      rw [List.length_map]
      exact Nat.le_refl _
    rw [e] at hy
    exact q D _ sm hD hy
end

end Toy

set_option Elab.async false
set_option linter.all false
set_option maxRecDepth 100000
set_option maxHeartbeats 4000000
namespace Toy
open PySem L2 Num
local macro_rules | `(tactic| walk_at "hp") => `(tactic| first
  | assumption
  | exact upd_same
  | exact upd_keep (by walk_at "hp") (by assumption)
  | (rw [upd_ne (by first | assumption | exact Ne.symm (by assumption))]; walk_at "hp")
  | exact Same.get (by assumption) (by walk_at "hp"))
local macro_rules | `(tactic| walk_at "side") => `(tactic| first
  | exact mulOk_small (by omega) (by omega)
  | exact mulOk_smallR (by omega) (by omega)
  | exact cdivP_small (by omega) (by omega)
  | exact cpow_small (by decide) (by decide) (by decide)
  | (show (0 : Int) < _; omega)
  | (with_reducible show _ ≤ sizeLine; exact small_len (by simp only [List.length_cons, List.length_nil]; omega)))
local macro_rules | `(tactic| walk_at "rd1") => `(tactic| first
  | refine ⟨_, rfl, ?_⟩
  | refine ⟨_, _, rfl, rfl, ?_⟩
  | refine ⟨rfl, ?_⟩
  | refine ⟨_, _, rfl, ?_⟩
  | refine ⟨_, _, rfl, SqT.of (by walk_at "hp"), rfl, ?_⟩
  | refine ⟨_, _, _, _, rfl, rfl, SqL.of (by walk_at "hp"), (by assumption), ?_⟩
  | refine ⟨_, _, _, _, rfl, rfl, SqT.of (by walk_at "hp"), (by assumption), ?_⟩
  | (refine ⟨?sidegoal, ?_⟩; (case sidegoal => walk_at "side")))
local macro_rules | `(tactic| walk_at "rd") => `(tactic| repeat walk_at "rd1")

section
variable {P : Program} {w : World} {K : PySem.W.Frag} {mg : Str → Option Value} {base : Heap}
@[irreducible] noncomputable def spShort (K : PySem.W.Frag) : Sp := fun vs H Q _ => ∃ (a : Addr) (ns : List Int) (n : Nat), vs = [.ref a] ∧ SqL K H a (ns.map V.int) ∧ (ns.length ≤ 500 ∧ n ≤ 6000 ∧ (∀ x ∈ ns, x.natAbs < 2 ^ n) ∧ 0 < gc 0 ns) ∧ ∀ (pt p : Addr) (H' : Hp), Same H H' → H' pt = some (.tup [.int ((gc 0 ns : Nat) : Int), .ref p]) → H' p = some (.lst ((ns.map fun x => x / ((gc 0 ns : Nat) : Int)).map V.int)) → Q (.ref pt) H'
theorem spShort_mk {vs : List V} {H : Hp} {Q : VK} {E : XK} (h : ∃ (a : Addr) (ns : List Int) (n : Nat), vs = [.ref a] ∧ SqL K H a (ns.map V.int) ∧ (ns.length ≤ 500 ∧ n ≤ 6000 ∧ (∀ x ∈ ns, x.natAbs < 2 ^ n) ∧ 0 < gc 0 ns) ∧ ∀ (pt p : Addr) (H' : Hp), Same H H' → H' pt = some (.tup [.int ((gc 0 ns : Nat) : Int), .ref p]) → H' p = some (.lst ((ns.map fun x => x / ((gc 0 ns : Nat) : Int)).map V.int)) → Q (.ref pt) H') : spShort K vs H Q E := by
  unfold spShort
  exact h
theorem ok_shortened (T : Tx K mg) : FnOk P w K mg base CX0 2 T.f_shortened T.fd_shortened ["numbers"] (spShort K) := by
  refine T.F_shortened.ok sc_shortened (fun vs H Q E h => ?_) (fun cdv A outer s H vs Q E hr h => ?_)
  · unfold spShort at h
    obtain ⟨a, ns, n, rfl, _⟩ := h
    rfl
  unfold spShort at h
  obtain ⟨a, ns, n, rfl, hS, ⟨hl, hn, hb, hpos⟩, q⟩ := h
  refine ⟨_, (@pss_cons _ _ _ _ _ (ps_set (i := 1) sc_shortened.nd rfl (by first | exact Or.inl rfl | exact Or.inr rfl) pe_int)
      (@pss_cons _ _ _ _ _ (ps_for PassesOwn.never rfl (pi_list (pv 0)) (pg_name (i := 2) sc_shortened.nd rfl (by first | exact Or.inl rfl | exact Or.inr rfl)) (@pss_cons _ _ _ _ _ (ps_set (i := 1) sc_shortened.nd rfl (by first | exact Or.inl rfl | exact Or.inr rfl) (pe_call (ok_gcd T) (hr.mono (by omega)) rfl T.m_gcd T.F_gcd.kp T.b_gcd .nil pass0 (pa_cons (pv 2) (pa_cons (pv 1) pa_nil))))
      (pss_one (ps_if (pt_cmpR op_eq (pv 1) pe_int (nomark _)) (pss_one (ps_ret (pe_tup (pa_cons pe_int (pa_cons (pe_callTy call_list_of (by rfl) T.z_list (by rfl) (pa_cons (pv 0) pa_nil)) pa_nil))))) pss_nil))))
      (pss_one (ps_ret (pe_tup (pa_cons (pv 1) (pa_cons (pe_comp ["number"] ["numbers", "content", "number!"] rfl (by show compOk _ (defScope s_shortened) ["numbers", "content", "number"] ["numbers", "content", "number!"] ["number"] = true; decide +kernel) (pi_list (pv 0)) (fun _ _ _ _ => (pg_name (i := 0) (show List.Nodup ((["number"] : List Str) ++ (["numbers", "content", "number!"] : List Str)) by decide +kernel) rfl (Or.inl rfl) (Or.inr rfl))) (fun _ _ _ _ => pf_nil) (fun _ _ _ _ => (pe_op op_fdivP (pv 0) (pv 2)))) pa_nil))))))), ?_⟩
  have btake : ∀ i, gc 0 (ns.take i) < 2 ^ n := fun i => gc_bd _ _ (fun x hx => hb x (List.mem_of_mem_take hx)) (Nat.pow_pos (by decide))
  refine ⟨_, rfl, a, rfl, ⟨_, hS⟩, for_list (K := K) (a := a) (xs := ns.map V.int) (fun i σ H2 => ∃ (v2 : Option V), (i ≤ ns.length ∧ H2 = H) ∧ σ = [some (.ref a), some (.int ((gc 0 (ns.take i) : Nat) : Int)), v2]) ?_ ?_ ?_ ?_⟩
  · exact ⟨_, ⟨Nat.zero_le _, rfl⟩, rfl⟩
  · rintro i σ H2 _ ⟨v2, ⟨_, rfl⟩, rfl⟩
    exact hS
  · rintro i x σ H2 hx ⟨v2, ⟨hi, rfl⟩, rfl⟩
    have ex := hx
    obtain ⟨z, rfl, hz, hi2⟩ := ints_get hx
    have ez : ns[i]? = some z := by
      rw [List.getElem?_map] at ex
      cases e : ns[i]? with
      | none => rw [e] at ex; cases ex
      | some z' => rw [e] at ex; rw [V.int.inj (Option.some.inj ex)]
    have et : gc 0 (ns.take (i + 1)) = Int.gcd z (gc 0 (ns.take i)) := by
      rw [List.take_add_one, ez]
      exact gc_app z _ _
    refine ⟨_, rfl, _, rfl, z, _, n, rfl, by rw [Int.natAbs_natCast]; exact btake i, hn, ?_⟩
    rw [← et]
    walk_at "rd"
    refine itd (fun h => ?_) (fun h => ?_)
    · have h1 : ((gc 0 (ns.take (i + 1)) : Nat) : Int) = 1 := V.int.inj h
      have h2 : gc 0 ns = 1 := by
        have e := gc_split (ns.take (i + 1)) (ns.drop (i + 1)) 0
        rw [List.take_append_drop] at e
        rw [e, show gc 0 (ns.take (i + 1)) = 1 by omega]
        exact gc_one _
      refine ⟨_, rfl, a, _, rfl, .inl hS, fun p hp => ?_⟩
      walk_at "rd"
      intro pt hpt
      refine q pt p _ ((same_new hp _).trans (same_new hpt _)) (by rw [upd_same, h2]; rfl) ?_
      rw [upd_keep upd_same hpt, h2]
      congr 3
      refine ((List.map_congr_left fun x hx => ?_).trans (List.map_id ns)).symm
      exact Int.ediv_one x
    · exact ⟨_, ⟨hi2, rfl⟩, rfl⟩
  · rintro σ H2 ⟨v2, ⟨_, rfl⟩, rfl⟩
    rw [List.length_map, List.take_length]
    have hc : ((gc 0 ns : Nat) : Int).natAbs < 2 ^ n := by
      have := btake ns.length
      rw [List.take_length] at this
      rw [Int.natAbs_natCast]
      exact this
    have hp0 : (0 : Int) < ((gc 0 ns : Nat) : Int) := by omega
    generalize hC : ((gc 0 ns : Nat) : Int) = c at *
    refine ⟨_, rfl, _, rfl, a, rfl, ⟨_, hS⟩, fun D hD => comp_list (K := K) (a := a) (xs := ns.map V.int) (fun i ys H3 => i ≤ ns.length ∧ Same H2 H3 ∧ H3 D = some (.lst ys) ∧ ys = (((ns.map fun x => x / c).take i).map V.int)) ?_ ?_ ?_ ?_⟩
    · exact ⟨Nat.zero_le _, same_new hD _, upd_same, rfl⟩
    · rintro i ys H3 ⟨_, sm, _⟩
      exact sm.seq hS
    · rintro i x ys H3 hx ⟨hi, sm, hy, rfl⟩
      have hx' := hx
      obtain ⟨z, rfl, hz, hi2⟩ := ints_get hx
      have ez : ns[i]? = some z := by
        rw [List.getElem?_map] at hx'
        cases e : ns[i]? with
        | none => rw [e] at hx'; cases hx'
        | some z' => rw [e] at hx'; rw [V.int.inj (Option.some.inj hx')]
      refine ⟨_, rfl, _, rfl, _, _, rfl, rfl, ⟨hp0, log2_bd hc (by omega)⟩, ?_⟩
      refine cnext (by rw [List.length_map]; exact hi2) hy (by rw [List.length_map, List.length_take]; exact small1000 (by omega)) ⟨hi2, same_upd sm hD _, upd_same, ?_⟩
      rw [List.take_add_one, List.getElem?_map, ez, List.map_append]
      rfl
    · rintro ys H3 ⟨_, sm, hy, rfl⟩
      rw [List.length_map] at hy
      have e : (ns.map fun x => x / c).take ns.length = ns.map fun x => x / c := by
        rw [List.take_of_length_le]
        rw [List.length_map]
        exact Nat.le_refl _
      rw [e] at hy
      walk_at "rd"
      intro pt hpt
      exact q pt D _ (sm.trans (same_new hpt _)) upd_same (upd_keep hy hpt)
noncomputable def PrimIn (as : List (Addr × Rat)) (D : Int) (n k : Nat) : Prop := (∀ x ∈ as, Cd D n x.2) ∧ 0 < D ∧ D.natAbs < 2 ^ k ∧ k ≤ 6000 ∧ n ≤ 6000 ∧ as.length ≤ 100 ∧ ∃ x ∈ as, x.2.num ≠ 0
noncomputable def PrimOut (as : List (Addr × Rat)) (n k : Nat) (ms : List Int) (B : Int) (c : Nat) : Prop := ∃ ns : List Int, Cleared as ns B ∧ B.natAbs < 2 ^ k ∧ c = gc 0 ns ∧ 0 < c ∧ c < 2 ^ n ∧ ms = (ns.map fun x => x / (c : Int)) ∧ ∀ x ∈ ms, x.natAbs < 2 ^ n
@[irreducible] noncomputable def spPrim (K : PySem.W.Frag) : Sp := fun vs H Q _ => ∃ (p : Addr) (as : List (Addr × Rat)) (D : Int) (n k : Nat), vs = [.ref p] ∧ Row K H p as ∧ PrimIn as D n k ∧ ∀ (pt pl : Addr) (ms : List Int) (B : Int) (c : Nat) (H' : Hp), Same H H' → H' pt = some (.tup [.ref pl, .int B, .int (c : Int)]) → H' pl = some (.lst (ms.map V.int)) → PrimOut as n k ms B c → Q (.ref pt) H'
theorem spPrim_mk {vs : List V} {H : Hp} {Q : VK} {E : XK} (h : ∃ (p : Addr) (as : List (Addr × Rat)) (D : Int) (n k : Nat), vs = [.ref p] ∧ Row K H p as ∧ PrimIn as D n k ∧ ∀ (pt pl : Addr) (ms : List Int) (B : Int) (c : Nat) (H' : Hp), Same H H' → H' pt = some (.tup [.ref pl, .int B, .int (c : Int)]) → H' pl = some (.lst (ms.map V.int)) → PrimOut as n k ms B c → Q (.ref pt) H') : spPrim K vs H Q E := by
  unfold spPrim
  exact h
theorem cleared_pos {as : List (Addr × Rat)} {ns : List Int} {B : Int} (h : Cleared as ns B) (hx : ∃ x ∈ as, x.2.num ≠ 0) : 0 < gc 0 ns := by
  obtain ⟨hl, hB, hc⟩ := h
  obtain ⟨x, hm, nz⟩ := hx
  obtain ⟨i, hi, e⟩ := List.getElem_of_mem hm
  have ei : as[i]? = some x := by rw [List.getElem?_eq_getElem hi, e]
  obtain ⟨d, v⟩ := hc i x ei
  have hi2 : i < ns.length := by omega
  refine gc_pos (x := ns.getD i 0) ?_ ?_
  · rw [List.getD_eq_getElem?_getD, List.getElem?_eq_getElem hi2]
    exact List.getElem_mem hi2
  · rw [v]
    have dp := dpos x.2
    have : 0 < B / x.2.den := Int.ediv_pos_of_pos_of_dvd hB (Int.le_of_lt dp) d
    exact Int.mul_ne_zero nz (by omega)
theorem ok_primitive (T : Tx K mg) : FnOk P w K mg base CX0 3 T.f_primitive T.fd_primitive ["row"] (spPrim K) := by
  refine T.F_primitive.ok sc_primitive (fun vs H Q E h => ?_) (fun cdv A outer s H vs Q E hr h => ?_)
  · unfold spPrim at h
    obtain ⟨p, as, D, n, k, rfl, _⟩ := h
    rfl
  unfold spPrim at h
  obtain ⟨p, as, D, n, k, rfl, hR, ⟨hc, hD, hDk, hk, hn, hl, nz⟩, q⟩ := h
  refine ⟨_, (@pss_cons _ _ _ _ _ (ps_asg (pe_call (ok_cleared T) (hr.mono (by omega)) rfl T.m_cleared T.F_cleared.kp T.b_cleared .nil pass0 (pa_cons (pv 0) pa_nil)) (pg_tup rfl (pgs_cons (pg_name (i := 1) sc_primitive.nd rfl (by first | exact Or.inl rfl | exact Or.inr rfl)) (pgs_cons (pg_name (i := 2) sc_primitive.nd rfl (by first | exact Or.inl rfl | exact Or.inr rfl)) pgs_nil))))
      (@pss_cons _ _ _ _ _ (ps_asg (pe_call (ok_shortened T) (hr.mono (by omega)) rfl T.m_shortened T.F_shortened.kp T.b_shortened .nil pass0 (pa_cons (pv 1) pa_nil)) (pg_tup rfl (pgs_cons (pg_name (i := 3) sc_primitive.nd rfl (by first | exact Or.inl rfl | exact Or.inr rfl)) (pgs_cons (pg_name (i := 1) sc_primitive.nd rfl (by first | exact Or.inl rfl | exact Or.inr rfl)) pgs_nil))))
      (pss_one (ps_ret (pe_tup (pa_cons (pv 1) (pa_cons (pv 2) (pa_cons (pv 3) pa_nil)))))))), ?_⟩
  walk_at "rd"
  refine spCleared_mk ⟨p, as, D, n, k, rfl, hR, ⟨hc, hD, hDk, hk, by omega, hl⟩, fun pt pl ns B H1 s1 e1 e2 cl hBD hBk hbn => ?_⟩
  have gp := cleared_pos cl nz
  have ln := cl.1
  walk_at "rd"
  refine spShort_mk ⟨pl, ns, n, rfl, SqL.of e2, ⟨by omega, by omega, hbn, gp⟩, fun pt2 pm H2 s2 e3 e4 => ?_⟩
  walk_at "rd"
  intro pt3 hpt3
  refine q pt3 pm _ B (gc 0 ns) _ (s1.trans (s2.trans (same_new hpt3 _))) upd_same (upd_keep e4 hpt3) ⟨ns, cl, hBk, rfl, gp, gc_bd _ _ hbn (Nat.pow_pos (by decide)), rfl, fun x hx => ?_⟩
  obtain ⟨y, hy, rfl⟩ := List.mem_map.mp hx
  exact div_bd gp (hbn y hy)
end

end Toy

set_option Elab.async false
set_option linter.all false
set_option maxRecDepth 100000
set_option maxHeartbeats 4000000
namespace Toy
open PySem L2 Num
local macro_rules | `(tactic| walk_at "hp") => `(tactic| first
  | assumption
  | exact upd_same
  | exact upd_keep (by walk_at "hp") (by assumption)
  | (rw [upd_ne (by first | assumption | exact Ne.symm (by assumption))]; walk_at "hp")
  | exact Same.get (by assumption) (by walk_at "hp"))
local macro_rules | `(tactic| walk_at "side") => `(tactic| first
  | exact mulOk_small (by omega) (by omega)
  | exact mulOk_smallR (by omega) (by omega)
  | exact cdivP_small (by omega) (by omega)
  | exact cpow_small (by decide) (by decide) (by decide)
  | (show (0 : Int) < _; omega)
  | (with_reducible show _ ≤ sizeLine; exact small_len (by simp only [List.length_cons, List.length_nil]; omega)))
local macro_rules | `(tactic| walk_at "rd1") => `(tactic| first
  | refine ⟨_, rfl, ?_⟩
  | refine ⟨_, _, rfl, rfl, ?_⟩
  | refine ⟨rfl, ?_⟩
  | refine ⟨_, _, rfl, ?_⟩
  | refine ⟨_, _, rfl, SqT.of (by walk_at "hp"), rfl, ?_⟩
  | refine ⟨_, _, _, _, rfl, rfl, SqL.of (by walk_at "hp"), (by assumption), ?_⟩
  | refine ⟨_, _, _, _, rfl, rfl, SqT.of (by walk_at "hp"), (by assumption), ?_⟩
  | (refine ⟨?sidegoal, ?_⟩; (case sidegoal => walk_at "side")))
local macro_rules | `(tactic| walk_at "rd") => `(tactic| repeat walk_at "rd1")

theorem at_lastI {ns : List Int} (h : ns ≠ []) : atI (ns.map V.int) (-1) = some (.int (ns.getD (ns.length - 1) 0)) := by
  have hl : 0 < ns.length := List.length_pos_iff.mpr h
  unfold atI
  have e : ixN (ns.map V.int).length (-1) = some (ns.length - 1) := by
    unfold ixN
    rw [List.length_map, if_neg (by decide)]
    first
    | rw [if_pos (by omega)]; congr 1; omega
    | (split <;> first | (congr 1; omega) | omega)
  rw [e]
  show (ns.map V.int)[ns.length - 1]? = _
  rw [List.getElem?_map, List.getElem?_eq_getElem (by omega), List.getD_eq_getElem?_getD, List.getElem?_eq_getElem (by omega)]
  rfl

section
variable {P : Program} {w : World} {K : PySem.W.Frag} {mg : Str → Option Value} {base : Heap}
noncomputable def WR (as : List (Addr × Rat)) (f : Rat) (ms : List Int) (n k : Nat) : Prop := ms.length = as.length ∧ gc 0 ms = 1 ∧ 0 < ms.getD (ms.length - 1) 0 ∧ (∀ i x, as[i]? = some x → ms.getD i 0 * f.num * x.2.den = x.2.num * f.den) ∧ (∀ x ∈ ms, x.natAbs < 2 ^ n) ∧ f.num.natAbs < 2 ^ n ∧ f.den < 2 ^ k
theorem map_get {ms : List Int} {f : Int → Int} {i : Nat} (h : i < ms.length) : (ms.map f).getD i 0 = f (ms.getD i 0) := by
  rw [List.getD_eq_getElem?_getD, List.getElem?_map, List.getElem?_eq_getElem h, List.getD_eq_getElem?_getD, List.getElem?_eq_getElem h]
  rfl
theorem wr_eq {c B m n num den fn fd : Int} (hB : B ≠ 0) (hf : fn * B = c * fd) (hm : c * m = n) (hn : n * den = num * B) : m * fn * den = num * fd := by
  refine Int.eq_of_mul_eq_mul_right hB ?_
  have e1 : m * fn * den * B = m * den * (fn * B) := by grind
  have e2 : m * den * (c * fd) = c * m * den * fd := by grind
  rw [e1, hf, e2, hm, hn]
  grind
theorem wr_of {as : List (Addr × Rat)} {n k : Nat} {ms : List Int} {B : Int} {c : Nat} (h : PrimOut as n k ms B c) (hne : as ≠ []) (hl : ∀ x, as.getLast? = some x → x.2.num ≠ 0) :
    (ms.getD (ms.length - 1) 0 ≠ 0) ∧ B ≠ 0 ∧ B.natAbs < 2 ^ k ∧ ms.length = as.length ∧ (∀ x ∈ ms, x.natAbs < 2 ^ n) ∧ (0 < ms.getD (ms.length - 1) 0 → WR as (Rat.divInt (c : Int) B) ms n k) ∧ (ms.getD (ms.length - 1) 0 < 0 → WR as (Rat.divInt (-(c : Int)) B) (ms.map fun x => -1 * x) n k) := by
  obtain ⟨ns, ⟨ln, hB, hcl⟩, hBk, hc, hc0, hcn, hms, hb⟩ := h
  have la : 0 < as.length := List.length_pos_iff.mpr hne
  have lm : ms.length = as.length := by rw [hms, List.length_map, ln]
  have dv := (gc_dvd ns 0).2
  rw [← hc] at dv
  have cm : ∀ i, i < as.length → (c : Int) * ms.getD i 0 = ns.getD i 0 := fun i hi => by
    rw [hms, map_get (by omega)]
    refine Int.mul_ediv_cancel' (dv _ ?_)
    rw [List.getD_eq_getElem?_getD, List.getElem?_eq_getElem (show i < ns.length by omega)]
    exact List.getElem_mem _
  have nd : ∀ i x, as[i]? = some x → ns.getD i 0 * x.2.den = x.2.num * B := fun i x hx => by
    obtain ⟨d, v⟩ := hcl i x hx
    rw [v, Int.mul_assoc, Int.ediv_mul_cancel d]
  have ix : ∀ i x, as[i]? = some x → i < as.length := fun i x hx => (List.getElem?_eq_some_iff.mp hx).1
  have hBz : B ≠ 0 := by omega
  have e1 := frac_cross (c : Int) B hBz
  have e2 := frac_cross (-(c : Int)) B hBz
  have b1 := frac_bd (c : Int) B hBz
  have b2 := frac_bd (-(c : Int)) B hBz
  have g1 : gc 0 ms = 1 := by
    rw [hms, hc]
    exact gc_prim (by omega)
  refine ⟨fun z => ?_, hBz, hBk, lm, hb, fun hp => ⟨lm, g1, hp, fun i x hx => wr_eq hBz e1 (cm i (ix i x hx)) (nd i x hx), hb, ?_, ?_⟩, fun hp => ⟨by rw [List.length_map]; exact lm, by rw [gc_neg]; exact g1, ?_, fun i x hx => ?_, fun x hx => ?_, ?_, ?_⟩⟩
  · have e := cm (as.length - 1) (by omega)
    rw [lm] at z
    rw [z, Int.mul_zero] at e
    have hx : as[as.length - 1]? = some (as[as.length - 1]'(by omega)) := List.getElem?_eq_getElem _
    have e3 := nd _ _ hx
    rw [← e, Int.zero_mul] at e3
    have nz := hl _ (by rw [List.getLast?_eq_getElem?]; exact hx)
    exact Int.mul_ne_zero nz hBz e3.symm
  · exact Nat.lt_of_le_of_lt b1.1 (by rw [Int.natAbs_natCast]; exact hcn)
  · exact Nat.lt_of_le_of_lt b1.2 hBk
  · rw [List.length_map, map_get (by omega)]
    omega
  · refine wr_eq hBz e2 ?_ (nd i x hx)
    rw [map_get (by rw [lm]; exact ix i x hx), ← cm i (ix i x hx)]
    grind
  · obtain ⟨y, hy, rfl⟩ := List.mem_map.mp hx
    have := hb y hy
    omega
  · refine Nat.lt_of_le_of_lt b2.1 ?_
    rw [Int.natAbs_neg, Int.natAbs_natCast]
    exact hcn
  · exact Nat.lt_of_le_of_lt b2.2 hBk
noncomputable def WEnd (Q : VK) (H : Hp) (as : List (Addr × Rat)) (n k : Nat) : Prop := ∀ (pt pf pm : Addr) (f : Rat) (ms : List Int) (H' : Hp), Same H H' → H' pt = some (.tup [.ref pf, .ref pm]) → Frc H' pf f → H' pm = some (.lst (ms.map V.int)) → WR as f ms n k → Q (.ref pt) H'
@[irreducible] noncomputable def spWRow (T : Tx K mg) : Sp := fun vs H Q E => ∃ (p : Addr) (as : List (Addr × Rat)), vs = [.ref p] ∧ Row K H p as ∧ ((as.length < 2 ∧ E (.ref T.C_NoRow) none H) ∨ (2 ≤ as.length ∧ ∃ (D : Int) (n k : Nat), PrimIn as D n k ∧ (∀ x, as.getLast? = some x → x.2.num ≠ 0) ∧ WEnd Q H as n k))
theorem spWRow_mk {T : Tx K mg} {vs : List V} {H : Hp} {Q : VK} {E : XK} (h : ∃ (p : Addr) (as : List (Addr × Rat)), vs = [.ref p] ∧ Row K H p as ∧ ((as.length < 2 ∧ E (.ref T.C_NoRow) none H) ∨ (2 ≤ as.length ∧ ∃ (D : Int) (n k : Nat), PrimIn as D n k ∧ (∀ x, as.getLast? = some x → x.2.num ≠ 0) ∧ WEnd Q H as n k))) : spWRow T vs H Q E := by
  unfold spWRow
  exact h
theorem ok_whole_row (T : Tx K mg) : FnOk P w K mg base (CX1 P w) 4 T.f_whole_row T.fd_whole_row ["row"] (spWRow T) := by
  refine T.F_whole_row.okE sc_whole_row (fun vs H Q E h => ?_) (fun cdv A outer s H vs Q E hr h => ?_)
  · unfold spWRow at h
    obtain ⟨p, as, rfl, _⟩ := h
    rfl
  unfold spWRow at h
  obtain ⟨p, as, rfl, hR, h⟩ := h
  refine ⟨_, (@pss_cons _ _ _ _ _ (ps_if (pt_cmpR op_lt (pe_callB call_len_seq (by rfl) T.z_len PySem.boot_len (pa_cons (pv 0) pa_nil)) pe_int (nomark _)) (pss_one (ps_raise raiser1 rfl rfl T.c_NoRow T.e_NoRow (pa_cons pe_str pa_nil))) pss_nil)
      (@pss_cons _ _ _ _ _ (PS.nox (ps_asg (pe_call (ok_primitive T) (hr.mono (by omega)) rfl T.m_primitive T.F_primitive.kp T.b_primitive .nil pass0 (pa_cons (pv 0) pa_nil)) (pg_tup rfl (pgs_cons (pg_name (i := 1) sc_whole_row.nd rfl (by first | exact Or.inl rfl | exact Or.inr rfl)) (pgs_cons (pg_name (i := 2) sc_whole_row.nd rfl (by first | exact Or.inl rfl | exact Or.inr rfl)) (pgs_cons (pg_name (i := 3) sc_whole_row.nd rfl (by first | exact Or.inl rfl | exact Or.inr rfl)) pgs_nil))))))
      (@pss_cons _ _ _ _ _ (PS.nox (ps_if (pt_cmpR op_lt (pe_ix ix_list (pv 1) (pe_un un_neg pe_int) (fun _ _ => rfl)) pe_int (nomark _)) (pss_one (PS.nox (ps_ret (pe_tup (pa_cons (pe_call (ok_fraction0 T) (hr.mono (by omega)) rfl T.m_fraction T.F_fraction.kp T.b_fraction .nil pass0 (pa_cons (pe_un un_neg (pv 3)) (pa_cons (pv 2) pa_nil))) (pa_cons (pe_call (ok_scaled T) (hr.mono (by omega)) rfl T.m_scaled T.F_scaled.kp T.b_scaled .nil pass0 (pa_cons (pv 1) (pa_cons (pe_un un_neg pe_int) pa_nil))) pa_nil)))))) pss_nil))
      (pss_one (PS.nox (ps_ret (pe_tup (pa_cons (pe_call (ok_fraction0 T) (hr.mono (by omega)) rfl T.m_fraction T.F_fraction.kp T.b_fraction .nil pass0 (pa_cons (pv 3) (pa_cons (pv 2) pa_nil))) (pa_cons (pv 1) pa_nil))))))))), ?_⟩
  have lr : (rv as).length = as.length := List.length_map _
  refine ⟨_, rfl, p, _, rfl, .inl hR.1, ?_⟩
  rw [lr]
  walk_at "rd"
  refine itd (fun hlt => ?_) (fun hge => ?_)
  · rcases h with ⟨_, q⟩ | ⟨z, _⟩
    · exact ⟨small_len (by decide), q⟩
    · omega
  rcases h with ⟨z, _⟩ | ⟨l2, D, n, k, hin, hl, q⟩
  · omega
  walk_at "rd"
  refine spPrim_mk ⟨p, as, D, n, k, rfl, hR, hin, fun pt pl ms B c H1 s1 e1 e2 out => ?_⟩
  obtain ⟨nz, Bz, Bk, lm, bm, w1, w2⟩ := wr_of out (fun z => by rw [z] at l2; cases l2) hl
  obtain ⟨_, _, _, hk, hn, _⟩ := hin
  have msne : ms ≠ [] := fun z => by rw [z] at lm; simp only [List.length_nil] at lm; omega
  refine ⟨pt, _, rfl, SqT.of e1, rfl, _, _, rfl, _, _, rfl, _, _, rfl, rfl, ?_⟩
  refine ⟨_, rfl, _, rfl, pl, _, _, _, rfl, rfl, SqL.of e2, at_lastI msne, ?_⟩
  generalize hz : ms.getD (ms.length - 1) 0 = z at *
  walk_at "rd"
  refine itd (fun hlt => ?_) (fun hge => ?_)
  · walk_at "rd"
    refine spFrac0_mk ⟨-(c : Int), B, k, rfl, ⟨Bk, by omega⟩, Bz, fun pf H2 s2 e3 => ?_⟩
    walk_at "rd"
    refine spScaled_mk ⟨pl, ms, -1, n + 1, rfl, SqL.of (s2 _ _ e2), ⟨by omega, by show 1 < 2 ^ (n + 1); exact Nat.one_lt_two_pow (by omega), by omega, fun x hx => nat_lt (bm x hx) (by omega)⟩, fun pm H3 s3 f3 e4 => ?_⟩
    walk_at "rd"
    intro pt2 hpt2
    exact q pt2 pf pm _ _ _ (s1.trans (s2.trans (s3.trans (same_new hpt2 _)))) upd_same (upd_keep (s3 _ _ e3) hpt2) (upd_keep e4 hpt2) (w2 hlt)
  · walk_at "rd"
    refine spFrac0_mk ⟨(c : Int), B, k, rfl, ⟨Bk, by omega⟩, Bz, fun pf H2 s2 e3 => ?_⟩
    walk_at "rd"
    intro pt2 hpt2
    exact q pt2 pf pl _ _ _ (s1.trans (s2.trans (same_new hpt2 _))) upd_same (upd_keep e3 hpt2) (upd_keep (s2 _ _ e2) hpt2) (w1 (by omega))
@[irreducible] noncomputable def spAsked (T : Tx K mg) : Sp := fun vs H Q _ => ∃ (p : Addr) (as : List (Addr × Rat)), vs = [.ref p] ∧ Row K H p as ∧ ((as.length < 2 ∧ ∀ (pk a : Addr) (H' : Hp), Same H H' → H' pk = some (.tup [.non, .ref a]) → H' a = some (errO a T.C_NoRow) → Q (.ref pk) H') ∨
  (2 ≤ as.length ∧ ∃ (D : Int) (n k : Nat), PrimIn as D n k ∧ (∀ x, as.getLast? = some x → x.2.num ≠ 0) ∧ ∀ (pk pt pf pm : Addr) (f : Rat) (ms : List Int) (H' : Hp), Same H H' → H' pk = some (.tup [.ref pt, .non]) → H' pt = some (.tup [.ref pf, .ref pm]) → Frc H' pf f → H' pm = some (.lst (ms.map V.int)) → WR as f ms n k → Q (.ref pk) H'))
theorem spAsked_mk {T : Tx K mg} {vs : List V} {H : Hp} {Q : VK} {E : XK} (h : ∃ (p : Addr) (as : List (Addr × Rat)), vs = [.ref p] ∧ Row K H p as ∧ ((as.length < 2 ∧ ∀ (pk a : Addr) (H' : Hp), Same H H' → H' pk = some (.tup [.non, .ref a]) → H' a = some (errO a T.C_NoRow) → Q (.ref pk) H') ∨
  (2 ≤ as.length ∧ ∃ (D : Int) (n k : Nat), PrimIn as D n k ∧ (∀ x, as.getLast? = some x → x.2.num ≠ 0) ∧ ∀ (pk pt pf pm : Addr) (f : Rat) (ms : List Int) (H' : Hp), Same H H' → H' pk = some (.tup [.ref pt, .non]) → H' pt = some (.tup [.ref pf, .ref pm]) → Frc H' pf f → H' pm = some (.lst (ms.map V.int)) → WR as f ms n k → Q (.ref pk) H'))) : spAsked T vs H Q E := by
  unfold spAsked
  exact h
theorem ok_asked (T : Tx K mg) : FnOk P w K mg base CX0 5 T.f_asked T.fd_asked ["_law_row"] (spAsked T) := by
  refine T.F_asked.ok sc_asked (fun vs H Q E h => ?_) (fun cdv A outer s H vs Q E hr h => ?_)
  · unfold spAsked at h
    obtain ⟨p, as, rfl, _⟩ := h
    rfl
  unfold spAsked at h
  obtain ⟨p, as, rfl, hR, h⟩ := h
  refine ⟨_, (@pss_cons _ _ _ _ _ (ps_set (i := 1) sc_asked.nd rfl (by first | exact Or.inl rfl | exact Or.inr rfl) pe_non)
      (@pss_cons _ _ _ _ _ (ps_set (i := 2) sc_asked.nd rfl (by first | exact Or.inl rfl | exact Or.inr rfl) pe_non)
      (@pss_cons _ _ _ _ _ (ps_tryA (j := 1) (i := 3) ⟨rfl, rfl⟩ sc_asked.nd rfl (by first | exact Or.inl rfl | exact Or.inr rfl) rfl rfl rfl T.c_HouseError T.e_HouseError (px_call (ok_whole_row T) (hr.mono (by omega)) rfl T.m_whole_row T.F_whole_row.kp T.b_whole_row (pa_cons (pv 0) pa_nil)) (fun _ => (pss_one (ps_set (i := 2) sc_asked.nd rfl (by first | exact Or.inl rfl | exact Or.inr rfl) (pv 3)))))
      (pss_one (ps_ret (pe_tup (pa_cons (pv 1) (pa_cons (pv 2) pa_nil)))))))), ?_⟩
  walk_at "rd"
  refine spWRow_mk ⟨p, as, rfl, hR, ?_⟩
  rcases h with ⟨l2, q⟩ | ⟨l2, D, n, k, hin, hl, q⟩
  · refine .inl ⟨l2, ?_⟩
    refine ⟨_, rfl, T.e_NoRow, T.u_NoRow_HouseError, fun a ha => ?_⟩
    walk_at "rd"
    intro pk hpk
    exact q pk a _ ((same_new ha _).trans (same_new hpk _)) upd_same (upd_keep upd_same hpk)
  · refine .inr ⟨l2, D, n, k, hin, hl, fun pt pf pm f ms H' s1 e1 e2 e3 d => ?_⟩
    walk_at "rd"
    intro pk hpk
    have s2 := same_new (H := H') hpk (.tup [.ref pt, .non])
    exact q pk pt pf pm f ms _ (s1.trans s2) upd_same (s2 _ _ e1) (s2 _ _ e2) (s2 _ _ e3) d
@[irreducible] noncomputable def spRefused (T : Tx K mg) : Sp := fun vs H Q _ => ∃ (a : Addr), vs = [.ref a] ∧ H a = some (errO a T.C_NoRow) ∧ ∀ H', Same H H' → Q (.bl true) H'
theorem spRefused_mk {T : Tx K mg} {vs : List V} {H : Hp} {Q : VK} {E : XK} (h : ∃ (a : Addr), vs = [.ref a] ∧ H a = some (errO a T.C_NoRow) ∧ ∀ H', Same H H' → Q (.bl true) H') : spRefused T vs H Q E := by
  unfold spRefused
  exact h
theorem kit_any (T : Tx K mg) : PySem.W.kitAny K (.ref T.C_NoRow) ([T.C_NoLine, T.C_NoNumber, T.C_NoRoot, T.C_NoText, T.C_NoValue, T.C_TooFar].map Value.ref) = some false := by
  simp only [List.map_cons, List.map_nil, PySem.W.kitAny, T.k_NoRow_NoLine, T.k_NoRow_NoRoot, T.k_NoRow_NoNumber, T.k_NoRow_NoText, T.k_NoRow_NoValue, T.k_NoRow_TooFar]
theorem ok_refused (T : Tx K mg) : FnOk P w K mg base CX0 1 T.f_refused T.fd_refused ["_law_caught"] (spRefused T) := by
  refine T.F_refused.ok sc_refused (fun vs H Q E h => ?_) (fun cdv A outer s H vs Q E hr h => ?_)
  · unfold spRefused at h
    obtain ⟨a, rfl, _⟩ := h
    rfl
  unfold spRefused at h
  obtain ⟨a, rfl, ha, q⟩ := h
  refine ⟨_, (@pss_cons _ _ _ _ _ (ps_if (pt_val (pe_callB call_isErrT (by rfl) T.z_isinstance (by rfl) (pa_cons (pv 0) (pa_cons (pe_tup (pa_cons (pe_glob (v := .ref T.C_NoLine) rfl T.c_NoLine rfl) (pa_cons (pe_glob (v := .ref T.C_NoNumber) rfl T.c_NoNumber rfl) (pa_cons (pe_glob (v := .ref T.C_NoRoot) rfl T.c_NoRoot rfl) (pa_cons (pe_glob (v := .ref T.C_NoText) rfl T.c_NoText rfl) (pa_cons (pe_glob (v := .ref T.C_NoValue) rfl T.c_NoValue rfl) (pa_cons (pe_glob (v := .ref T.C_TooFar) rfl T.c_TooFar rfl) pa_nil))))))) pa_nil star_tup)))) (pss_one (ps_ret pe_bl)) pss_nil)
      (pss_one (ps_ret (pe_and (pe_callB call_isErr (by rfl) T.z_isinstance (by rfl) (pa_cons (pv 0) (pa_cons (pe_glob (v := .ref T.C_NoRow) rfl T.c_NoRow rfl) pa_nil))) (pe_one (pe_callB call_isErr (by rfl) T.z_isinstance (by rfl) (pa_cons (pv 0) (pa_cons (pe_bltn (v := .ty "ValueError") (u := .type "ValueError") (by rfl) T.z_ValueError (by rfl) rfl) pa_nil)))))))), ?_⟩
  refine ⟨_, rfl, small_len (by simp), fun tp htp => ?_⟩
  have s1 := same_new (H := H) htp (.tup [.ref T.C_NoLine, .ref T.C_NoNumber, .ref T.C_NoRoot, .ref T.C_NoText, .ref T.C_NoValue, .ref T.C_TooFar])
  refine ⟨a, T.C_NoRow, tp, [T.C_NoLine, T.C_NoNumber, T.C_NoRoot, T.C_NoText, T.C_NoValue, T.C_TooFar], _, rfl, s1 _ _ ha, T.e_NoRow, SqT.of upd_same, kit_any T, ?_⟩
  have ha1 := s1 _ _ ha
  generalize upd H tp _ = H1 at *
  refine ⟨_, rfl, ?_⟩
  refine ⟨_, rfl, a, _, _, _, _, rfl, ha1, T.e_NoRow, .own _, T.k_NoRow_NoRow, ?_⟩
  refine ⟨_, rfl, ?_⟩
  refine ⟨_, rfl, a, _, _, _, _, rfl, ha1, T.e_NoRow, .ty _, T.k_NoRow_ValueError, ?_⟩
  exact q _ s1
end

end Toy

set_option Elab.async false
set_option linter.all false
set_option maxRecDepth 100000
set_option maxHeartbeats 4000000
namespace Toy
open PySem L2 Num
local macro_rules | `(tactic| walk_at "hp") => `(tactic| first
  | assumption
  | exact upd_same
  | exact upd_keep (by walk_at "hp") (by assumption)
  | (rw [upd_ne (by first | assumption | exact Ne.symm (by assumption))]; walk_at "hp")
  | exact Same.get (by assumption) (by walk_at "hp"))
local macro_rules | `(tactic| walk_at "side") => `(tactic| first
  | exact mulOk_small (by omega) (by omega)
  | exact mulOk_smallR (by omega) (by omega)
  | exact cdivP_small (by omega) (by omega)
  | exact cpow_small (by decide) (by decide) (by decide)
  | (show (0 : Int) < _; omega)
  | (with_reducible show _ ≤ sizeLine; exact small_len (by simp only [List.length_cons, List.length_nil]; omega)))
local macro_rules | `(tactic| walk_at "rd1") => `(tactic| first
  | refine ⟨_, rfl, ?_⟩
  | refine ⟨_, _, rfl, rfl, ?_⟩
  | refine ⟨rfl, ?_⟩
  | refine ⟨_, _, rfl, ?_⟩
  | refine ⟨_, _, rfl, SqT.of (by walk_at "hp"), rfl, ?_⟩
  | refine ⟨_, _, _, _, rfl, rfl, SqL.of (by walk_at "hp"), (by assumption), ?_⟩
  | refine ⟨_, _, _, _, rfl, rfl, SqT.of (by walk_at "hp"), (by assumption), ?_⟩
  | (refine ⟨?sidegoal, ?_⟩; (case sidegoal => walk_at "side")))
local macro_rules | `(tactic| walk_at "rd") => `(tactic| repeat walk_at "rd1")

section
variable {P : Program} {w : World} {K : PySem.W.Frag} {mg : Str → Option Value} {base : Heap}
@[irreducible] noncomputable def spIsWR (K : PySem.W.Frag) : Sp := fun vs H Q _ => ∃ (p : Addr) (ms : List Int), vs = [.ref p] ∧ H p = some (.lst (ms.map V.int)) ∧ (2 ≤ ms.length ∧ ms.length ≤ 100 ∧ gc 0 ms = 1 ∧ 0 < ms.getD (ms.length - 1) 0) ∧ ∀ H', Same H H' → Q (.bl true) H'
theorem spIsWR_mk {vs : List V} {H : Hp} {Q : VK} {E : XK} (h : ∃ (p : Addr) (ms : List Int), vs = [.ref p] ∧ H p = some (.lst (ms.map V.int)) ∧ (2 ≤ ms.length ∧ ms.length ≤ 100 ∧ gc 0 ms = 1 ∧ 0 < ms.getD (ms.length - 1) 0) ∧ ∀ H', Same H H' → Q (.bl true) H') : spIsWR K vs H Q E := by
  unfold spIsWR
  exact h
theorem ok_is_whole_row (T : Tx K mg) : FnOk P w K mg base CX0 2 T.f_is_whole_row T.fd_is_whole_row ["_law_found"] (spIsWR K) := by
  refine T.F_is_whole_row.ok sc_is_whole_row (fun vs H Q E h => ?_) (fun cdv A outer s H vs Q E hr h => ?_)
  · unfold spIsWR at h
    obtain ⟨p, ms, rfl, _⟩ := h
    rfl
  unfold spIsWR at h
  obtain ⟨p, ms, rfl, hp, ⟨l2, l100, g1, lz⟩, q⟩ := h
  refine ⟨_, (@pss_cons _ _ _ _ _ (ps_if (PW.pt (pw_or (pt_not (pt_val (pe_callB call_isinst (by rfl) T.z_isinstance (by rfl) (pa_cons (pv 0) (pa_cons (pe_bltn (v := .ty "list") (u := .type "list") (by rfl) T.z_list (by rfl) rfl) pa_nil))))) (pw_or (pt_cmpR op_lt (pe_callB call_len_seq (by rfl) T.z_len PySem.boot_len (pa_cons (pv 0) pa_nil)) pe_int (nomark _)) (pw_or1 (pt_not (pt_val (pe_callB (call_allB rfl) (by rfl) T.z_all (by rfl) (pa_cons (pe_comp ["_law_number"] ["_law_found", "_law_share", "_law_number!"] rfl (by show compOk _ (defScope s_is_whole_row) ["_law_found", "_law_share", "_law_number"] ["_law_found", "_law_share", "_law_number!"] ["_law_number"] = true; decide +kernel) (pi_list (pv 0)) (fun _ _ _ _ => (pg_name (i := 0) (show List.Nodup ((["_law_number"] : List Str) ++ (["_law_found", "_law_share", "_law_number!"] : List Str)) by decide +kernel) rfl (Or.inl rfl) (Or.inr rfl))) (fun _ _ _ _ => pf_nil) (fun _ _ _ _ => (pe_call (ok_whole T) (hr.mono (by omega)) rfl T.m_whole T.F_whole.kp T.b_whole .nil pass0 (pa_cons (pv 0) pa_nil)))) pa_nil)))))))) (pss_one (ps_ret pe_bl)) pss_nil)
      (@pss_cons _ _ _ _ _ (ps_set (i := 1) sc_is_whole_row.nd rfl (by first | exact Or.inl rfl | exact Or.inr rfl) pe_int)
      (@pss_cons _ _ _ _ _ (ps_for PassesOwn.never rfl (pi_list (pv 0)) (pg_name (i := 2) sc_is_whole_row.nd rfl (by first | exact Or.inl rfl | exact Or.inr rfl)) (pss_one (ps_set (i := 1) sc_is_whole_row.nd rfl (by first | exact Or.inl rfl | exact Or.inr rfl) (pe_call (ok_divisor T) (hr.mono (by omega)) rfl T.m_divisor T.F_divisor.kp T.b_divisor .nil pass0 (pa_cons (pv 1) (pa_cons (pv 2) pa_nil))))))
      (pss_one (ps_ret (pe_and (pe_cmpR op_gt (pe_ix ix_list (pv 0) (pe_un un_neg pe_int) (fun _ _ => rfl)) pe_int (nomark _)) (pe_one (pe_cmpR op_eq (pv 1) pe_int (nomark _))))))))), ?_⟩
  have lm : (ms.map V.int).length = ms.length := List.length_map _
  walk_at "rd"
  refine ⟨_, _, _, _, rfl, .lst hp, kit_self _ _, ?_⟩
  walk_at "rd"
  refine ⟨p, _, rfl, .inl (SqL.of hp), ?_⟩
  rw [lm]
  walk_at "rd"
  refine itd (fun h => absurd h (by omega)) (fun _ => ?_)
  walk_at "rd"
  refine ⟨⟨_, SqL.of hp⟩, fun D hD => comp_list (K := K) (a := p) (xs := ms.map V.int) (fun i ys H3 => Same H H3 ∧ H3 D = some (.lst ys) ∧ ys = (List.replicate i true).map V.bl) ?_ ?_ ?_ ?_⟩
  · exact ⟨same_new hD _, upd_same, rfl⟩
  · rintro i ys H3 ⟨sm, _⟩
    exact sm.seq (SqL.of hp)
  · rintro i y ys H3 hy ⟨sm, hyD, rfl⟩
    obtain ⟨z, rfl, hz, hi2⟩ := ints_get hy
    refine ⟨_, rfl, z, rfl, ?_⟩
    refine cnext (zs := (List.replicate (i + 1) true).map V.bl) (by rw [lm]; exact hi2) hyD (by rw [List.length_map, List.length_replicate]; exact small1000 (by omega)) ⟨same_upd sm hD _, ?_, rfl⟩
    rw [upd_same, List.replicate_succ', List.map_append]
    rfl
  · rintro ys H3 ⟨sm, hyD, rfl⟩
    refine ⟨D, _, rfl, SqL.of hyD, ?_⟩
    have e : (List.replicate (ms.map V.int).length true).all id = true := by simp
    rw [e]
    walk_at "rd"
    have hp3 := sm _ _ hp
    refine ⟨⟨_, SqL.of hp3⟩, for_list (K := K) (a := p) (xs := ms.map V.int) (fun i σ H4 => ∃ (v2 : Option V), (i ≤ ms.length ∧ H4 = H3) ∧ σ = [some (.ref p), some (.int ((gc 0 (ms.take i) : Nat) : Int)), v2]) ?_ ?_ ?_ ?_⟩
    · exact ⟨_, ⟨Nat.zero_le _, rfl⟩, rfl⟩
    · rintro i σ H4 _ ⟨v2, ⟨_, rfl⟩, rfl⟩
      exact SqL.of hp3
    · rintro i x σ H4 hx ⟨v2, ⟨hi, rfl⟩, rfl⟩
      have ex := hx
      obtain ⟨z, rfl, hz, hi2⟩ := ints_get hx
      have ez : ms[i]? = some z := by
        rw [List.getElem?_map] at ex
        cases e : ms[i]? with
        | none => rw [e] at ex; cases ex
        | some z' => rw [e] at ex; rw [V.int.inj (Option.some.inj ex)]
      have et : gc 0 (ms.take (i + 1)) = Int.gcd ((gc 0 (ms.take i) : Nat) : Int) z := by
        rw [List.take_add_one, ez, Int.gcd_comm]
        exact gc_app z _ _
      refine ⟨_, rfl, _, rfl, _, z, rfl, ?_⟩
      rw [← et]
      exact ⟨_, ⟨hi2, rfl⟩, rfl⟩
    · rintro σ H4 ⟨v2, ⟨_, rfl⟩, rfl⟩
      rw [lm, List.take_length, g1]
      have msne : ms ≠ [] := fun z => by rw [z] at l2; cases l2
      refine ⟨_, rfl, _, rfl, p, _, _, _, rfl, rfl, SqL.of hp3, at_lastI msne, ?_⟩
      generalize ms.getD (ms.length - 1) 0 = z at *
      walk_at "rd"
      refine itd (fun _ => ?_) (fun h => absurd lz h)
      walk_at "rd"
      exact q _ sm
noncomputable def Drawn (as : List (Addr × Rat)) : Prop := as.length ≤ 21 ∧ (∀ x ∈ as, Bd 100 x.2) ∧ ∀ x, as.getLast? = some x → x.2.num ≠ 0
theorem pick {ns : List Int} {j : Int} {P : Int → Prop} (h0 : 0 ≤ j) (h1 : j < (ns.length : Int)) (hP : ∀ x ∈ ns, P x) : ∃ t, atI (ns.map V.int) j = some (.int t) ∧ P t := ⟨_, at_ints h0 h1, getD_mem hP (k := j.toNat) (by omega)⟩
theorem num_bd {top y number : Int} (h1 : 1 ≤ y) (h2 : -(top / y) ≤ number ∧ number ≤ top / y) (h3 : 0 ≤ top) (h4 : top ≤ 1000000000000000000000000000000) : (y * number).natAbs < 2 ^ 100 := by
  have e1 : y * (top / y) ≤ top := Int.mul_ediv_self_le (by omega)
  have e2 : y * number ≤ y * (top / y) := Int.mul_le_mul_of_nonneg_left h2.2 (by omega)
  have e3 : y * (-(top / y)) ≤ y * number := Int.mul_le_mul_of_nonneg_left h2.1 (by omega)
  rw [Int.mul_neg] at e3
  generalize y * number = a at *
  generalize y * (top / y) = b at *
  omega
@[irreducible] noncomputable def spDraw (K : PySem.W.Frag) : Sp := fun vs H Q _ => ∃ (c : Int), vs = [.int c] ∧ ∀ (p : Addr) (as : List (Addr × Rat)) (H' : Hp), Same H H' → H' p = some (.lst (rv as)) → (∀ x ∈ as, FR H' x.1 x.2) → Drawn as → Q (.ref p) H'
theorem spDraw_mk {vs : List V} {H : Hp} {Q : VK} {E : XK} (h : ∃ (c : Int), vs = [.int c] ∧ ∀ (p : Addr) (as : List (Addr × Rat)) (H' : Hp), Same H H' → H' p = some (.lst (rv as)) → (∀ x ∈ as, FR H' x.1 x.2) → Drawn as → Q (.ref p) H') : spDraw K vs H Q E := by
  unfold spDraw
  exact h
theorem ok_drawn_row (T : Tx K mg) : FnOk P w K mg base CX0 3 T.f_drawn_row T.fd_drawn_row ["_law_cell_here"] (spDraw K) := by
  refine T.F_drawn_row.ok sc_drawn_row (fun vs H Q E h => ?_) (fun cdv A outer s H vs Q E hr h => ?_)
  · unfold spDraw at h
    obtain ⟨c, rfl, _⟩ := h
    rfl
  unfold spDraw at h
  obtain ⟨c, rfl, q⟩ := h
  refine ⟨_, (@pss_cons _ _ _ _ _ (ps_set (i := 1) sc_drawn_row.nd rfl (by first | exact Or.inl rfl | exact Or.inr rfl) (pe_call (ok_things T) (hr.mono (by omega)) rfl T.m_things T.F_things.kp T.b_things .nil pass0 (pa_cons (pv 0) (pa_cons pe_int pa_nil))))
      (@pss_cons _ _ _ _ _ (ps_set (i := 2) sc_drawn_row.nd rfl (by first | exact Or.inl rfl | exact Or.inr rfl) (pe_ix ix_list (pe_lst (pa_cons (pe_powc (v := 1000000) (by decide) (cpow_small (by decide) (by decide) (by decide))) (pa_cons (pe_powc (v := 1000000) (by decide) (cpow_small (by decide) (by decide) (by decide))) (pa_cons (pe_powc (v := 1000000) (by decide) (cpow_small (by decide) (by decide) (by decide))) (pa_cons (pe_powc (v := 1000000000000000000000000000000) (by decide) (cpow_small (by decide) (by decide) (by decide))) pa_nil))))) (pe_op op_mod (pe_ix ix_list (pv 1) pe_int (fun _ _ => rfl)) pe_int) (fun _ _ => rfl)))
      (@pss_cons _ _ _ _ _ (ps_set (i := 3) sc_drawn_row.nd rfl (by first | exact Or.inl rfl | exact Or.inr rfl) (pe_ix ix_list (pe_lst (pa_cons pe_int (pa_cons pe_int (pa_cons pe_int (pa_cons (pe_powc (v := 100000000000000000000) (by decide) (cpow_small (by decide) (by decide) (by decide))) pa_nil))))) (pe_op op_mod (pe_op op_fdivP (pe_ix ix_list (pv 1) pe_int (fun _ _ => rfl)) pe_int) pe_int) (fun _ _ => rfl)))
      (@pss_cons _ _ _ _ _ (ps_set (i := 4) sc_drawn_row.nd rfl (by first | exact Or.inl rfl | exact Or.inr rfl) (pe_ix ix_list (pe_lst (pa_cons pe_int (pa_cons pe_int (pa_cons (pe_op op_add pe_int (pe_op op_mod (pe_ix ix_list (pv 1) pe_int (fun _ _ => rfl)) pe_int)) pa_nil)))) (pe_op op_mod (pe_op op_fdivP (pe_ix ix_list (pv 1) pe_int (fun _ _ => rfl)) pe_int) pe_int) (fun _ _ => rfl)))
      (@pss_cons _ _ _ _ _ (ps_set (i := 5) sc_drawn_row.nd rfl (by first | exact Or.inl rfl | exact Or.inr rfl) (pe_lst pa_nil))
      (@pss_cons _ _ _ _ _ (ps_for PassesOwn.never rfl (pi_range1 rfl T.z_range (pa_cons (pe_op op_mod (pe_ix ix_list (pv 1) pe_int (fun _ _ => rfl)) (pe_ix ix_list (pe_lst (pa_cons pe_int (pa_cons pe_int pa_nil))) (pe_op op_mod (pe_op op_fdivP (pe_ix ix_list (pv 1) pe_int (fun _ _ => rfl)) pe_int) pe_int) (fun _ _ => rfl))) pa_nil)) (pg_name (i := 6) sc_drawn_row.nd rfl (by first | exact Or.inl rfl | exact Or.inr rfl)) (@pss_cons _ _ _ _ _ (ps_set (i := 7) sc_drawn_row.nd rfl (by first | exact Or.inl rfl | exact Or.inr rfl) (pe_op op_fdivP (pv 2) (pv 4)))
      (@pss_cons _ _ _ _ _ (ps_set (i := 8) sc_drawn_row.nd rfl (by first | exact Or.inl rfl | exact Or.inr rfl) (pe_op op_add (pe_op op_mulG (pe_ix ix_list (pv 1) (pe_op op_add pe_int (pe_op op_mulG pe_int (pv 6))) (fun _ _ => rfl)) (pe_powc (v := 1000000000000000000000) (by decide) (cpow_small (by decide) (by decide) (by decide)))) (pe_op op_mulG (pe_ix ix_list (pv 1) (pe_op op_add pe_int (pe_op op_mulG pe_int (pv 6))) (fun _ _ => rfl)) (pe_powc (v := 1000000000) (by decide) (cpow_small (by decide) (by decide) (by decide))))))
      (@pss_cons _ _ _ _ _ (ps_set (i := 9) sc_drawn_row.nd rfl (by first | exact Or.inl rfl | exact Or.inr rfl) (pe_op op_sub (pe_op op_mod (pe_op op_add (pv 8) (pe_ix ix_list (pv 1) (pe_op op_add pe_int (pe_op op_mulG pe_int (pv 6))) (fun _ _ => rfl))) (pe_op op_add (pe_op op_mulG pe_int (pv 7)) pe_int)) (pv 7)))
      (@pss_cons _ _ _ _ _ (ps_set (i := 10) sc_drawn_row.nd rfl (by first | exact Or.inl rfl | exact Or.inr rfl) (pe_op op_add pe_int (pe_op op_mod (pe_op op_mulG (pe_ix ix_list (pv 1) (pe_op op_add pe_int (pe_op op_mulG pe_int (pv 6))) (fun _ _ => rfl)) (pe_ix ix_list (pv 1) (pe_op op_add pe_int (pe_op op_mulG pe_int (pv 6))) (fun _ _ => rfl))) (pv 3))))
      (pss_one (ps_expr (pe_bm PySem.F.plainAttrs_list PySem.F.slot_list_append PySem.F.type_list_append mt_append (pv 5) (pa_cons (pe_call (ok_lowest T) (hr.mono (by omega)) rfl T.m_lowest T.F_lowest.kp T.b_lowest .nil pass0 (pa_cons (pe_op op_mulG (pv 4) (pv 9)) (pa_cons (pv 10) pa_nil))) pa_nil)))))))))
      (@pss_cons _ _ _ _ _ (ps_while PassesOwn.never (PW.pt (pw_and (pt_cmpR (op_neT hr.units) (pv 5) (pe_lst pa_nil) (nomark _)) (pw_and1 (pt_cmpR op_eq (pe_ix ix_tup (pe_ix ix_list (pv 5) (pe_un un_neg pe_int) (fun _ _ => rfl)) pe_int (fun _ _ => rfl)) pe_int (nomark _))))) (pss_one (ps_expr (pe_bm0 PySem.F.plainAttrs_list PySem.F.slot_list_pop PySem.F.type_list_pop mt_pop (pv 5)))))
      (pss_one (ps_ret (pv 5)))))))))), ?_⟩
  walk_at "rd"
  refine ⟨by decide, by decide, fun px xs H1 s1 _ hpx hxl hxb => ?_⟩
  have b0 := getD_mem hxb (k := 0) (by omega)
  have b2 := getD_mem hxb (k := 2) (by omega)
  have a0 : atI (xs.map V.int) 0 = some (.int (xs.getD 0 0)) := at_ints (by decide) (by omega)
  have a1 : atI (xs.map V.int) 1 = some (.int (xs.getD 1 0)) := at_ints (by decide) (by omega)
  have a2 : atI (xs.map V.int) 2 = some (.int (xs.getD 2 0)) := at_ints (by decide) (by omega)
  generalize xs.getD 0 0 = x0 at b0 a0
  generalize xs.getD 1 0 = x1 at a1
  generalize xs.getD 2 0 = x2 at b2 a2
  obtain ⟨top, t1, t2, t3⟩ := pick (ns := [1000000, 1000000, 1000000, 1000000000000000000000000000000]) (j := x0 % 4) (P := fun t => 1000000 ≤ t ∧ t ≤ 1000000000000000000000000000000) (by omega) (by show _ < (4 : Int); omega) (by
    intro n hn
    simp only [List.mem_cons, List.not_mem_nil, or_false] at hn
    omega)
  obtain ⟨bot, u1, u2, u3⟩ := pick (ns := [9, 9, 9, 100000000000000000000]) (j := x0 / 4 % 4) (P := fun t => 9 ≤ t ∧ t ≤ 100000000000000000000) (by omega) (by show _ < (4 : Int); omega) (by
    intro n hn
    simp only [List.mem_cons, List.not_mem_nil, or_false] at hn
    omega)
  obtain ⟨y, v1, v2, v3⟩ := pick (ns := [1, 1, 1 + x1 % 99]) (j := x0 / 16 % 3) (P := fun t => 1 ≤ t ∧ t ≤ 99) (by omega) (by show _ < (3 : Int); omega) (by
    intro n hn
    simp only [List.mem_cons, List.not_mem_nil, or_false] at hn
    omega)
  obtain ⟨l, w1, w2, w3⟩ := pick (ns := [11, 22]) (j := x0 / 64 % 2) (P := fun t => 11 ≤ t ∧ t ≤ 22) (by omega) (by show _ < (2 : Int); omega) (by
    intro n hn
    simp only [List.mem_cons, List.not_mem_nil, or_false] at hn
    omega)
  walk_at "rd"
  intro p1 hp1
  walk_at "rd"
  intro p2 hp2
  walk_at "rd"
  intro p3 hp3
  walk_at "rd"
  intro pf hpf
  have sA := (same_new (H := H1) hp1 _).trans ((same_new hp2 _).trans (same_new hp3 (.lst [.int 1, .int 1, .int (1 + x1 % 99)])))
  have fpf : H pf = none := s1.free (sA.free hpf)
  have npx : px ≠ pf := ne_of_none (sA _ _ hpx) hpf
  walk_at "rd"
  intro p5 hp5
  walk_at "rd"
  have r0 : 0 ≤ x2 % l := Int.emod_nonneg _ (by omega)
  have r1 : x2 % l < l := Int.emod_lt_of_pos _ (by omega)
  refine ⟨by omega, by omega, for_range (n := (x2 % l).toNat) (fun i σ H3 => ∃ (as : List (Addr × Rat)) (v6 v7 v8 v9 v10 : Option V), (as.length = i ∧ (∀ x ∈ as, FR H3 x.1 x.2 ∧ Bd 100 x.2)) ∧ Same H H3 ∧ H3 px = some (.lst (xs.map V.int)) ∧ H3 pf = some (.lst (rv as)) ∧ σ = [some (.int c), some (.ref px), some (.int top), some (.int bot), some (.int y), some (.ref pf), v6, v7, v8, v9, v10]) ?_ ?_ ?_⟩
  · exact ⟨[], _, _, _, _, _, ⟨rfl, by simp⟩, s1.trans (sA.trans ((same_new hpf _).trans (same_new hp5 _))), (by walk_at "hp"), (by walk_at "hp"), rfl⟩
  · rintro i σ H3 hi ⟨as, v6, v7, v8, v9, v10, ⟨hl, has⟩, s3, hx3, hf3, rfl⟩
    clear hp5 hpf sA hp3 hp2 hp1
    have c3 := getD_mem hxb (k := 3 + 3 * i) (by omega)
    have c4 := getD_mem hxb (k := 4 + 3 * i) (by omega)
    have c5 := getD_mem hxb (k := 5 + 3 * i) (by omega)
    have d3 : atI (xs.map V.int) (3 + 3 * (0 + (i : Int))) = some (.int (xs.getD (3 + 3 * i) 0)) := by
      have := at_ints (ns := xs) (j := 3 + 3 * (0 + (i : Int))) (by omega) (by omega)
      rw [this, show (3 + 3 * (0 + (i : Int))).toNat = 3 + 3 * i by omega]
    have d4 : atI (xs.map V.int) (4 + 3 * (0 + (i : Int))) = some (.int (xs.getD (4 + 3 * i) 0)) := by
      have := at_ints (ns := xs) (j := 4 + 3 * (0 + (i : Int))) (by omega) (by omega)
      rw [this, show (4 + 3 * (0 + (i : Int))).toNat = 4 + 3 * i by omega]
    have d5 : atI (xs.map V.int) (5 + 3 * (0 + (i : Int))) = some (.int (xs.getD (5 + 3 * i) 0)) := by
      have := at_ints (ns := xs) (j := 5 + 3 * (0 + (i : Int))) (by omega) (by omega)
      rw [this, show (5 + 3 * (0 + (i : Int))).toNat = 5 + 3 * i by omega]
    generalize xs.getD (3 + 3 * i) 0 = y3 at c3 d3
    generalize xs.getD (4 + 3 * i) 0 = y4 at c4 d4
    generalize xs.getD (5 + 3 * i) 0 = y5 at c5 d5
    have m0 : 0 ≤ top / y := Int.ediv_nonneg (by omega) (by omega)
    have nb : ∀ number : Int, -(top / y) ≤ number ∧ number ≤ top / y → (y * number).natAbs < 2 ^ 100 := fun number h => num_bd v2 h (by omega) t3
    have lo : 0 ≤ y5 * y4 % bot := Int.emod_nonneg _ (by omega)
    have lo2 : y5 * y4 % bot < bot := Int.emod_lt_of_pos _ (by omega)
    have nu0 : 0 ≤ (y3 * 1000000000000000000000 + y4 * 1000000000 + y3) % (2 * (top / y) + 1) := Int.emod_nonneg _ (by omega)
    have nu1 : (y3 * 1000000000000000000000 + y4 * 1000000000 + y3) % (2 * (top / y) + 1) < 2 * (top / y) + 1 := Int.emod_lt_of_pos _ (by omega)
    have nu := nb ((y3 * 1000000000000000000000 + y4 * 1000000000 + y3) % (2 * (top / y) + 1) - top / y) (by omega)
    have nu2 : ((y3 * 1000000000000000000000 + y4 * 1000000000 + y3) % (2 * (top / y) + 1) - top / y).natAbs < 2 ^ 110 := by
      have : top / y ≤ top := Int.ediv_le_self _ (by omega)
      omega
    walk_at "rd"
    dsimp only
    generalize (y3 * 1000000000000000000000 + y4 * 1000000000 + y3) % (2 * (top / y) + 1) - top / y = number at *
    generalize y5 * y4 % bot = low at *
    refine ⟨.inl ⟨rfl, _, SqL.of hf3⟩, ?_⟩
    refine ⟨_, rfl, _, rfl, _, _, rfl, rfl, mulOk_pow (n := 7) (show y.natAbs < 2 ^ 7 by omega) nu2 (by decide), _, rfl, ?_⟩
    refine spLow_mk ⟨y * number, 1 + low, 100, rfl, ⟨by decide, by omega, by omega⟩, fun pn H5 s5 _ hq5 => ?_⟩
    have bq : Bd 100 (Rat.divInt (y * number) (1 + low)) := bd_div (by omega) nu (by omega)
    generalize Rat.divInt (y * number) (1 + low) = rr at *
    have hf5 := s5 _ _ hf3
    refine ⟨pf, _, _, rfl, rfl, hf5, by rw [List.length_map]; exact small1000 (by omega), ?_⟩
    refine ⟨as ++ [(pn, rr)], _, _, _, _, _, ⟨by simp [hl], fun x hx => ?_⟩, same_upd (s3.trans s5) fpf _, ?_, by rw [upd_same]; show _ = some (HO.lst ((as ++ [(pn, rr)]).map fun x => V.ref x.1)); rw [List.map_append]; rfl, rfl⟩
    · rcases List.mem_append.mp hx with h | h
      · exact ⟨frc_keep (s5 _ _ (has x h).1) hf5, (has x h).2⟩
      · rw [List.mem_singleton] at h
        subst h
        exact ⟨frc_keep hq5 hf5, bq⟩
    · rw [upd_ne npx]
      exact s5 _ _ hx3
  · rintro σ H3 ⟨as, v6, v7, v8, v9, v10, ⟨hl, has⟩, s3, hx3, hf3, rfl⟩
    have inv : 2 ≤ 2 := Nat.le_refl _
    refine ⟨fun n σ H4 => ∃ (as : List (Addr × Rat)), (n = as.length ∧ as.length ≤ 21 ∧ ∀ x ∈ as, FR H4 x.1 x.2 ∧ Bd 100 x.2) ∧ Same H H4 ∧ H4 pf = some (.lst (rv as)) ∧ σ = [some (.int c), some (.ref px), some (.int top), some (.int bot), some (.int y), some (.ref pf), v6, v7, v8, v9, v10], ⟨_, as, ⟨rfl, by omega, has⟩, s3, hf3, rfl⟩, ?_⟩
    clear has hl hf3 hx3 s3 as
    rintro n σ H4 ⟨as, ⟨rfl, l21, has⟩, s4, hf4, rfl⟩
    refine ⟨_, rfl, small_len (by simp), fun p0 hp0 => ?_⟩
    have s5 : Same H4 (upd H4 p0 (.lst [])) := same_new hp0 _
    have e5 : upd H4 p0 (.lst []) p0 = some (.lst []) := upd_same
    generalize upd H4 p0 (.lst []) = H5 at *
    have hf5 := s5 _ _ hf4
    have has5 : ∀ x ∈ as, FR H5 x.1 x.2 := fun x hx => s5 _ _ (has x hx).1
    refine ⟨_, _, dt_row ⟨SqL.of hf5, has5⟩, dt_nil (SqL.of e5), ⟨.of (tr_row _) (by decide), .of (tr_row _) (by decide)⟩, fun b hb => ⟨_, rfl, ?_⟩⟩
    refine itb (fun hbt => ?_) (fun hbf => ?_)
    · have hne : as ≠ [] := fun z => by
        rw [hb.mpr (by rw [z]; rfl)] at hbt
        cases hbt
      obtain ⟨as', x, rfl⟩ : ∃ as' x, as = as' ++ [x] := ⟨as.dropLast, as.getLast hne, (List.dropLast_concat_getLast hne).symm⟩
      have erv : rv (as' ++ [x]) = rv as' ++ [V.ref x.1] := List.map_append
      have fx := has5 x (List.mem_append_right _ (List.mem_singleton.mpr rfl))
      have a0 : atI [V.int x.2.num, V.int x.2.den] 0 = some (.int x.2.num) := rfl
      refine ⟨_, rfl, _, rfl, pf, _, _, _, rfl, rfl, SqL.of hf5, by rw [erv]; exact atI_last _ _, ?_⟩
      refine ⟨x.1, _, _, _, rfl, rfl, SqT.of fx, a0, ?_⟩
      refine ⟨rfl, _, rfl, ?_⟩
      refine itd (fun hz => ?_) (fun hz => ?_)
      · refine ⟨fun σ' H2 => ∃ m', m' < (as' ++ [x]).length ∧ ∃ (as : List (Addr × Rat)), (m' = as.length ∧ as.length ≤ 21 ∧ ∀ x ∈ as, FR H2 x.1 x.2 ∧ Bd 100 x.2) ∧ Same H H2 ∧ H2 pf = some (.lst (rv as)) ∧ σ' = [some (.int c), some (.ref px), some (.int top), some (.int bot), some (.int y), some (.ref pf), v6, v7, v8, v9, v10], fun _ _ z => z, ?_⟩
        refine ⟨_, rfl, .inl ⟨rfl, _, SqL.of hf5⟩, pf, _, V.ref x.1, rfl, rfl, hf5, ?_, ?_⟩
        · rw [erv]
          simp
        · have ed : (rv (as' ++ [x])).dropLast = rv as' := by rw [erv, List.dropLast_concat]
          rw [ed]
          rw [List.length_append] at l21
          refine ⟨as'.length, by simp, as', ⟨rfl, by omega, fun y hy => ?_⟩, same_upd (s4.trans s5) fpf _, upd_same, rfl⟩
          have hm := List.mem_append_left [x] hy
          exact ⟨frc_keep (has5 y hm) hf5, (has y hm).2⟩
      · refine ⟨_, rfl, q pf _ H5 (s4.trans s5) hf5 has5 ⟨l21, fun y hy => (has y hy).2, fun y hy => ?_⟩⟩
        rw [List.getLast?_concat] at hy
        cases hy
        exact fun z => hz (congrArg V.int z)
    · have hz : as = [] := by
        have : b = true := by simpa using hbf
        exact rq_nil.mp (dRow_inj.mp (hb.mp this))
      subst hz
      refine ⟨_, rfl, q pf [] H5 (s4.trans s5) hf5 has5 ⟨by simp, by simp, fun y hy => by cases hy⟩⟩
end

end Toy

set_option Elab.async false
set_option linter.all false
set_option maxRecDepth 100000
set_option maxHeartbeats 4000000
namespace Toy
open PySem L2 Num
local macro_rules | `(tactic| walk_at "hp") => `(tactic| first
  | assumption
  | exact upd_same
  | exact upd_keep (by walk_at "hp") (by assumption)
  | (rw [upd_ne (by first | assumption | exact Ne.symm (by assumption))]; walk_at "hp")
  | exact Same.get (by assumption) (by walk_at "hp"))
local macro_rules | `(tactic| walk_at "side") => `(tactic| first
  | exact mulOk_small (by omega) (by omega)
  | exact mulOk_smallR (by omega) (by omega)
  | exact cdivP_small (by omega) (by omega)
  | exact cpow_small (by decide) (by decide) (by decide)
  | (show (0 : Int) < _; omega)
  | (with_reducible show _ ≤ sizeLine; exact small_len (by simp only [List.length_cons, List.length_nil]; omega)))
local macro_rules | `(tactic| walk_at "rd1") => `(tactic| first
  | refine ⟨_, rfl, ?_⟩
  | refine ⟨_, _, rfl, rfl, ?_⟩
  | refine ⟨rfl, ?_⟩
  | refine ⟨_, _, rfl, ?_⟩
  | refine ⟨_, _, rfl, SqT.of (by walk_at "hp"), rfl, ?_⟩
  | refine ⟨_, _, _, _, rfl, rfl, SqL.of (by walk_at "hp"), (by assumption), ?_⟩
  | refine ⟨_, _, _, _, rfl, rfl, SqT.of (by walk_at "hp"), (by assumption), ?_⟩
  | (refine ⟨?sidegoal, ?_⟩; (case sidegoal => walk_at "side")))
local macro_rules | `(tactic| walk_at "rd") => `(tactic| repeat walk_at "rd1")

section
variable {P : Program} {w : World} {K : PySem.W.Frag} {mg : Str → Option Value} {base : Heap}
theorem rq_len (cs : List (Addr × Rat)) : (rq cs).length = cs.length := List.length_map _
theorem rv_len (cs : List (Addr × Rat)) : (rv cs).length = cs.length := List.length_map _
theorem bd_rq {cs : List (Addr × Rat)} {n : Nat} (h : ∀ x ∈ cs, Bd n x.2) : ∀ x ∈ rq cs, Bd n x := fun x hx => by
  obtain ⟨y, hy, rfl⟩ := List.mem_map.mp hx
  exact h y hy
end

theorem cd_of {as : List (Addr × Rat)} {n : Nat} (h : ∀ x ∈ as, Bd n x.2) : ∀ x ∈ as, Cd (dens (rq as)) (n * (as.length + 1) + 1) x.2 := fun x hx => by
  have := dens_cd (bd_rq h) x.2 (List.mem_map_of_mem hx)
  rw [rq_len] at this
  exact this
theorem dn_of {as : List (Addr × Rat)} {n : Nat} (h : ∀ x ∈ as, Bd n x.2) : (dens (rq as)).natAbs < 2 ^ (n * as.length + 1) := by
  have := dens_bd (rq as) (bd_rq h)
  rw [rq_len] at this
  exact this
section
variable {P : Program} {w : World} {K : PySem.W.Frag} {mg : Str → Option Value} {base : Heap}
theorem prim_in {as : List (Addr × Rat)} (h : Drawn as) (h2 : 2 ≤ as.length) : PrimIn as (dens (rq as)) (100 * (as.length + 1) + 1) (100 * as.length + 1) := by
  obtain ⟨l, b, z⟩ := h
  refine ⟨cd_of b, dens_pos _, dn_of b, by omega, by omega, by omega, ?_⟩
  have hne : as ≠ [] := fun e => by rw [e] at h2; cases h2
  exact ⟨as.getLast hne, List.getLast_mem hne, z _ (List.getLast?_eq_some_getLast hne)⟩
theorem wr_low {f x : Rat} {m : Int} (h : m * f.num * x.den = x.num * f.den) : Rat.divInt (m * f.num) f.den = x := by
  conv => rhs; rw [← Rat.num_divInt_den x]
  exact (Rat.divInt_eq_divInt_iff (dz f) (dz x)).mpr h
theorem rq_take {cs as : List (Addr × Rat)} {i : Nat} {x : Addr × Rat} {p : Addr} (h : rq cs = (rq as).take i) (hx : as[i]? = some x) : rq (cs ++ [(p, x.2)]) = (rq as).take (i + 1) := by
  have e : (rq as)[i]? = some x.2 := by
    unfold rq
    rw [List.getElem?_map, hx]
    rfl
  rw [List.take_add_one, e]
  show (cs ++ [(p, x.2)]).map _ = _
  rw [List.map_append]
  exact congrArg (· ++ [x.2]) h
@[irreducible] noncomputable def spRight (K : PySem.W.Frag) : Sp := fun vs H Q _ => ∃ (p : Addr) (as : List (Addr × Rat)), vs = [.ref p] ∧ H p = some (.lst (rv as)) ∧ (∀ x ∈ as, FR H x.1 x.2) ∧ Drawn as ∧ ∀ H', Same H H' → Q (.bl true) H'
theorem spRight_mk {vs : List V} {H : Hp} {Q : VK} {E : XK} (h : ∃ (p : Addr) (as : List (Addr × Rat)), vs = [.ref p] ∧ H p = some (.lst (rv as)) ∧ (∀ x ∈ as, FR H x.1 x.2) ∧ Drawn as ∧ ∀ H', Same H H' → Q (.bl true) H') : spRight K vs H Q E := by
  unfold spRight
  exact h
theorem ok_right (T : Tx K mg) : FnOk P w K mg base CX0 6 T.f_right T.fd_right ["_law_row"] (spRight K) := by
  refine T.F_right.ok sc_right (fun vs H Q E h => ?_) (fun cdv A outer s H vs Q E hr h => ?_)
  · unfold spRight at h
    obtain ⟨p, as, rfl, _⟩ := h
    rfl
  unfold spRight at h
  obtain ⟨p, as, rfl, hp, fa, dr, q⟩ := h
  refine ⟨_, (@pss_cons _ _ _ _ _ (ps_set (i := 1) sc_right.nd rfl (by first | exact Or.inl rfl | exact Or.inr rfl) (pe_callTy call_list_of (by rfl) T.z_list (by rfl) (pa_cons (pv 0) pa_nil)))
      (@pss_cons _ _ _ _ _ (ps_asg (pe_call (ok_asked T) (hr.mono (by omega)) rfl T.m_asked T.F_asked.kp T.b_asked .nil pass0 (pa_cons (pv 1) pa_nil)) (pg_tup rfl (pgs_cons (pg_name (i := 2) sc_right.nd rfl (by first | exact Or.inl rfl | exact Or.inr rfl)) (pgs_cons (pg_name (i := 3) sc_right.nd rfl (by first | exact Or.inl rfl | exact Or.inr rfl)) pgs_nil))))
      (@pss_cons _ _ _ _ _ (ps_if (pt_cmpR (op_neT hr.units) (pv 1) (pv 0) (nomark _)) (pss_one (ps_ret pe_bl)) pss_nil)
      (@pss_cons _ _ _ _ _ (ps_if (pt_cmpR op_lt (pe_callB call_len_seq (by rfl) T.z_len PySem.boot_len (pa_cons (pv 0) pa_nil)) pe_int (nomark _)) (pss_one (ps_ret (pe_call (ok_refused T) (hr.mono (by omega)) rfl T.m_refused T.F_refused.kp T.b_refused .nil pass0 (pa_cons (pv 3) pa_nil)))) pss_nil)
      (@pss_cons _ _ _ _ _ (ps_if (PW.pt (pw_or (pt_cmpR op_notN (pv 3) pe_non (nomark _)) (pw_or (pt_not (pt_val (pe_callB call_isinst (by rfl) T.z_isinstance (by rfl) (pa_cons (pv 2) (pa_cons (pe_bltn (v := .ty "tuple") (u := .type "tuple") (by rfl) T.z_tuple (by rfl) rfl) pa_nil))))) (pw_or (pt_cmpR op_ne (pe_callB call_len_seq (by rfl) T.z_len PySem.boot_len (pa_cons (pv 2) pa_nil)) pe_int (nomark _)) (pw_or1 (pt_not (pt_val (pe_call (ok_is_fraction T) (hr.mono (by omega)) rfl T.m_is_fraction T.F_is_fraction.kp T.b_is_fraction .nil pass0 (pa_cons (pe_ix ix_tup (pv 2) pe_int (fun _ _ => rfl)) pa_nil))))))))) (pss_one (ps_ret pe_bl)) pss_nil)
      (@pss_cons _ _ _ _ _ (ps_if (pt_not (pt_val (pe_call (ok_is_whole_row T) (hr.mono (by omega)) rfl T.m_is_whole_row T.F_is_whole_row.kp T.b_is_whole_row .nil pass0 (pa_cons (pe_ix ix_tup (pv 2) pe_int (fun _ _ => rfl)) pa_nil)))) (pss_one (ps_ret pe_bl)) pss_nil)
      (pss_one (ps_ret (pe_cmpR (op_eqT hr.units) (pe_comp ["_law_number"] ["_law_row", "_law_handed", "_law_found", "_law_caught"] rfl (by show compOk _ (defScope s_right) ["_law_row", "_law_handed", "_law_found", "_law_caught"] ["_law_row", "_law_handed", "_law_found", "_law_caught"] ["_law_number"] = true; decide +kernel) (pi_list (pe_ix ix_tup (pv 2) pe_int (fun _ _ => rfl))) (fun _ _ _ _ => (pg_name (i := 0) (show List.Nodup ((["_law_number"] : List Str) ++ (["_law_row", "_law_handed", "_law_found", "_law_caught"] : List Str)) by decide +kernel) rfl (Or.inl rfl) (Or.inr rfl))) (fun _ _ _ _ => pf_nil) (fun _ _ _ _ => (pe_call (ok_lowest T) (hr.mono (by omega)) rfl T.m_lowest T.F_lowest.kp T.b_lowest .nil pass0 (pa_cons (pe_op op_mulG (pv 0) (pe_ix (ix_tupK (K := K) rfl) (pe_ix (ix_tupK (K := K) rfl) (pv 3) pe_int (fun _ _ => rfl)) pe_int (fun _ _ => rfl))) (pa_cons (pe_ix (ix_tupK (K := K) rfl) (pe_ix (ix_tupK (K := K) rfl) (pv 3) pe_int (fun _ _ => rfl)) pe_int (fun _ _ => rfl)) pa_nil))))) (pv 0) (nomark _)))))))))), ?_⟩
  have lr : (rv as).length = as.length := List.length_map _
  refine ⟨_, rfl, p, _, rfl, .inl (SqL.of hp), fun pa hpa => ?_⟩
  have s1 := same_new (H := H) hpa (.lst (rv as))
  have ea : upd H pa (.lst (rv as)) pa = some (.lst (rv as)) := upd_same
  generalize upd H pa (.lst (rv as)) = H1 at *
  have fa1 : ∀ x ∈ as, FR H1 x.1 x.2 := fun x hx => s1 _ _ (fa x hx)
  walk_at "rd"
  refine spAsked_mk ⟨pa, as, rfl, ⟨SqL.of ea, fa1⟩, ?_⟩
  by_cases l2 : as.length < 2
  · refine .inl ⟨l2, fun pk pe H2 s2 ek ee => ?_⟩
    have fa2 : ∀ x ∈ as, FR H2 x.1 x.2 := fun x hx => s2 _ _ (fa1 x hx)
    refine ⟨pk, _, rfl, SqT.of ek, rfl, ?_⟩
    walk_at "rd"
    refine ⟨_, _, dt_row ⟨SqL.of (s2 _ _ ea), fa2⟩, dt_row ⟨SqL.of (s2 _ _ (s1 _ _ hp)), fa2⟩, ⟨.of (tr_row _) (by decide), .of (tr_row _) (by decide)⟩, fun b hb => ?_⟩
    rw [hb.mpr rfl]
    walk_at "rd"
    refine ⟨p, _, rfl, .inl (SqL.of (s2 _ _ (s1 _ _ hp))), ?_⟩
    rw [lr]
    walk_at "rd"
    refine itd (fun _ => ?_) (fun h => absurd (by omega) h)
    walk_at "rd"
    exact spRefused_mk ⟨pe, rfl, ee, fun H' s3 => q _ (s1.trans (s2.trans s3))⟩
  · refine .inr ⟨by omega, _, _, _, prim_in dr (by omega), dr.2.2, fun pk pt pf pm f ms H2 s2 ek et ef em wr => ?_⟩
    obtain ⟨wl, wg, wz, we, wb, wn, wd⟩ := wr
    have l21 := dr.1
    have fa2 : ∀ x ∈ as, FR H2 x.1 x.2 := fun x hx => s2 _ _ (fa1 x hx)
    refine ⟨pk, _, rfl, SqT.of ek, rfl, ?_⟩
    walk_at "rd"
    refine ⟨_, _, dt_row ⟨SqL.of (s2 _ _ ea), fa2⟩, dt_row ⟨SqL.of (s2 _ _ (s1 _ _ hp)), fa2⟩, ⟨.of (tr_row _) (by decide), .of (tr_row _) (by decide)⟩, fun b hb => ?_⟩
    rw [hb.mpr rfl]
    walk_at "rd"
    refine ⟨p, _, rfl, .inl (SqL.of (s2 _ _ (s1 _ _ hp))), ?_⟩
    rw [lr]
    walk_at "rd"
    refine itd (fun h => absurd h (by omega)) (fun _ => ?_)
    have a0 : atI [V.ref pf, V.ref pm] 0 = some (.ref pf) := rfl
    have a1 : atI [V.ref pf, V.ref pm] 1 = some (.ref pm) := rfl
    have c0 : atI [V.int f.num, V.int f.den] 0 = some (.int f.num) := rfl
    have c1 : atI [V.int f.num, V.int f.den] 1 = some (.int f.den) := rfl
    walk_at "rd"
    refine ⟨_, _, _, _, rfl, .tup et, kit_self _ _, ?_⟩
    walk_at "rd"
    refine ⟨pt, _, rfl, .inr (SqT.of et), ?_⟩
    walk_at "rd"
    refine ⟨pf, f, rfl, ef, ?_⟩
    walk_at "rd"
    refine spIsWR_mk ⟨pm, ms, rfl, em, ⟨by omega, by omega, wg, wz⟩, fun H3 s3 => ?_⟩
    have et3 := s3 _ _ et
    have ef3 : FR H3 pf f := s3 _ _ ef
    have em3 := s3 _ _ em
    walk_at "rd"
    refine ⟨⟨_, SqL.of em3⟩, fun D hD => comp_list (K := K) (a := pm) (xs := ms.map V.int) (fun i ys H4 => ∃ cs : List (Addr × Rat), (cs.length = i ∧ rq cs = (rq as).take i ∧ ∀ x ∈ cs, FR H4 x.1 x.2) ∧ Same H3 H4 ∧ H4 D = some (.lst ys) ∧ ys = rv cs) ?_ ?_ ?_ ?_⟩
    · exact ⟨[], ⟨rfl, rfl, by simp⟩, same_new hD _, upd_same, rfl⟩
    · rintro i ys H4 ⟨cs, _, sm, _⟩
      exact sm.seq (SqL.of em3)
    · rintro i y ys H4 hy ⟨cs, ⟨lc, ec, fc⟩, sm, hyD, rfl⟩
      have ey := hy
      obtain ⟨z, rfl, hz, hi2⟩ := ints_get hy
      have ez := get_eq ey
      have hx : as[i]? = some (as[i]'(by omega)) := List.getElem?_eq_getElem _
      have ex := we i _ hx
      generalize as[i]'(by omega) = x at hx ex
      rw [ez] at ex
      have ef4 : FR H4 pf f := sm _ _ ef3
      have et4 := sm _ _ et3
      refine ⟨_, rfl, _, rfl, pt, _, _, _, rfl, rfl, SqT.of et4, a0, pf, _, _, _, rfl, rfl, SqT.of ef4, c0, ?_⟩
      refine ⟨_, _, rfl, rfl, mulOk_pow (wb z hz) wn (by omega), ?_⟩
      refine ⟨_, rfl, pt, _, _, _, rfl, rfl, SqT.of et4, a0, pf, _, _, _, rfl, rfl, SqT.of ef4, c1, ?_⟩
      refine spLow_mk ⟨z * f.num, f.den, 100 * as.length + 1, rfl, ⟨by omega, dpos f, by rw [Int.natAbs_natCast]; exact wd⟩, fun pn H5 s5 _ hq5 => ?_⟩
      rw [wr_low ex] at hq5
      refine cnext (zs := rv (cs ++ [(pn, x.2)])) (by rw [List.length_map]; exact hi2) (s5 _ _ hyD) (by rw [rv_len]; exact small1000 (by omega)) ⟨cs ++ [(pn, x.2)], ⟨by simp [lc], rq_take ec hx, fun u hu => ?_⟩, same_upd (sm.trans s5) hD _, ?_, rfl⟩
      · rcases List.mem_append.mp hu with h | h
        · exact frc_keep (s5 _ _ (fc u h)) (s5 _ _ hyD)
        · rw [List.mem_singleton] at h
          subst h
          exact frc_keep hq5 (s5 _ _ hyD)
      · rw [upd_same]
        show _ = some (HO.lst ((cs ++ [(pn, x.2)]).map fun x => V.ref x.1))
        rw [List.map_append]
        rfl
    · rintro ys H4 ⟨cs, ⟨lc, ec, fc⟩, sm, hyD, rfl⟩
      have s04 := s1.trans (s2.trans (s3.trans sm))
      have fa4 : ∀ x ∈ as, FR H4 x.1 x.2 := fun x hx => s04 _ _ (fa x hx)
      rw [List.length_map, wl, ← rq_len as, List.take_length] at ec
      refine ⟨_, rfl, _, _, dt_row ⟨SqL.of hyD, fc⟩, dt_row ⟨SqL.of (s04 _ _ hp), fa4⟩, ⟨.of (tr_row _) (by decide), .of (tr_row _) (by decide)⟩, fun b hb => ?_⟩
      rw [hb.mpr (by rw [ec])]
      exact q _ s04
end

end Toy

set_option Elab.async false
set_option linter.all false
set_option maxRecDepth 100000
set_option maxHeartbeats 4000000
namespace Toy
open PySem L2 Num
local macro_rules | `(tactic| walk_at "hp") => `(tactic| first
  | assumption
  | exact upd_same
  | exact upd_keep (by walk_at "hp") (by assumption)
  | (rw [upd_ne (by first | assumption | exact Ne.symm (by assumption))]; walk_at "hp")
  | exact Same.get (by assumption) (by walk_at "hp"))
local macro_rules | `(tactic| walk_at "side") => `(tactic| first
  | exact mulOk_small (by omega) (by omega)
  | exact mulOk_smallR (by omega) (by omega)
  | exact cdivP_small (by omega) (by omega)
  | exact cpow_small (by decide) (by decide) (by decide)
  | (show (0 : Int) < _; omega)
  | (with_reducible show _ ≤ sizeLine; exact small_len (by simp only [List.length_cons, List.length_nil]; omega)))
local macro_rules | `(tactic| walk_at "rd1") => `(tactic| first
  | refine ⟨_, rfl, ?_⟩
  | refine ⟨_, _, rfl, rfl, ?_⟩
  | refine ⟨rfl, ?_⟩
  | refine ⟨_, _, rfl, ?_⟩
  | refine ⟨_, _, rfl, SqT.of (by walk_at "hp"), rfl, ?_⟩
  | refine ⟨_, _, _, _, rfl, rfl, SqL.of (by walk_at "hp"), (by assumption), ?_⟩
  | refine ⟨_, _, _, _, rfl, rfl, SqT.of (by walk_at "hp"), (by assumption), ?_⟩
  | (refine ⟨?sidegoal, ?_⟩; (case sidegoal => walk_at "side")))
local macro_rules | `(tactic| walk_at "rd") => `(tactic| repeat walk_at "rd1")

section
variable {P : Program} {w : World} {K : PySem.W.Frag} {mg : Str → Option Value} {base : Heap}
theorem ok_law (T : Tx K mg) : FnOk P w K mg base CX0 7 T.f_law T.fd_law ["_law_script"] (spLaw K) := by
  refine T.F_law.ok sc_law (fun vs H Q E h => ?_) (fun cdv A outer s H vs Q E hr h => ?_)
  · obtain ⟨a, ns, rfl, _⟩ := h
    rfl
  obtain ⟨a, ns, rfl, hS, h63, q⟩ := h
  refine ⟨_, (@pss_cons _ _ _ _ _ (ps_for PassesOwn.never rfl (pi_list (pe_op op_cat (pe_lst (pa_cons (pe_call (ok_cell T) (hr.mono (by omega)) rfl T.m_cell T.F_cell.kp T.b_cell .nil pass0 (pa_cons (pv 0) (pa_cons pe_int pa_nil))) pa_nil)) (pe_slice sl_list (pv 0) (po_some pe_int) (po_some pe_int)))) (pg_name (i := 1) sc_law.nd rfl (by first | exact Or.inl rfl | exact Or.inr rfl)) (pss_one (ps_if (pt_not (pt_val (pe_call (ok_right T) (hr.mono (by omega)) rfl T.m_right T.F_right.kp T.b_right .nil pass0 (pa_cons (pe_call (ok_drawn_row T) (hr.mono (by omega)) rfl T.m_drawn_row T.F_drawn_row.kp T.b_drawn_row .nil pass0 (pa_cons (pv 1) pa_nil)) pa_nil)))) (pss_one (ps_ret pe_bl)) pss_nil)))
      (pss_one (ps_ret pe_bl))), ?_⟩
  walk_at "rd"
  refine ⟨a, ns, 0, rfl, hS, by decide, fun z1 => ?_⟩
  walk_at "rd"
  intro p3 h3
  walk_at "rd"
  refine ⟨a, _, rfl, (same_new h3 _).seq hS, fun p4 h4 => ?_⟩
  obtain ⟨ms, ems, lms, _⟩ := cut_ints ns (some 1) (some 30)
  refine ⟨p3, p4, _, _, rfl, rfl, (by walk_at "hp"), (by walk_at "hp"), ?_, fun p5 h5 => ?_⟩
  · rw [ems, List.length_map]
    refine small_len ?_
    show 1 + _ ≤ _
    omega
  have el : [V.int z1] ++ cutV (ns.map V.int) (some 1) (some 30) = (z1 :: ms).map V.int := by
    rw [ems]
    rfl
  rw [el]
  refine ⟨p5, rfl, ⟨_, SqL.of upd_same⟩, for_list (K := K) (a := p5) (xs := (z1 :: ms).map V.int) (fun i σ H2 => ∃ (v1 : Option V), H2 p5 = some (.lst ((z1 :: ms).map V.int)) ∧ σ = [some (.ref a), v1]) ?_ ?_ ?_ ?_⟩
  · exact ⟨_, upd_same, rfl⟩
  · rintro i σ H2 _ ⟨v1, h, rfl⟩
    exact SqL.of h
  · rintro i x σ H3 hx ⟨v1, h, rfl⟩
    obtain ⟨z, rfl, _, hi⟩ := ints_get hx
    walk_at "rd"
    refine spDraw_mk ⟨z, rfl, fun p as H4 s4 e4 f4 d4 => ?_⟩
    walk_at "rd"
    refine spRight_mk ⟨p, as, rfl, e4, f4, d4, fun H5 s5 => ?_⟩
    walk_at "rd"
    exact ⟨_, (s4.trans s5) _ _ h, rfl⟩
  · rintro σ H2 ⟨v1, h, rfl⟩
    exact q _
end

theorem all_mk {l : PySem.W.OpenLaw} {w : World} {K : PySem.W.Frag} {h : Heap} {mg : Str → Option Value} {fa : Addr} (X : K.In h) (G : h.Ns mainGlobals mg) (hfa : mg "law" = some (.ref fa))
    {f0 : Addr} {od0 an0 : Option Addr} {sl0 : Array (Option Value)} {oc0 kV0 dc0 pm0 cd0 ct0 : Value}
    (a0 : PySem.W.nsIn K mainGlobals "gcd" = some (some (.ref f0))) (l0 : K.lookup f0 = some ⟨oc0, od0, .func (PySem.W.fnOf "gcd" "gcd" (defArgs s_gcd) (defBody s_gcd) (defScope s_gcd) .none kV0 dc0 pm0 an0 cd0 ct0), sl0⟩) (c0 : PySem.W.codeIn K cd0 "gcd" = true) (k0 : PySem.W.keepIn K (.ref f0) = true)
    {f1 : Addr} {od1 an1 : Option Addr} {sl1 : Array (Option Value)} {oc1 kV1 dc1 pm1 cd1 ct1 : Value}
    (a1 : PySem.W.nsIn K mainGlobals "fraction" = some (some (.ref f1))) (l1 : K.lookup f1 = some ⟨oc1, od1, .func (PySem.W.fnOf "fraction" "fraction" (defArgs s_fraction) (defBody s_fraction) (defScope s_fraction) .none kV1 dc1 pm1 an1 cd1 ct1), sl1⟩) (c1 : PySem.W.codeIn K cd1 "fraction" = true) (k1 : PySem.W.keepIn K (.ref f1) = true)
    {f2 : Addr} {od2 an2 : Option Addr} {sl2 : Array (Option Value)} {oc2 kV2 dc2 pm2 cd2 ct2 : Value}
    (a2 : PySem.W.nsIn K mainGlobals "cleared" = some (some (.ref f2))) (l2 : K.lookup f2 = some ⟨oc2, od2, .func (PySem.W.fnOf "cleared" "cleared" (defArgs s_cleared) (defBody s_cleared) (defScope s_cleared) .none kV2 dc2 pm2 an2 cd2 ct2), sl2⟩) (c2 : PySem.W.codeIn K cd2 "cleared" = true) (k2 : PySem.W.keepIn K (.ref f2) = true)
    {f3 : Addr} {od3 an3 : Option Addr} {sl3 : Array (Option Value)} {oc3 kV3 dc3 pm3 cd3 ct3 : Value}
    (a3 : PySem.W.nsIn K mainGlobals "scaled" = some (some (.ref f3))) (l3 : K.lookup f3 = some ⟨oc3, od3, .func (PySem.W.fnOf "scaled" "scaled" (defArgs s_scaled) (defBody s_scaled) (defScope s_scaled) .none kV3 dc3 pm3 an3 cd3 ct3), sl3⟩) (c3 : PySem.W.codeIn K cd3 "scaled" = true) (k3 : PySem.W.keepIn K (.ref f3) = true)
    {f4 : Addr} {od4 an4 : Option Addr} {sl4 : Array (Option Value)} {oc4 kV4 dc4 pm4 cd4 ct4 : Value}
    (a4 : PySem.W.nsIn K mainGlobals "shortened" = some (some (.ref f4))) (l4 : K.lookup f4 = some ⟨oc4, od4, .func (PySem.W.fnOf "shortened" "shortened" (defArgs s_shortened) (defBody s_shortened) (defScope s_shortened) .none kV4 dc4 pm4 an4 cd4 ct4), sl4⟩) (c4 : PySem.W.codeIn K cd4 "shortened" = true) (k4 : PySem.W.keepIn K (.ref f4) = true)
    {f5 : Addr} {od5 an5 : Option Addr} {sl5 : Array (Option Value)} {oc5 kV5 dc5 pm5 cd5 ct5 : Value}
    (a5 : PySem.W.nsIn K mainGlobals "primitive" = some (some (.ref f5))) (l5 : K.lookup f5 = some ⟨oc5, od5, .func (PySem.W.fnOf "primitive" "primitive" (defArgs s_primitive) (defBody s_primitive) (defScope s_primitive) .none kV5 dc5 pm5 an5 cd5 ct5), sl5⟩) (c5 : PySem.W.codeIn K cd5 "primitive" = true) (k5 : PySem.W.keepIn K (.ref f5) = true)
    {f6 : Addr} {od6 an6 : Option Addr} {sl6 : Array (Option Value)} {oc6 kV6 dc6 pm6 cd6 ct6 : Value}
    (a6 : PySem.W.nsIn K mainGlobals "whole_row" = some (some (.ref f6))) (l6 : K.lookup f6 = some ⟨oc6, od6, .func (PySem.W.fnOf "whole_row" "whole_row" (defArgs s_whole_row) (defBody s_whole_row) (defScope s_whole_row) .none kV6 dc6 pm6 an6 cd6 ct6), sl6⟩) (c6 : PySem.W.codeIn K cd6 "whole_row" = true) (k6 : PySem.W.keepIn K (.ref f6) = true)
    {f7 : Addr} {od7 an7 : Option Addr} {sl7 : Array (Option Value)} {oc7 kV7 dc7 pm7 cd7 ct7 : Value}
    (a7 : PySem.W.nsIn K mainGlobals "_law_things" = some (some (.ref f7))) (l7 : K.lookup f7 = some ⟨oc7, od7, .func (PySem.W.fnOf "_law_things" "_law_things" (defArgs s_things) (defBody s_things) (defScope s_things) .none kV7 dc7 pm7 an7 cd7 ct7), sl7⟩) (c7 : PySem.W.codeIn K cd7 "_law_things" = true) (k7 : PySem.W.keepIn K (.ref f7) = true)
    {f8 : Addr} {od8 an8 : Option Addr} {sl8 : Array (Option Value)} {oc8 kV8 dc8 pm8 cd8 ct8 : Value}
    (a8 : PySem.W.nsIn K mainGlobals "_law_cell" = some (some (.ref f8))) (l8 : K.lookup f8 = some ⟨oc8, od8, .func (PySem.W.fnOf "_law_cell" "_law_cell" (defArgs s_cell) (defBody s_cell) (defScope s_cell) .none kV8 dc8 pm8 an8 cd8 ct8), sl8⟩) (c8 : PySem.W.codeIn K cd8 "_law_cell" = true) (k8 : PySem.W.keepIn K (.ref f8) = true)
    {f9 : Addr} {od9 an9 : Option Addr} {sl9 : Array (Option Value)} {oc9 kV9 dc9 pm9 cd9 ct9 : Value}
    (a9 : PySem.W.nsIn K mainGlobals "_law_whole" = some (some (.ref f9))) (l9 : K.lookup f9 = some ⟨oc9, od9, .func (PySem.W.fnOf "_law_whole" "_law_whole" (defArgs s_whole) (defBody s_whole) (defScope s_whole) .none kV9 dc9 pm9 an9 cd9 ct9), sl9⟩) (c9 : PySem.W.codeIn K cd9 "_law_whole" = true) (k9 : PySem.W.keepIn K (.ref f9) = true)
    {f10 : Addr} {od10 an10 : Option Addr} {sl10 : Array (Option Value)} {oc10 kV10 dc10 pm10 cd10 ct10 : Value}
    (a10 : PySem.W.nsIn K mainGlobals "_law_divisor" = some (some (.ref f10))) (l10 : K.lookup f10 = some ⟨oc10, od10, .func (PySem.W.fnOf "_law_divisor" "_law_divisor" (defArgs s_divisor) (defBody s_divisor) (defScope s_divisor) .none kV10 dc10 pm10 an10 cd10 ct10), sl10⟩) (c10 : PySem.W.codeIn K cd10 "_law_divisor" = true) (k10 : PySem.W.keepIn K (.ref f10) = true)
    {f11 : Addr} {od11 an11 : Option Addr} {sl11 : Array (Option Value)} {oc11 kV11 dc11 pm11 cd11 ct11 : Value}
    (a11 : PySem.W.nsIn K mainGlobals "_law_lowest" = some (some (.ref f11))) (l11 : K.lookup f11 = some ⟨oc11, od11, .func (PySem.W.fnOf "_law_lowest" "_law_lowest" (defArgs s_lowest) (defBody s_lowest) (defScope s_lowest) .none kV11 dc11 pm11 an11 cd11 ct11), sl11⟩) (c11 : PySem.W.codeIn K cd11 "_law_lowest" = true) (k11 : PySem.W.keepIn K (.ref f11) = true)
    {f12 : Addr} {od12 an12 : Option Addr} {sl12 : Array (Option Value)} {oc12 kV12 dc12 pm12 cd12 ct12 : Value}
    (a12 : PySem.W.nsIn K mainGlobals "_law_is_fraction" = some (some (.ref f12))) (l12 : K.lookup f12 = some ⟨oc12, od12, .func (PySem.W.fnOf "_law_is_fraction" "_law_is_fraction" (defArgs s_is_fraction) (defBody s_is_fraction) (defScope s_is_fraction) .none kV12 dc12 pm12 an12 cd12 ct12), sl12⟩) (c12 : PySem.W.codeIn K cd12 "_law_is_fraction" = true) (k12 : PySem.W.keepIn K (.ref f12) = true)
    {f13 : Addr} {od13 an13 : Option Addr} {sl13 : Array (Option Value)} {oc13 kV13 dc13 pm13 cd13 ct13 : Value}
    (a13 : PySem.W.nsIn K mainGlobals "_law_is_whole_row" = some (some (.ref f13))) (l13 : K.lookup f13 = some ⟨oc13, od13, .func (PySem.W.fnOf "_law_is_whole_row" "_law_is_whole_row" (defArgs s_is_whole_row) (defBody s_is_whole_row) (defScope s_is_whole_row) .none kV13 dc13 pm13 an13 cd13 ct13), sl13⟩) (c13 : PySem.W.codeIn K cd13 "_law_is_whole_row" = true) (k13 : PySem.W.keepIn K (.ref f13) = true)
    {f14 : Addr} {od14 an14 : Option Addr} {sl14 : Array (Option Value)} {oc14 kV14 dc14 pm14 cd14 ct14 : Value}
    (a14 : PySem.W.nsIn K mainGlobals "_law_drawn_row" = some (some (.ref f14))) (l14 : K.lookup f14 = some ⟨oc14, od14, .func (PySem.W.fnOf "_law_drawn_row" "_law_drawn_row" (defArgs s_drawn_row) (defBody s_drawn_row) (defScope s_drawn_row) .none kV14 dc14 pm14 an14 cd14 ct14), sl14⟩) (c14 : PySem.W.codeIn K cd14 "_law_drawn_row" = true) (k14 : PySem.W.keepIn K (.ref f14) = true)
    {f15 : Addr} {od15 an15 : Option Addr} {sl15 : Array (Option Value)} {oc15 kV15 dc15 pm15 cd15 ct15 : Value}
    (a15 : PySem.W.nsIn K mainGlobals "_law_asked" = some (some (.ref f15))) (l15 : K.lookup f15 = some ⟨oc15, od15, .func (PySem.W.fnOf "_law_asked" "_law_asked" (defArgs s_asked) (defBody s_asked) (defScope s_asked) .none kV15 dc15 pm15 an15 cd15 ct15), sl15⟩) (c15 : PySem.W.codeIn K cd15 "_law_asked" = true) (k15 : PySem.W.keepIn K (.ref f15) = true)
    {f16 : Addr} {od16 an16 : Option Addr} {sl16 : Array (Option Value)} {oc16 kV16 dc16 pm16 cd16 ct16 : Value}
    (a16 : PySem.W.nsIn K mainGlobals "_law_refused" = some (some (.ref f16))) (l16 : K.lookup f16 = some ⟨oc16, od16, .func (PySem.W.fnOf "_law_refused" "_law_refused" (defArgs s_refused) (defBody s_refused) (defScope s_refused) .none kV16 dc16 pm16 an16 cd16 ct16), sl16⟩) (c16 : PySem.W.codeIn K cd16 "_law_refused" = true) (k16 : PySem.W.keepIn K (.ref f16) = true)
    {f17 : Addr} {od17 an17 : Option Addr} {sl17 : Array (Option Value)} {oc17 kV17 dc17 pm17 cd17 ct17 : Value}
    (a17 : PySem.W.nsIn K mainGlobals "_law_right" = some (some (.ref f17))) (l17 : K.lookup f17 = some ⟨oc17, od17, .func (PySem.W.fnOf "_law_right" "_law_right" (defArgs s_right) (defBody s_right) (defScope s_right) .none kV17 dc17 pm17 an17 cd17 ct17), sl17⟩) (c17 : PySem.W.codeIn K cd17 "_law_right" = true) (k17 : PySem.W.keepIn K (.ref f17) = true)
    {f18 : Addr} {od18 an18 : Option Addr} {sl18 : Array (Option Value)} {oc18 kV18 dc18 pm18 cd18 ct18 : Value}
    (a18 : PySem.W.nsIn K mainGlobals "law" = some (some (.ref f18))) (l18 : K.lookup f18 = some ⟨oc18, od18, .func (PySem.W.fnOf "law" "law" (defArgs s_law) (defBody s_law) (defScope s_law) .none kV18 dc18 pm18 an18 cd18 ct18), sl18⟩) (c18 : PySem.W.codeIn K cd18 "law" = true) (k18 : PySem.W.keepIn K (.ref f18) = true)
    (z_ValueError : PySem.W.nsIn K mainGlobals "ValueError" = some none)
    (z_abs : PySem.W.nsIn K mainGlobals "abs" = some none)
    (z_all : PySem.W.nsIn K mainGlobals "all" = some none)
    (z_bool : PySem.W.nsIn K mainGlobals "bool" = some none)
    (z_int : PySem.W.nsIn K mainGlobals "int" = some none)
    (z_isinstance : PySem.W.nsIn K mainGlobals "isinstance" = some none)
    (z_len : PySem.W.nsIn K mainGlobals "len" = some none)
    (z_list : PySem.W.nsIn K mainGlobals "list" = some none)
    (z_range : PySem.W.nsIn K mainGlobals "range" = some none)
    (z_tuple : PySem.W.nsIn K mainGlobals "tuple" = some none)
    {tL : Tok}
    (x_g_LONG : PySem.W.nsIn K mainGlobals "LONG" = some (some (.int 6000 tL)))
    (x_k_ib : PySem.W.kitOne K (.type "int") (.type "bool") = some false)
    {C_HouseError : Addr} (y_HouseError : PySem.W.nsIn K mainGlobals "HouseError" = some (some (.ref C_HouseError))) (y1_HouseError : PySem.W.excIn K C_HouseError bmV "ValueError.__new__" = true) (y2_HouseError : PySem.W.findIn K (.ref C_HouseError) "__getattribute__" = some (some (.builtin "BaseException.__getattribute__"))) (y3_HouseError : PySem.W.findIn K (.ref C_HouseError) "__getattr__" = some none) (y4_HouseError : PySem.W.findIn K (.ref C_HouseError) "__class__" = some (some (.builtin "object.__class__"))) (y5_HouseError : PySem.W.mroIn K C_HouseError (.type "object") = some true) (y6_HouseError : PySem.W.mroIn K C_HouseError (.type "BaseException") = some true)
    {C_NoNumber : Addr} (y_NoNumber : PySem.W.nsIn K mainGlobals "NoNumber" = some (some (.ref C_NoNumber))) (y1_NoNumber : PySem.W.excIn K C_NoNumber bmV "ValueError.__new__" = true) (y2_NoNumber : PySem.W.findIn K (.ref C_NoNumber) "__getattribute__" = some (some (.builtin "BaseException.__getattribute__"))) (y3_NoNumber : PySem.W.findIn K (.ref C_NoNumber) "__getattr__" = some none) (y4_NoNumber : PySem.W.findIn K (.ref C_NoNumber) "__class__" = some (some (.builtin "object.__class__"))) (y5_NoNumber : PySem.W.mroIn K C_NoNumber (.type "object") = some true) (y6_NoNumber : PySem.W.mroIn K C_NoNumber (.type "BaseException") = some true)
    {C_NoRow : Addr} (y_NoRow : PySem.W.nsIn K mainGlobals "NoRow" = some (some (.ref C_NoRow))) (y1_NoRow : PySem.W.excIn K C_NoRow bmV "ValueError.__new__" = true) (y2_NoRow : PySem.W.findIn K (.ref C_NoRow) "__getattribute__" = some (some (.builtin "BaseException.__getattribute__"))) (y3_NoRow : PySem.W.findIn K (.ref C_NoRow) "__getattr__" = some none) (y4_NoRow : PySem.W.findIn K (.ref C_NoRow) "__class__" = some (some (.builtin "object.__class__"))) (y5_NoRow : PySem.W.mroIn K C_NoRow (.type "object") = some true) (y6_NoRow : PySem.W.mroIn K C_NoRow (.type "BaseException") = some true)
    {C_NoValue : Addr} (y_NoValue : PySem.W.nsIn K mainGlobals "NoValue" = some (some (.ref C_NoValue)))
    {C_NoText : Addr} (y_NoText : PySem.W.nsIn K mainGlobals "NoText" = some (some (.ref C_NoText)))
    {C_NoRoot : Addr} (y_NoRoot : PySem.W.nsIn K mainGlobals "NoRoot" = some (some (.ref C_NoRoot)))
    {C_TooFar : Addr} (y_TooFar : PySem.W.nsIn K mainGlobals "TooFar" = some (some (.ref C_TooFar)))
    {C_NoLine : Addr} (y_NoLine : PySem.W.nsIn K mainGlobals "NoLine" = some (some (.ref C_NoLine)))
    (w_k_NoRow_NoNumber : PySem.W.kitOne K (.ref C_NoRow) (.ref C_NoNumber) = some false)
    (w_k_NoRow_NoRow : PySem.W.kitOne K (.ref C_NoRow) (.ref C_NoRow) = some true)
    (w_k_NoRow_NoValue : PySem.W.kitOne K (.ref C_NoRow) (.ref C_NoValue) = some false)
    (w_k_NoRow_NoText : PySem.W.kitOne K (.ref C_NoRow) (.ref C_NoText) = some false)
    (w_k_NoRow_NoRoot : PySem.W.kitOne K (.ref C_NoRow) (.ref C_NoRoot) = some false)
    (w_k_NoRow_TooFar : PySem.W.kitOne K (.ref C_NoRow) (.ref C_TooFar) = some false)
    (w_k_NoRow_NoLine : PySem.W.kitOne K (.ref C_NoRow) (.ref C_NoLine) = some false)
    (w_k_NoRow_ValueError : PySem.W.kitOne K (.ref C_NoRow) (.type "ValueError") = some true)
    (w_u_NoRow_HouseError : PySem.W.mroIn K C_NoRow (.ref C_HouseError) = some true)
    : ∃ fd : FuncData, (∀ (s : Shared) (v : Value), BindsTo s fd ⟨[v], []⟩ [("_law_script", v)]) ∧ ∀ base : Heap, K.In base → base.Ns mainGlobals mg → FnOk l.prog w K mg base CX0 7 fa fd ["_law_script"] (spLaw K) := by
  have e := hfa.symm.trans (PySem.W.mg_of X G a18)
  cases e
  have F0 := fun_mk (st := s_gcd) l0 c0 k0
  have b0 := F0.binds (ps := ["one", "other"]) fun _ _ _ _ _ _ us hl => match us, hl with | [_, _], _ => rfl
  have F1 := fun_mk (st := s_fraction) l1 c1 k1
  have b1 := F1.binds (ps := ["top", "bottom"]) fun _ _ _ _ _ _ us hl => match us, hl with | [_, _], _ => rfl
  have F2 := fun_mk (st := s_cleared) l2 c2 k2
  have b2 := F2.binds (ps := ["row"]) fun _ _ _ _ _ _ us hl => match us, hl with | [_], _ => rfl
  have F3 := fun_mk (st := s_scaled) l3 c3 k3
  have b3 := F3.binds (ps := ["numbers", "by"]) fun _ _ _ _ _ _ us hl => match us, hl with | [_, _], _ => rfl
  have F4 := fun_mk (st := s_shortened) l4 c4 k4
  have b4 := F4.binds (ps := ["numbers"]) fun _ _ _ _ _ _ us hl => match us, hl with | [_], _ => rfl
  have F5 := fun_mk (st := s_primitive) l5 c5 k5
  have b5 := F5.binds (ps := ["row"]) fun _ _ _ _ _ _ us hl => match us, hl with | [_], _ => rfl
  have F6 := fun_mk (st := s_whole_row) l6 c6 k6
  have b6 := F6.binds (ps := ["row"]) fun _ _ _ _ _ _ us hl => match us, hl with | [_], _ => rfl
  have F7 := fun_mk (st := s_things) l7 c7 k7
  have b7 := F7.binds (ps := ["_law_cell_here", "_law_many"]) fun _ _ _ _ _ _ us hl => match us, hl with | [_, _], _ => rfl
  have F8 := fun_mk (st := s_cell) l8 c8 k8
  have b8 := F8.binds (ps := ["_law_script", "_law_k"]) fun _ _ _ _ _ _ us hl => match us, hl with | [_, _], _ => rfl
  have F9 := fun_mk (st := s_whole) l9 c9 k9
  have b9 := F9.binds (ps := ["_law_found"]) fun _ _ _ _ _ _ us hl => match us, hl with | [_], _ => rfl
  have F10 := fun_mk (st := s_divisor) l10 c10 k10
  have b10 := F10.binds (ps := ["_law_one", "_law_other"]) fun _ _ _ _ _ _ us hl => match us, hl with | [_, _], _ => rfl
  have F11 := fun_mk (st := s_lowest) l11 c11 k11
  have b11 := F11.binds (ps := ["_law_top", "_law_bottom"]) fun _ _ _ _ _ _ us hl => match us, hl with | [_, _], _ => rfl
  have F12 := fun_mk (st := s_is_fraction) l12 c12 k12
  have b12 := F12.binds (ps := ["_law_found"]) fun _ _ _ _ _ _ us hl => match us, hl with | [_], _ => rfl
  have F13 := fun_mk (st := s_is_whole_row) l13 c13 k13
  have b13 := F13.binds (ps := ["_law_found"]) fun _ _ _ _ _ _ us hl => match us, hl with | [_], _ => rfl
  have F14 := fun_mk (st := s_drawn_row) l14 c14 k14
  have b14 := F14.binds (ps := ["_law_cell_here"]) fun _ _ _ _ _ _ us hl => match us, hl with | [_], _ => rfl
  have F15 := fun_mk (st := s_asked) l15 c15 k15
  have b15 := F15.binds (ps := ["_law_row"]) fun _ _ _ _ _ _ us hl => match us, hl with | [_], _ => rfl
  have F16 := fun_mk (st := s_refused) l16 c16 k16
  have b16 := F16.binds (ps := ["_law_caught"]) fun _ _ _ _ _ _ us hl => match us, hl with | [_], _ => rfl
  have F17 := fun_mk (st := s_right) l17 c17 k17
  have b17 := F17.binds (ps := ["_law_row"]) fun _ _ _ _ _ _ us hl => match us, hl with | [_], _ => rfl
  have F18 := fun_mk (st := s_law) l18 c18 k18
  have b18 := F18.binds (ps := ["_law_script"]) fun _ _ _ _ _ _ us hl => match us, hl with | [_], _ => rfl
  let T : Tx K mg := ⟨_, _, F0, PySem.W.mg_of X G a0, b0, _, _, F1, PySem.W.mg_of X G a1, b1, _, _, F2, PySem.W.mg_of X G a2, b2, _, _, F3, PySem.W.mg_of X G a3, b3, _, _, F4, PySem.W.mg_of X G a4, b4, _, _, F5, PySem.W.mg_of X G a5, b5, _, _, F6, PySem.W.mg_of X G a6, b6, _, _, F7, PySem.W.mg_of X G a7, b7, _, _, F8, PySem.W.mg_of X G a8, b8, _, _, F9, PySem.W.mg_of X G a9, b9, _, _, F10, PySem.W.mg_of X G a10, b10, _, _, F11, PySem.W.mg_of X G a11, b11, _, _, F12, PySem.W.mg_of X G a12, b12, _, _, F13, PySem.W.mg_of X G a13, b13, _, _, F14, PySem.W.mg_of X G a14, b14, _, _, F15, PySem.W.mg_of X G a15, b15, _, _, F16, PySem.W.mg_of X G a16, b16, _, _, F17, PySem.W.mg_of X G a17, b17, _, _, F18, PySem.W.mg_of X G a18, b18, PySem.W.mg_none_of X G z_ValueError, PySem.W.mg_none_of X G z_abs, PySem.W.mg_none_of X G z_all, PySem.W.mg_none_of X G z_bool, PySem.W.mg_none_of X G z_int, PySem.W.mg_none_of X G z_isinstance, PySem.W.mg_none_of X G z_len, PySem.W.mg_none_of X G z_list, PySem.W.mg_none_of X G z_range, PySem.W.mg_none_of X G z_tuple, ⟨_, PySem.W.mg_of X G x_g_LONG, _, rfl⟩, x_k_ib, _, PySem.W.mg_of X G y_HouseError, ⟨y1_HouseError, y2_HouseError, y3_HouseError, y4_HouseError, y5_HouseError, y6_HouseError⟩, _, PySem.W.mg_of X G y_NoNumber, ⟨y1_NoNumber, y2_NoNumber, y3_NoNumber, y4_NoNumber, y5_NoNumber, y6_NoNumber⟩, _, PySem.W.mg_of X G y_NoRow, ⟨y1_NoRow, y2_NoRow, y3_NoRow, y4_NoRow, y5_NoRow, y6_NoRow⟩, _, PySem.W.mg_of X G y_NoValue, _, PySem.W.mg_of X G y_NoText, _, PySem.W.mg_of X G y_NoRoot, _, PySem.W.mg_of X G y_TooFar, _, PySem.W.mg_of X G y_NoLine, w_k_NoRow_NoNumber, w_k_NoRow_NoRow, w_k_NoRow_NoValue, w_k_NoRow_NoText, w_k_NoRow_NoRoot, w_k_NoRow_TooFar, w_k_NoRow_NoLine, w_k_NoRow_ValueError, w_u_NoRow_HouseError⟩
  exact ⟨_, fun s v => .of_eq rfl, fun base _ _ => ok_law T⟩
theorem walk {l : PySem.W.OpenLaw} {q : Program} {loose : List Str} {XP : (Str → Option Value) → Heap → Prop} {YP : World → Heap → Prop} {d : DefRec} {K : Params → PySem.W.Frag} (hn : l.most = some 63) (hdf : d.params.defaults = [])
    (hY : ∀ (w : World) (h : Heap), YP w h → (K w.params).In h)
    (F : ∀ (w : World) (mg : Str → Option Value) (fa : Addr) (h : Heap), (K w.params).In h → h.Ns mainGlobals mg → mg d.name = some (.ref fa) →
      ∃ fd : FuncData, (∀ (s : Shared) (u : Value), BindsTo s fd ⟨[u], []⟩ [("_law_script", u)]) ∧ ∀ base : Heap, (K w.params).In base → base.Ns mainGlobals mg → FnOk l.prog w (K w.params) mg base CX0 7 fa fd ["_law_script"] (spLaw (K w.params))) :
    PySem.W.WalkO q loose XP YP l.row.toRowW d [] (fun f vs => PySem.call f vs) :=
  L2.walk_of (n := 63) (k := 7) (x := "_law_script") (CX := fun _ => CX0) (sp := fun w => spLaw (K w.params)) hn (by decide) hdf ⟨rfl, by decide, by decide⟩ hY F (fun _ _ a ns hl _ hS => ⟨a, ns, rfl, hS, hl, fun _ => rfl⟩) fun _ _ _ _ _ z => z
end Toy
open PySem PySem.W PyProof.Rows
set_option maxRecDepth 100000 in
set_option maxHeartbeats 0 in
theorem PySem.Challenge.cw_paperwright_k32_whole_rows_holds : PySem.Challenge.rw_paperwright_k32_whole_rows.Holds := by
  w_on; o_law; k_head; (case hw => w_witness2)
  k_fill
  refine Toy.walk (l := PySem.Challenge.rw_paperwright_k32_whole_rows) rfl rfl (fun w h Y => PySem.W.kIn_of Y) ?F
  case F =>
    intro w mg fa h KX G hmg
    refine' Toy.all_mk KX G hmg ?a0 ?l0 ?c0 ?k0 ?a1 ?l1 ?c1 ?k1 ?a2 ?l2 ?c2 ?k2 ?a3 ?l3 ?c3 ?k3 ?a4 ?l4 ?c4 ?k4 ?a5 ?l5 ?c5 ?k5 ?a6 ?l6 ?c6 ?k6 ?a7 ?l7 ?c7 ?k7 ?a8 ?l8 ?c8 ?k8 ?a9 ?l9 ?c9 ?k9 ?a10 ?l10 ?c10 ?k10 ?a11 ?l11 ?c11 ?k11 ?a12 ?l12 ?c12 ?k12 ?a13 ?l13 ?c13 ?k13 ?a14 ?l14 ?c14 ?k14 ?a15 ?l15 ?c15 ?k15 ?a16 ?l16 ?c16 ?k16 ?a17 ?l17 ?c17 ?k17 ?a18 ?l18 ?c18 ?k18 ?z_ValueError ?z_abs ?z_all ?z_bool ?z_int ?z_isinstance ?z_len ?z_list ?z_range ?z_tuple ?x_g_LONG ?x_k_ib ?y_HouseError ?y1_HouseError ?y2_HouseError ?y3_HouseError ?y4_HouseError ?y5_HouseError ?y6_HouseError ?y_NoNumber ?y1_NoNumber ?y2_NoNumber ?y3_NoNumber ?y4_NoNumber ?y5_NoNumber ?y6_NoNumber ?y_NoRow ?y1_NoRow ?y2_NoRow ?y3_NoRow ?y4_NoRow ?y5_NoRow ?y6_NoRow ?y_NoValue ?y_NoText ?y_NoRoot ?y_TooFar ?y_NoLine ?w_k_NoRow_NoNumber ?w_k_NoRow_NoRow ?w_k_NoRow_NoValue ?w_k_NoRow_NoText ?w_k_NoRow_NoRoot ?w_k_NoRow_TooFar ?w_k_NoRow_NoLine ?w_k_NoRow_ValueError ?w_u_NoRow_HouseError
    (case a0 => k_is)
    (case l0 => k_is)
    (case c0 => k_is)
    (case k0 => k_is)
    (case a1 => k_is)
    (case l1 => k_is)
    (case c1 => k_is)
    (case k1 => k_is)
    (case a2 => k_is)
    (case l2 => k_is)
    (case c2 => k_is)
    (case k2 => k_is)
    (case a3 => k_is)
    (case l3 => k_is)
    (case c3 => k_is)
    (case k3 => k_is)
    (case a4 => k_is)
    (case l4 => k_is)
    (case c4 => k_is)
    (case k4 => k_is)
    (case a5 => k_is)
    (case l5 => k_is)
    (case c5 => k_is)
    (case k5 => k_is)
    (case a6 => k_is)
    (case l6 => k_is)
    (case c6 => k_is)
    (case k6 => k_is)
    (case a7 => k_is)
    (case l7 => k_is)
    (case c7 => k_is)
    (case k7 => k_is)
    (case a8 => k_is)
    (case l8 => k_is)
    (case c8 => k_is)
    (case k8 => k_is)
    (case a9 => k_is)
    (case l9 => k_is)
    (case c9 => k_is)
    (case k9 => k_is)
    (case a10 => k_is)
    (case l10 => k_is)
    (case c10 => k_is)
    (case k10 => k_is)
    (case a11 => k_is)
    (case l11 => k_is)
    (case c11 => k_is)
    (case k11 => k_is)
    (case a12 => k_is)
    (case l12 => k_is)
    (case c12 => k_is)
    (case k12 => k_is)
    (case a13 => k_is)
    (case l13 => k_is)
    (case c13 => k_is)
    (case k13 => k_is)
    (case a14 => k_is)
    (case l14 => k_is)
    (case c14 => k_is)
    (case k14 => k_is)
    (case a15 => k_is)
    (case l15 => k_is)
    (case c15 => k_is)
    (case k15 => k_is)
    (case a16 => k_is)
    (case l16 => k_is)
    (case c16 => k_is)
    (case k16 => k_is)
    (case a17 => k_is)
    (case l17 => k_is)
    (case c17 => k_is)
    (case k17 => k_is)
    (case a18 => k_is)
    (case l18 => k_is)
    (case c18 => k_is)
    (case k18 => k_is)
    (case z_ValueError => k_is)
    (case z_abs => k_is)
    (case z_all => k_is)
    (case z_bool => k_is)
    (case z_int => k_is)
    (case z_isinstance => k_is)
    (case z_len => k_is)
    (case z_list => k_is)
    (case z_range => k_is)
    (case z_tuple => k_is)
    (case x_g_LONG => k_is)
    (case x_k_ib => kit_is)
    (case y_HouseError => k_is)
    (case y1_HouseError => k_exc)
    (case y2_HouseError => k_is)
    (case y3_HouseError => k_is)
    (case y4_HouseError => k_is)
    (case y5_HouseError => k_is)
    (case y6_HouseError => k_is)
    (case y_NoNumber => k_is)
    (case y1_NoNumber => k_exc)
    (case y2_NoNumber => k_is)
    (case y3_NoNumber => k_is)
    (case y4_NoNumber => k_is)
    (case y5_NoNumber => k_is)
    (case y6_NoNumber => k_is)
    (case y_NoRow => k_is)
    (case y1_NoRow => k_exc)
    (case y2_NoRow => k_is)
    (case y3_NoRow => k_is)
    (case y4_NoRow => k_is)
    (case y5_NoRow => k_is)
    (case y6_NoRow => k_is)
    (case y_NoValue => k_is)
    (case y_NoText => k_is)
    (case y_NoRoot => k_is)
    (case y_TooFar => k_is)
    (case y_NoLine => k_is)
    (case w_k_NoRow_NoNumber => kit_is)
    (case w_k_NoRow_NoRow => kit_is)
    (case w_k_NoRow_NoValue => kit_is)
    (case w_k_NoRow_NoText => kit_is)
    (case w_k_NoRow_NoRoot => kit_is)
    (case w_k_NoRow_TooFar => kit_is)
    (case w_k_NoRow_NoLine => kit_is)
    (case w_k_NoRow_ValueError => kit_is)
    (case w_u_NoRow_HouseError => k_is)
