import PyProof.Rows.All
import Wide.All
import OpenK.AllK
import Wide.FinOn
import Lean
import PyProof.EqAt
import PyProof.EqKinds
import PyProof.TupleCall
import PySem.Challenge.RW_ladderlots_k07_a_step
import PyProof.EnumMake
import PyProof.Rows.EnumRows
set_option Elab.async false
set_option linter.all false
set_option maxRecDepth 100000
/-! THE HAND LAYER, for ints, bools, texts, own classes, LISTS and tuples (index, slices, in, append, pop ..), calls, loops. Paste it whole ahead of your own text; what your proof does not reach may be deleted. -/
namespace L2
open PySem PySem.Spec PyProof.Rows
/-- a key: an int or a str -/
abbrev Key := Sum Int Str
def keyIs : Key → Value → Bool
  | .inl k, v => Value.isInt k v
  | .inr x, v => Value.isStrOf x v
def keyH (w : World) : Key → Int
  | .inl k => hashInt k
  | .inr x => hashStr w x
theorem keyIs_shape : ∀ {k : Key} {v : Value}, keyIs k v = true → (∃ i t, k = Sum.inl i ∧ v = Value.int i t) ∨ (∃ x t, k = Sum.inr x ∧ v = Value.str x t)
  | .inl i, v, h => by
    obtain ⟨t, e⟩ := Value.isInt_shape (k := i) (v := v) h
    exact .inl ⟨i, t, rfl, e⟩
  | .inr x, v, h => by
    obtain ⟨t, e⟩ := Value.isStrOf_shape (x := x) (v := v) h
    exact .inr ⟨x, t, rfl, e⟩
theorem key_ll (a b : Int) : decide ((Sum.inl a : Key) = Sum.inl b) = (a == b) := by
  by_cases e : a = b
  · subst e; simp
  · have h : ¬ (Sum.inl a : Key) = Sum.inl b := fun q => e (Sum.inl.inj q)
    rw [decide_eq_false h]
    exact (beq_eq_false_iff_ne.mpr e).symm
theorem key_rr (a b : Str) : decide ((Sum.inr a : Key) = Sum.inr b) = decide (a = b) := by
  by_cases e : a = b
  · subst e; simp
  · have h : ¬ (Sum.inr a : Key) = Sum.inr b := fun q => e (Sum.inr.inj q)
    rw [decide_eq_false h, decide_eq_false e]
theorem key_lr (a : Int) (b : Str) : decide ((Sum.inl a : Key) = Sum.inr b) = false := decide_eq_false (fun q => nomatch q)
theorem key_rl (a : Str) (b : Int) : decide ((Sum.inr a : Key) = Sum.inl b) = false := decide_eq_false (fun q => nomatch q)
def mixKind (prog : Program) (w : World) : PySem.KeyKind prog w Key where
  is := keyIs
  hash := keyH w
  inj := fun v a b ha hb => by
    rcases keyIs_shape ha with ⟨i, t, rfl, rfl⟩ | ⟨x, t, rfl, rfl⟩
    · rcases keyIs_shape hb with ⟨j, u, rfl, e⟩ | ⟨y, u, rfl, e⟩
      · injection e with e1 _; rw [e1]
      · exact nomatch e
    · rcases keyIs_shape hb with ⟨j, u, rfl, e⟩ | ⟨y, u, rfl, e⟩
      · exact nomatch e
      · injection e with e1 _; rw [e1]
  byValue := fun k v h => by
    rcases keyIs_shape h with ⟨i, t, rfl, rfl⟩ | ⟨x, t, rfl, rfl⟩ <;> rfl
  pyHash := fun hv h => by
    rcases keyIs_shape hv with ⟨i, t, rfl, rfl⟩ | ⟨x, t, rfl, rfl⟩
    · exact wpAny_pyHash_int h
    · exact wpAny_pyHash_str h
  eqBool := fun hu hv h => by
    rcases keyIs_shape hu with ⟨i, t, rfl, rfl⟩ | ⟨x, t, rfl, rfl⟩
    · rcases keyIs_shape hv with ⟨j, u, rfl, rfl⟩ | ⟨y, u, rfl, rfl⟩
      · rw [key_ll] at h; exact wpAny_eqBool_int h
      · rw [key_lr] at h; exact SeqAt.EqAt.int_str i t y u _ _ _ _ h
    · rcases keyIs_shape hv with ⟨j, u, rfl, rfl⟩ | ⟨y, u, rfl, rfl⟩
      · rw [key_rl] at h; exact SeqAt.EqAt.str_int x t j u _ _ _ _ h
      · rw [key_rr] at h; exact wpAny_eqBool_str h
  «strs» := fun k x t v h => by
    rcases keyIs_shape h with ⟨i, u, rfl, e⟩ | ⟨y, u, rfl, e⟩
    · exact nomatch e
    · injection e with e1 _
      subst e1
      cases v <;> rfl
end L2
namespace L2
open PySem PySem.Spec PyProof.Rows
/-- a value, without the heap -/
inductive V where
  | non | bl (b : Bool) | int (i : Int) | str (x : Str) | byt (b : Array UInt8) | flt (b : UInt64) | ref (a : Addr) | ty (n : String)
  deriving DecidableEq
def RelV : V → Value → Prop
  | .non, u => u = Value.none
  | .bl b, u => u = Value.bool b
  | .int i, u => ∃ t, u = Value.int i t
  | .str x, u => ∃ t, u = Value.str x t
  | .byt b, u => ∃ t, u = Value.bytes b t
  | .flt b, u => ∃ t, u = Value.float b t
  | .ref a, u => u = Value.ref a
  | .ty n, u => u = Value.type n
abbrev Vals : List V → List Value → Prop := Paired RelV
theorem Vals.length {xs : List V} {us : List Value} (r : Vals xs us) : xs.length = us.length := Paired.length r
theorem Vals.get : ∀ {xs : List V} {us : List Value} {i : Nat} {x : V}, Vals xs us → xs[i]? = some x → ∃ u, us[i]? = some u ∧ RelV x u
  | _, _, _, _, .nil, e => by simp at e
  | _, _, 0, _, .cons r _, e => by simp at e; subst e; exact ⟨_, rfl, r⟩
  | _, _, i + 1, x, .cons _ t, e => by
    obtain ⟨u, h1, h2⟩ := Vals.get (i := i) (x := x) t (by simpa using e)
    exact ⟨u, by simpa using h1, h2⟩
theorem Vals.set {x : V} {u : Value} (r : RelV x u) : ∀ {xs : List V} {us : List Value} (i : Nat), Vals xs us → Vals (xs.set i x) (us.set i u)
  | _, _, _, .nil => .nil
  | _, _, 0, .cons _ t => .cons r t
  | _, _, i + 1, .cons q t => .cons q (Vals.set r i t)
theorem Vals.append : ∀ {xs ys : List V} {us ws : List Value}, Vals xs us → Vals ys ws → Vals (xs ++ ys) (us ++ ws)
  | _, _, _, _, .nil, s => s
  | _, _, _, _, .cons r t, s => .cons r (Vals.append t s)
theorem Vals.take : ∀ {xs : List V} {us : List Value} (n : Nat), Vals xs us → Vals (xs.take n) (us.take n)
  | _, _, 0, _ => .nil
  | _, _, _ + 1, .nil => .nil
  | _, _, n + 1, .cons r t => .cons r (Vals.take n t)
theorem Vals.drop : ∀ {xs : List V} {us : List Value} (n : Nat), Vals xs us → Vals (xs.drop n) (us.drop n)
  | _, _, 0, r => r
  | _, _, _ + 1, .nil => .nil
  | _, _, n + 1, .cons _ t => Vals.drop n t
theorem Vals.none_of : ∀ {xs : List V} {us : List Value} {i : Nat}, Vals xs us → xs[i]? = none → us[i]? = none := fun {xs us i} r e => by
  have h1 := r.length
  have h2 : xs.length ≤ i := List.getElem?_eq_none_iff.mp e
  exact List.getElem?_eq_none_iff.mpr (by omega)
def RelO : Option V → Option Value → Prop
  | some v, some u => RelV v u
  | none, none => True
  | _, _ => False
def KV {κ : Type} : List (κ × V) → List (κ × Value) → Prop := Paired fun (p : κ × V) (q : κ × Value) => p.1 = q.1 ∧ RelV p.2 q.2
/-- a key of a dict (00_mix): an int or a text -/
def kV : Key → V
  | .inl i => .int i
  | .inr x => .str x
/-- what stands at a tracked address -/
inductive HO where
  /-- a list -/
  | lst (xs : List V)
  /-- a tuple (never changes) -/
  | tup (xs : List V)
  /-- a dict whose keys are ints and texts; one whose keys are tuples of ints and texts (the empty one is both) -/
  | dK (kvs : List (Key × V)) | dT (kvs : List (List Key × V))
  /-- a set of ints: its members, its size -/
  | set (S : Int → Bool) (n : Nat)
  /-- an instance of the class at C, its dict at dx, its attributes -/
  | ins (C dx : Addr) (fs : List (Str × V))
  /-- the dict of the instance at x -/
  | own (x : Addr)
  /-- the dict of an exception -/
  | xd (fs : List (Str × V))
  /-- a bound method, f of x -/
  | met (f x : Addr)
  /-- a range object lo, lo + 1, .. below hi -/
  | rng (lo hi : Int)
  /-- a thing that is known to the object (the script; a dict while a loop walks it): read, never written while it is so -/
  | frz (o : Obj) (u : HO)
  /-- a code object's table -/
  | tbl (ps : Array Value)
  /-- any other thing, by what is true of its one object (a def of one's own: SetO a S n := HO.ext fun h => ..) -/
  | ext (φ : Heap → Prop)
abbrev Hp := Addr → Option HO
def upd (H : Hp) (a : Addr) (o : HO) : Hp := fun b => if b = a then some o else H b
theorem upd_same {H : Hp} {a : Addr} {o : HO} : upd H a o a = some o := by unfold upd; rw [if_pos rfl]
theorem upd_ne {H : Hp} {a b : Addr} {o : HO} (h : b ≠ a) : upd H a o b = H b := by unfold upd; rw [if_neg h]
theorem upd_upd {H : Hp} {a : Addr} {o u : HO} : upd (upd H a o) a u = upd H a u := by
  funext b; unfold upd; split <;> rfl
/-- two objects of different content stand apart -/
theorem ne_of {H : Hp} {a b : Addr} {o u : HO} (h : H a = some o) (h' : H b = some u) (d : o ≠ u) : a ≠ b := by
  intro e; subst e; rw [h] at h'; exact d (Option.some.inj h')
theorem ne_of_none {H : Hp} {a b : Addr} {o : HO} (h : H a = some o) (h' : H b = none) : a ≠ b := by
  intro e; subst e; rw [h] at h'; cases h'
section
variable (P : Program) (w : World)
def ObjOk (H : Hp) (h : Heap) (a : Addr) : HO → Prop
  | .lst xs => xs.length ≤ sizeLine ∧ ∃ (its : List Value) (n : Nat), Vals xs its ∧ h.get? a = some { cls := .type "list", data := .seq its.toArray n }
  | .tup xs => xs.length ≤ sizeLine ∧ ∃ its : List Value, Vals xs its ∧ IsTup h a its.toArray
  | .dK kvs => kvs.length ≤ sizeLine ∧ (a == sysModules) = false ∧ ∃ vs, KV kvs vs ∧ h.DictOf (mixKind P w) a vs
  | .dT kvs => kvs.length ≤ sizeLine ∧ (a == sysModules) = false ∧ ∃ xs : List (List Key × Addr × Value),
      Paired (fun (p : List Key × V) (q : List Key × Addr × Value) => p.1 = q.1 ∧ H q.2.1 = some (.tup (p.1.map kV)) ∧ RelV p.2 q.2.2) kvs xs ∧
      ∃ o es ep, h.get? a = some o ∧ o.ExactDict ∧ o.data = .dict es ep ∧ es.toList = xs.map (entryOfKey (tupleKind (mixKind P w))) ∧ (xs.map (·.1)).Nodup
  | .set S n => h.SetOf (intKind P w) a S n
  | .ins C dx fs => H dx = some (.own a) ∧ fs.length ≤ 1000 ∧ dx ≠ a ∧ h.get? a = some (PySem.W.instObj C dx) ∧
      ∃ mA, h.Ns1 dx mA ∧ (∀ f, RelO (fs.lookup f) (mA f)) ∧ PySem.Within mA (fs.map (·.1))
  | .own _ => ∃ o, h.get? a = some o
  | .xd fs => ∃ mA, h.Ns1 a mA ∧ ∀ f, RelO (fs.lookup f) (mA f)
  | .rng lo hi => ∃ t u v, h.get? a = some { cls := .type "range", data := .fields #[.int lo t, .int hi u, .int 1 v] }
  | .frz o u => h.get? a = some o ∧ ObjOk H h a u
  | .tbl ps => h.get? a = some { cls := .none, data := .fields ps }
  | .met f x => h.get? a = some (PySem.W.methodObj (.ref f) (.ref x))
  | .ext φ => φ h ∧ (∃ o, h.get? a = some o) ∧ ∀ h1 h2 : Heap, φ h1 → (∀ o, h1.get? a = some o → h2.get? a = some o) → φ h2
/-- the abstract heap is held -/
def HOk (H : Hp) (h : Heap) : Prop := ∀ a o, H a = some o → ObjOk P w H h a o
end
section
variable {P : Program} {w : World} {H H' : Hp} {h h' : Heap} {a : Addr} {o : HO}
theorem ObjOk.lt (x : ObjOk P w H h a o) : a < h.objs.size := by
  cases o with
  | lst xs => obtain ⟨_, _, _, _, e⟩ := x; exact Heap.lt_size e
  | tup xs => obtain ⟨_, _, _, p⟩ := x; exact p.lt
  | dK kvs => obtain ⟨_, _, _, _, o, _, _, e, _⟩ := x; exact Heap.lt_size e
  | dT kvs => obtain ⟨_, _, _, _, o, _, _, e, _⟩ := x; exact Heap.lt_size e
  | set S n => obtain ⟨o, _, _, _, e, _⟩ := x; exact Heap.lt_size e
  | ins C dx fs => obtain ⟨_, _, _, e, _⟩ := x; exact Heap.lt_size e
  | own y => obtain ⟨_, e⟩ := x; exact Heap.lt_size e
  | xd fs => obtain ⟨_, ⟨_, _, _, e, _⟩, _⟩ := x; exact Heap.lt_size e
  | rng lo hi => obtain ⟨_, _, _, e⟩ := x; exact Heap.lt_size e
  | frz ob u => obtain ⟨e, _⟩ := x; exact Heap.lt_size e
  | tbl ps => exact Heap.lt_size (show h.get? a = some _ from x)
  | met f y => exact Heap.lt_size (show h.get? a = some _ from x)
  | ext φ => obtain ⟨_, ⟨_, e⟩, _⟩ := x; exact Heap.lt_size e
theorem Paired.mapP {α β : Type} {F G : α → β → Prop} : ∀ {l₁ : List α} {l₂ : List β}, Paired F l₁ l₂ → (∀ a b, F a b → G a b) → Paired G l₁ l₂
  | _, _, .nil, _ => .nil
  | _, _, .cons r t, f => .cons (f _ _ r) (Paired.mapP t f)
/-- what an object's description leans on: its own object, its own dict, the tuples -/
theorem ObjOk.stay (x : ObjOk P w H h a o) (k : ∀ b u, (b = a ∨ H b = some (.own a)) → h.get? b = some u → h'.get? b = some u)
    (ho : ∀ b, H b = some (.own a) → H' b = some (.own a)) (ht : ∀ b xs, H b = some (.tup xs) → H' b = some (.tup xs)) : ObjOk P w H' h' a o := by
  induction o with
  | lst xs => obtain ⟨z, its, n, r, e⟩ := x; exact ⟨z, its, n, r, k _ _ (.inl rfl) e⟩
  | tup xs => obtain ⟨z, its, r, ob, e, c⟩ := x; exact ⟨z, its, r, ob, k _ _ (.inl rfl) e, c⟩
  | dK kvs => obtain ⟨z, y, vs, r, ob, es, ep, e, c⟩ := x; exact ⟨z, y, vs, r, ob, es, ep, k _ _ (.inl rfl) e, c⟩
  | dT kvs =>
    obtain ⟨z, y, xs, r, ob, es, ep, e, c⟩ := x
    exact ⟨z, y, xs, Paired.mapP r fun p q z => ⟨z.1, ht _ _ z.2.1, z.2.2⟩, ob, es, ep, k _ _ (.inl rfl) e, c⟩
  | set S n => obtain ⟨ob, es, ep, t, e, c⟩ := x; exact ⟨ob, es, ep, t, k _ _ (.inl rfl) e, c⟩
  | ins C dx fs =>
    obtain ⟨d, z, ne, e, mA, ⟨od, es, ep, e2, c⟩, r⟩ := x
    exact ⟨ho _ d, z, ne, k _ _ (.inl rfl) e, mA, ⟨od, es, ep, k _ _ (.inr d) e2, c⟩, r⟩
  | own y => obtain ⟨ob, e⟩ := x; exact ⟨ob, k _ _ (.inl rfl) e⟩
  | xd fs => obtain ⟨mA, ⟨od, es, ep, e, c⟩, r⟩ := x; exact ⟨mA, ⟨od, es, ep, k _ _ (.inl rfl) e, c⟩, r⟩
  | rng lo hi => obtain ⟨t, u, v, e⟩ := x; exact ⟨t, u, v, k _ _ (.inl rfl) e⟩
  | frz ob u ih => obtain ⟨e, q⟩ := x; exact ⟨k _ _ (.inl rfl) e, ih q⟩
  | tbl ps =>
    have e : h.get? a = some { cls := .none, data := .fields ps } := x
    show h'.get? a = some { cls := .none, data := .fields ps }
    exact k a _ (.inl rfl) e
  | met f y =>
    have e : h.get? a = some (PySem.W.methodObj (.ref f) (.ref y)) := x
    show h'.get? a = some (PySem.W.methodObj (.ref f) (.ref y))
    exact k a _ (.inl rfl) e
  | ext φ => obtain ⟨p, ⟨o, e⟩, st⟩ := x; exact ⟨st _ _ p fun o q => k _ _ (.inl rfl) q, ⟨o, k _ _ (.inl rfl) e⟩, st⟩
theorem HOk.lt (x : HOk P w H h) (e : H a = some o) : a < h.objs.size := (x a o e).lt
theorem HOk.fresh (x : HOk P w H h) (e : h.objs.size ≤ a) : H a = none := by
  cases q : H a with
  | none => rfl
  | some u => exact absurd (Nat.lt_of_lt_of_le (x.lt q) e) (Nat.lt_irrefl _)
/-- every object of the heap is kept -/
theorem HOk.kept (x : HOk P w H h) (k : ∀ b u, h.get? b = some u → h'.get? b = some u) : HOk P w H h' := fun a o e =>
  (x a o e).stay (fun b u _ q => k b u q) (fun _ q => q) fun _ _ q => q
/-- a new object is laid and tracked -/
theorem HOk.laid (x : HOk P w H h) (k : ∀ b u, h.get? b = some u → h'.get? b = some u) (hp : h.objs.size ≤ a) (new : ObjOk P w (upd H a o) h' a o) : HOk P w (upd H a o) h' := fun b u e => by
  have hn := x.fresh hp
  by_cases hb : b = a
  · subst hb; rw [upd_same] at e; cases e; exact new
  · rw [upd_ne hb] at e
    exact (x b u e).stay (fun c v _ q => k c v q) (fun c q => by rw [upd_ne (ne_of_none q hn)]; exact q) fun c xs q => by rw [upd_ne (ne_of_none q hn)]; exact q
end
/-- what may be read as u: it is u, or a known u -/
def Rd (H : Hp) (a : Addr) (u : HO) : Prop := H a = some u ∨ ∃ o, H a = some (.frz o u)
theorem Rd.of {H : Hp} {a : Addr} {u : HO} (h : H a = some u) : Rd H a u := .inl h
theorem Rd.ok {P : Program} {w : World} {H : Hp} {h : Heap} {a : Addr} {u : HO} (r : Rd H a u) (x : HOk P w H h) : ObjOk P w H h a u := by
  rcases r with r | ⟨o, r⟩
  · exact x a u r
  · obtain ⟨_, q⟩ := x a _ r
    exact q
/-- what may be written -/
def Mut : Option HO → Prop
  | some (.lst _) => True
  | some (.dK _) => True
  | some (.dT _) => True
  | some (.set _ _) => True
  | some (.ins _ _ _) => True
  | some (.ext _) => True
  | _ => False
section
variable {P : Program} {w : World} {H : Hp} {h h' : Heap} {x e : Addr} {o' : HO}
/-- the object at e is changed: x itself, or the dict of the instance x -/
theorem HOk.write (ok : HOk P w H h) (mu : Mut (H x)) (he : e = x ∨ H e = some (.own x)) (k : ∀ b u, b ≠ e → h.get? b = some u → h'.get? b = some u) (heo : ∃ u, h'.get? e = some u)
    (new : ObjOk P w (upd H x o') h' x o') : HOk P w (upd H x o') h' := fun b u q => by
  have nown : ∀ c y, H c = some (.own y) → c ≠ x := fun c y r z => by subst z; rw [r] at mu; exact mu
  have ntup : ∀ c xs, H c = some (.tup xs) → c ≠ x := fun c xs r z => by subst z; rw [r] at mu; exact mu
  by_cases hb : b = x
  · subst hb; rw [upd_same] at q; cases q; exact new
  · rw [upd_ne hb] at q
    by_cases hbe : b = e
    · have q' : H b = some (.own x) := by
        rcases he with z | z
        · exact absurd (hbe.trans z) hb
        · rw [hbe]; exact z
      rw [q] at q'; cases q'
      obtain ⟨v, hv⟩ := heo
      exact ⟨v, by rw [hbe]; exact hv⟩
    · refine (ok b u q).stay (fun c v hc r => k c v ?_ r) (fun c r => by rw [upd_ne (nown c b r)]; exact r) fun c xs r => by rw [upd_ne (ntup c xs r)]; exact r
      rcases hc with rfl | hc
      · exact hbe
      · rintro rfl
        rcases he with z | z
        · exact nown c b hc z
        · rw [hc] at z; cases z; exact hb rfl
end
/-! ### kept unless tracked; of the frames at fs (the callers') the slots may change (an exception that passes writes there); of the records at ex (iterators) nothing is said -/
structure Un (fs ex : List Addr) (H H' : Hp) (h h' : Heap) : Prop where
  keep : ∀ b o, h.get? b = some o → H b = none → b ∉ fs → b ∉ ex → h'.get? b = some o
  slot : ∀ b o, h.get? b = some o → H b = none → b ∈ fs → b ∉ ex → ∃ sl, h'.get? b = some { o with slots := sl }
  free : ∀ b o, h.get? b = some o → H b = none → b ∉ ex → H' b = none
  there : ∀ b o, h.get? b = some o → b ∉ ex → ∃ o', h'.get? b = some o'
  tups : ∀ b xs, H b = some (.tup xs) → H' b = some (.tup xs)
  frzs : ∀ b o u, H b = some (.frz o u) → H' b = some (.frz o u)
  tbls : ∀ b ps, H b = some (.tbl ps) → ∃ more, H' b = some (.tbl (ps ++ more))
section
variable {fs fs' ex ex' : List Addr} {H H1 H2 : Hp} {h h1 h2 h' : Heap} {a x e : Addr} {o : HO}
theorem Un.any (u : Un fs ex H H1 h h1) {b : Addr} {ob : Obj} (q : h.get? b = some ob) (n : H b = none) (hx : b ∉ ex) : ∃ sl, h1.get? b = some { ob with slots := sl } := by
  by_cases hb : b ∈ fs
  · exact u.slot b ob q n hb hx
  · exact ⟨ob.slots, u.keep b ob q n hb hx⟩
theorem Un.trans (a : Un fs ex H H1 h h1) (b : Un fs ex H1 H2 h1 h2) : Un fs ex H H2 h h2 where
  keep := fun c ob q n hc hx => b.keep c ob (a.keep c ob q n hc hx) (a.free c ob q n hx) hc hx
  slot := fun c ob q n hc hx => by
    obtain ⟨sl, e1⟩ := a.slot c ob q n hc hx
    obtain ⟨sl', e2⟩ := b.slot c _ e1 (a.free c ob q n hx) hc hx
    exact ⟨sl', e2⟩
  free := fun c ob q n hx => by
    obtain ⟨o', e1⟩ := a.there c ob q hx
    exact b.free c o' e1 (a.free c ob q n hx) hx
  there := fun c ob q hx => by
    obtain ⟨o', e1⟩ := a.there c ob q hx
    exact b.there c o' e1 hx
  tups := fun c xs q => b.tups c xs (a.tups c xs q)
  frzs := fun c ob xs q => b.frzs c ob xs (a.frzs c ob xs q)
  tbls := fun c ps q => by
    obtain ⟨m1, e1⟩ := a.tbls c ps q
    obtain ⟨m2, e2⟩ := b.tbls c _ e1
    exact ⟨m1 ++ m2, by rw [e2, Array.append_assoc]⟩
theorem Un.kept (k : ∀ b u, h.get? b = some u → h'.get? b = some u) : Un fs ex H H h h' :=
  ⟨fun b ob q _ _ _ => k b ob q, fun b ob q _ _ _ => ⟨ob.slots, k b ob q⟩, fun _ _ _ n _ => n, fun b ob q _ => ⟨ob, k b ob q⟩, fun _ _ q => q, fun _ _ _ q => q, fun _ ps q => ⟨#[], by rw [q]; simp⟩⟩
theorem Un.refl : Un fs ex H H h h := Un.kept fun _ _ q => q
theorem Un.laid (k : ∀ b u, h.get? b = some u → h'.get? b = some u) (hp : h.objs.size ≤ a) (hn : H a = none) : Un fs ex H (upd H a o) h h' where
  keep := fun b u q _ _ _ => k b u q
  slot := fun b u q _ _ _ => ⟨u.slots, k b u q⟩
  free := fun b u q n _ => by rw [upd_ne (Nat.ne_of_lt (Nat.lt_of_lt_of_le (Heap.lt_size q) hp))]; exact n
  there := fun b u q _ => ⟨u, k b u q⟩
  tups := fun b xs q => by rw [upd_ne (ne_of_none q hn)]; exact q
  frzs := fun b u xs q => by rw [upd_ne (ne_of_none q hn)]; exact q
  tbls := fun b ps q => ⟨#[], by rw [upd_ne (ne_of_none q hn), q]; simp⟩
theorem Un.write (mu : Mut (H x)) (he : e = x ∨ H e = some (.own x)) (k : ∀ b u, b ≠ e → h.get? b = some u → h'.get? b = some u) (heo : ∃ u, h'.get? e = some u) : Un fs ex H (upd H x o) h h' := by
  have hx : ∀ b, H b = none → b ≠ x := fun b n z => by subst z; rw [n] at mu; exact mu
  have hb : ∀ b, H b = none → b ≠ e := fun b n z => by
    subst z
    rcases he with r | r
    · exact hx b n r
    · rw [n] at r; cases r
  have hm : ∀ b u, H b = some u → ¬ Mut (some u) → b ≠ x := fun b u q nm z => by subst z; rw [q] at mu; exact nm mu
  refine ⟨fun b u q n _ _ => k b u (hb b n) q, fun b u q n _ _ => ⟨u.slots, k b u (hb b n) q⟩, fun b u q n _ => by rw [upd_ne (hx b n)]; exact n, fun b u q _ => ?_,
    fun b xs q => by rw [upd_ne (hm b _ q fun z => z)]; exact q, fun b u xs q => by rw [upd_ne (hm b _ q fun z => z)]; exact q, fun b ps q => ⟨#[], by rw [upd_ne (hm b _ q fun z => z), q]; simp⟩⟩
  by_cases hbe : b = e
  · subst hbe; exact heo
  · exact ⟨u, k b u hbe q⟩
theorem Un.mono (u : Un fs ex H H1 h h1) (hs : ∀ b ∈ fs, b ∈ fs') (hx : ∀ b ∈ ex, b ∈ ex') : Un fs' ex' H H1 h h1 :=
  ⟨fun b ob q n hb he => u.keep b ob q n (fun z => hb (hs b z)) fun z => he (hx b z), fun _ _ q n _ he => u.any q n fun z => he (hx _ z), fun b ob q n he => u.free b ob q n fun z => he (hx b z), fun b ob q he => u.there b ob q fun z => he (hx b z), u.tups, u.frzs, u.tbls⟩
end
/-! ### the heap without what is tracked -/
def trk (h : Heap) (H : Hp) : List Addr := (List.range h.objs.size).filter fun a => (H a).isSome
def hidT (h : Heap) (H : Hp) : Heap := PySem.W.hideAll h (trk h H)
theorem hidT_size (h : Heap) (H : Hp) : (hidT h H).objs.size = h.objs.size := PySem.W.hideAll_size _ _
theorem hidT_get {h : Heap} {H : Hp} {b : Addr} {o : Obj} (e : h.get? b = some o) (n : H b = none) : (hidT h H).get? b = some o :=
  PySem.W.hideAll_get _ e fun hm => by
    have q : (H b).isSome = true := (List.mem_filter.mp hm).2
    rw [n] at q; simp at q
theorem of_hidT {h : Heap} {H : Hp} {b : Addr} {o : Obj} (e : (hidT h H).get? b = some o) : h.get? b = some o ∧ H b = none := by
  have e' : h.get? b = some o := PySem.W.of_hideAll (trk h H) e
  refine ⟨e', ?_⟩
  cases q : H b with
  | none => rfl
  | some x =>
    have hm : b ∈ trk h H := List.mem_filter.mpr ⟨List.mem_range.mpr (Heap.lt_size e'), by simp [q]⟩
    have z : (hidT h H).get? b = none := PySem.W.hideAll_none (trk h H) hm
    rw [z] at e; cases e
/-! ### OpenK's ledger, filled with every new object but one -/
def allNews (g h : Heap) (L : Addr) : List (Addr × Obj) := (List.range h.objs.size).filterMap fun a => if a = L ∨ (g.get? a).isSome = true then none else (h.get? a).map fun o => (a, o)
def rest (g h : Heap) (L d : Addr) : List (Addr × Obj) := (allNews g h L).filter fun p => decide (p.1 ≠ d)
end L2
namespace L2
open PySem PySem.Spec PyProof.Rows
/-- the module's facts, over the base: the heap at the law's entry without what is tracked there -/
structure Mod (K : PySem.W.Frag) (mg : Str → Option Value) (base : Heap) : Prop where
  kin : K.In base
  glob : base.Ns mainGlobals mg
  blt : ∃ mb, base.Ns builtinsNs mb ∧ ∀ x : Str, x ≠ "__name__" → mb x = bootBuiltins x
  nolimit : base.NoLimit
/-- the context: a def's body (or a comprehension's block) running. base: fixed through the whole law; s₀, H₀: the entry; outer: the frames whose slots others may change (a def's callers); stack: all frames that run;
   ex: iterators that were made ahead of the entry and are walked here (a comprehension's); fn: the names whose cells were made at the entry (a def: all; a comprehension's block: its own); calm: not within an except suite; pn: pins that every state bears; xe: what is wanted of an exception that leaves the code -/
structure Cx where
  prog : Program
  w : World
  K : PySem.W.Frag
  mg : Str → Option Value
  base : Heap
  A : Around
  N : List Str
  s₀ : Shared
  H₀ : Hp
  env : Env
  outer : List Env
  stack : List Env
  ex : List Addr
  fn : Str → Bool
  calm : Bool
  pn : List (Addr × Obj)
  xe : Value → Shared → Prop
/-- the callers' frames -/
def frs (l : List Env) : List Addr := l.filterMap (·.frame)
abbrev Cx.fs (X : Cx) : List Addr := frs X.outer
def Vis (sc : Scope) (x : Str) : Prop := sc.names.lookup x = some .local ∨ sc.names.lookup x = some .cell ∨ sc.names.lookup x = some .free
def Loc (sc : Scope) (x : Str) : Prop := sc.names.lookup x = some .local ∨ sc.names.lookup x = some .cell
def Look (env : Env) (h : Heap) (m : Str → Option Value) (x : Str) (u : Value) : Prop :=
  (env.kindOf x = some .local ∧ m x = some u) ∨ ((env.kindOf x = some .cell ∨ env.kindOf x = some .free) ∧ ∃ c, env.cells.lookup x = some c ∧ h.IsCell c (some u))
structure Cx.Ok (X : Cx) : Prop where
  mod : Mod X.K X.mg X.base
  kind : X.env.scope.kind = .function
  glob : X.env.globals = mainGlobals
  blt : X.env.builtins = builtinsNs
  above : X.s₀.heap.objs.size ≤ X.env.locals
  inj : ∀ x y c, X.env.cells.lookup x = some c → X.env.cells.lookup y = some c → x = y
  has : ∀ x, (X.env.kindOf x = some .cell ∨ X.env.kindOf x = some .free) → ∃ c, X.env.cells.lookup x = some c
  cab : ∀ x c, X.fn x = true → X.env.cells.lookup x = some c → X.s₀.heap.objs.size ≤ c
  hd : X.calm = true → X.A.handled = none
  frames : X.A.frames = some X.stack
  stk : X.stack = X.outer ∨ (X.stack = X.env :: X.outer ∧ X.env.frame = some X.env.locals)
  exf : ∀ b ∈ X.ex, b ≠ X.env.locals ∧ ∀ x c, X.env.cells.lookup x = some c → c ≠ b
  bs : ∀ b o, X.base.get? b = some o → X.s₀.heap.get? b = some o ∧ X.H₀ b = none
  bsz : X.base.objs.size ≤ X.s₀.heap.objs.size
  noex : ∀ b o, X.base.get? b = some o → b ∉ X.ex
  exfs : ∀ b ∈ X.ex, b ∉ X.fs
  funs : X.s₀.heap.FunFrames X.base X.outer
  frf : ∀ b ∈ X.fs, X.H₀ b = none
structure Inv (X : Cx) (pins : List (Addr × Obj)) (σ : List (Option V)) (H : Hp) (s : Shared) : Prop where
  ok : X.Ok
  os : s.os = X.s₀.os
  bare : AllBare s.gens
  base : Un X.fs X.ex X.H₀ H X.s₀.heap s.heap
  loc : ∃ m, s.heap.Ns X.env.locals m ∧ ∀ (i : Nat) (x : Str) (v : V), X.N[i]? = some x → σ[i]? = some (some v) → Vis X.env.scope x → ∃ u, RelV v u ∧ Look X.env s.heap m x u
  cell : ∀ x c, X.env.cells.lookup x = some c → ∃ v, s.heap.IsCell c v
  free : H X.env.locals = none
  freeC : ∀ x c, X.env.cells.lookup x = some c → H c = none
  pin : ∀ p ∈ X.pn ++ pins, s.heap.get? p.1 = some p.2 ∧ H p.1 = none ∧ p.1 ≠ X.env.locals ∧ p.1 ∉ X.fs ∧ ∀ v, p.2.data ≠ .cell v
  hok : HOk X.prog X.w H s.heap
  len : σ.length = X.N.length
section
variable {X : Cx} {pins : List (Addr × Obj)} {σ : List (Option V)} {H H' : Hp} {s : Shared} {h' : Heap}
theorem Cx.Ok.nofr (ok : X.Ok) {b : Addr} {o : Obj} (e : X.base.get? b = some o) : b ∉ X.fs := fun hb => by
  have := (ok.funs.mem hb).1
  rw [e] at this; cases this
theorem Inv.bs (I : Inv X pins σ H s) : ∀ b o, X.base.get? b = some o → s.heap.get? b = some o ∧ H b = none := fun b o e =>
  ⟨I.base.keep b o (I.ok.bs b o e).1 (I.ok.bs b o e).2 (I.ok.nofr e) (I.ok.noex b o e), I.base.free b o (I.ok.bs b o e).1 (I.ok.bs b o e).2 (I.ok.noex b o e)⟩
theorem Inv.bk (I : Inv X pins σ H s) : ∀ b o, X.base.get? b = some o → s.heap.get? b = some o := fun b o e => (I.bs b o e).1
theorem Inv.mod (I : Inv X pins σ H s) : Mod X.K X.mg X.base := I.ok.mod
theorem Inv.kIn (I : Inv X pins σ H s) : X.K.In s.heap := I.ok.mod.kin.keeps I.bk
theorem Inv.nolimit (I : Inv X pins σ H s) : s.heap.NoLimit := I.ok.mod.nolimit.keeps I.bk
theorem Inv.lt (I : Inv X pins σ H s) : X.env.locals < s.heap.objs.size := let ⟨_, hn, _⟩ := I.loc; hn.lt
theorem Inv.sz (I : Inv X pins σ H s) : X.s₀.heap.objs.size ≤ s.heap.objs.size := Nat.le_trans I.ok.above (Nat.le_of_lt I.lt)
theorem Inv.nofs (I : Inv X pins σ H s) {a : Addr} (h : s.heap.objs.size ≤ a) : a ∉ X.fs := fun hb => by
  obtain ⟨_, o, ho, _⟩ := I.ok.funs.mem hb
  exact absurd (Nat.lt_of_lt_of_le (Heap.lt_size ho) (Nat.le_trans I.sz h)) (Nat.lt_irrefl _)
theorem Inv.cne (I : Inv X pins σ H s) : ∀ x c, X.env.cells.lookup x = some c → c ≠ X.env.locals := fun x c e z => by
  obtain ⟨v, o, ho, hd⟩ := I.cell x c e
  obtain ⟨m, ⟨o', es, ep, ho', hd', _⟩, _⟩ := I.loc
  rw [z, ho'] at ho; cases ho; rw [hd'] at hd; cases hd
theorem Inv.funs (I : Inv X pins σ H s) : s.heap.FunFrames X.base X.outer := by
  have all : ∀ (l : List Env), (∀ b ∈ frs l, b ∈ X.fs) → X.s₀.heap.FunFrames X.base l → s.heap.FunFrames X.base l := by
    intro l
    induction l with
    | nil => intro _ _; trivial
    | cons env r ih =>
      intro hs hl
      obtain ⟨hk, ⟨L, o, hf, hn, ho, hd⟩, hr⟩ := hl
      have hL : L ∈ X.fs := hs L (by unfold frs; rw [List.filterMap_cons, hf]; exact List.mem_cons_self)
      obtain ⟨sl, e⟩ := I.base.slot L o ho (I.ok.frf L hL) hL fun z => I.ok.exfs L z hL
      exact ⟨hk, ⟨L, _, hf, hn, e, hd⟩, ih (fun b hb => hs b (by unfold frs; rw [List.filterMap_cons, hf]; exact List.mem_cons_of_mem _ hb)) hr⟩
  exact all X.outer (fun _ hb => hb) I.ok.funs
/-- the frames that run, for a call -/
theorem Inv.stack (I : Inv X pins σ H s) : s.heap.FunFrames X.base X.stack := by
  rcases I.ok.stk with e | ⟨e, hf⟩
  · rw [e]; exact I.funs
  · rw [e]
    obtain ⟨m, hn, _⟩ := I.loc
    refine .cons (by rw [I.ok.kind]; decide) hf hn ?_ I.funs
    exact Heap.get?_none_of_le (Nat.le_trans I.ok.bsz I.ok.above)
theorem Inv.stkSub (I : Inv X pins σ H s) : ∀ b ∈ frs X.stack, b ∈ X.env.locals :: X.fs := fun b hb => by
  rcases I.ok.stk with e | ⟨e, hf⟩
  · rw [e] at hb; exact List.mem_cons_of_mem _ hb
  · rw [e] at hb
    unfold frs at hb
    rw [List.filterMap_cons, hf] at hb
    exact hb
theorem Inv.stkFree (I : Inv X pins σ H s) : ∀ b ∈ frs X.stack, H b = none := fun b hb => by
  rcases List.mem_cons.mp (I.stkSub b hb) with e | hb
  · rw [e]; exact I.free
  · obtain ⟨_, o, ho, _⟩ := I.ok.funs.mem hb
    exact I.base.free b o ho (I.ok.frf b hb) fun z => I.ok.exfs b z hb
/-- THE STEP: the untracked objects but the frame and the records at ch are kept (the callers' frames up to slots), the frame's map is kept, the new abstract heap is held -/
theorem Inv.step {g' : Array GenState} {t' : Nat} {d' : Drawn} {ch : List Addr} (I : Inv X pins σ H s)
    (hch : ∀ b ∈ ch, (b ∈ X.ex ∨ X.s₀.heap.objs.size ≤ b) ∧ b ≠ X.env.locals ∧ (∀ x c, X.env.cells.lookup x = some c → c ≠ b) ∧ ∀ p ∈ X.pn ++ pins, p.1 ≠ b)
    (keep : ∀ b o, b ≠ X.env.locals → b ∉ X.fs → b ∉ ch → s.heap.get? b = some o → H b = none → h'.get? b = some o)
    (slot : ∀ b o, b ≠ X.env.locals → b ∈ X.fs → b ∉ ch → s.heap.get? b = some o → H b = none → ∃ sl, h'.get? b = some { o with slots := sl }) (free : ∀ b o, b ∉ ch → s.heap.get? b = some o → H b = none → H' b = none)
    (there : ∀ b o, b ∉ ch → s.heap.get? b = some o → ∃ o', h'.get? b = some o')
    (tups : ∀ b xs, H b = some (.tup xs) → H' b = some (.tup xs)) (frzs : ∀ b o u, H b = some (.frz o u) → H' b = some (.frz o u)) (tbls : ∀ b ps, H b = some (.tbl ps) → ∃ more, H' b = some (.tbl (ps ++ more)))
    (ns : ∀ m, s.heap.Ns X.env.locals m → h'.Ns X.env.locals m) (hok : HOk X.prog X.w H' h') (hg : AllBare g') :
    Inv X pins σ H' { s with heap := h', gens := g', drawn := d', toks := t' } := by
  have neL : ∀ b o, X.s₀.heap.get? b = some o → b ≠ X.env.locals := fun b o e => Nat.ne_of_lt (Nat.lt_of_lt_of_le (Heap.lt_size e) I.ok.above)
  have neC : ∀ b o, X.s₀.heap.get? b = some o → b ∉ X.ex → b ∉ ch := fun b o e hx hb => by
    rcases (hch b hb).1 with z | z
    · exact hx z
    · exact absurd (Nat.lt_of_lt_of_le (Heap.lt_size e) z) (Nat.lt_irrefl _)
  have cellK : ∀ x c, X.env.cells.lookup x = some c → ∀ v, s.heap.IsCell c v → h'.IsCell c v := fun x c e v ⟨o, ho, hd⟩ => by
    have nch : c ∉ ch := fun z => (hch c z).2.2.1 x c e rfl
    by_cases hc : c ∈ X.fs
    · obtain ⟨sl, q⟩ := slot c o (I.cne x c e) hc nch ho (I.freeC x c e)
      exact ⟨_, q, hd⟩
    · exact ⟨o, keep c o (I.cne x c e) hc nch ho (I.freeC x c e), hd⟩
  refine ⟨I.ok, I.os, hg, ⟨fun b o e n hb hx => ?_, fun b o e n hb hx => ?_, fun b o e n hx => ?_, fun b o e hx => ?_, fun b xs e => tups b xs (I.base.tups b xs e), fun b o xs e => frzs b o xs (I.base.frzs b o xs e), fun b ps e => ?_⟩, ?_, fun x c e => ?_, ?_, fun x c e => ?_, fun p hp => ?_, hok, I.len⟩
  · exact keep b o (neL b o e) hb (neC b o e hx) (I.base.keep b o e n hb hx) (I.base.free b o e n hx)
  · obtain ⟨sl, e1⟩ := I.base.slot b o e n hb hx
    obtain ⟨sl', e2⟩ := slot b _ (neL b o e) hb (neC b o e hx) e1 (I.base.free b o e n hx)
    exact ⟨sl', e2⟩
  · obtain ⟨o', e1⟩ := I.base.there b o e hx
    exact free b o' (neC b o e hx) e1 (I.base.free b o e n hx)
  · obtain ⟨o', e1⟩ := I.base.there b o e hx
    exact there b o' (neC b o e hx) e1
  · obtain ⟨m1, e1⟩ := I.base.tbls b ps e
    obtain ⟨m2, e2⟩ := tbls b _ e1
    exact ⟨m1 ++ m2, by rw [e2, Array.append_assoc]⟩
  · obtain ⟨m, hn, hl⟩ := I.loc
    refine ⟨m, ns m hn, fun i x v e1 e2 e3 => ?_⟩
    obtain ⟨u, r, l⟩ := hl i x v e1 e2 e3
    refine ⟨u, r, ?_⟩
    rcases l with l | ⟨k, c, e, z⟩
    · exact .inl l
    · exact .inr ⟨k, c, e, cellK x c e _ z⟩
  · obtain ⟨v, z⟩ := I.cell x c e
    exact ⟨v, cellK x c e v z⟩
  · obtain ⟨m, ⟨o, _, _, ho, _⟩, _⟩ := I.loc
    exact free _ o (fun z => (hch _ z).2.1 rfl) ho I.free
  · obtain ⟨v, o, ho, hd⟩ := I.cell x c e
    exact free c o (fun z => (hch c z).2.2.1 x c e rfl) ho (I.freeC x c e)
  · obtain ⟨e, n, ne, nf, d⟩ := I.pin p hp
    have nch : p.1 ∉ ch := fun z => (hch p.1 z).2.2.2 p hp rfl
    exact ⟨keep p.1 p.2 ne nf nch e n, free p.1 p.2 nch e n, ne, nf, d⟩
/-- .. where the frame's own object is kept too -/
theorem Inv.un {t' : Nat} (I : Inv X pins σ H s) (u : Un X.fs [] H H' s.heap h') (hok : HOk X.prog X.w H' h') : Inv X pins σ H' { s with heap := h', toks := t' } := by
  obtain ⟨m, ⟨o, es, ep, ho, r⟩, _⟩ := id I.loc
  obtain ⟨sl, hL⟩ := u.any ho I.free (by simp)
  exact I.step (g' := s.gens) (d' := s.drawn) (ch := []) (fun _ z => nomatch z) (fun b o _ hb _ e n => u.keep b o e n hb (by simp)) (fun b o _ hb _ e n => u.slot b o e n hb (by simp)) (fun b o _ e n => u.free b o e n (by simp)) (fun b o _ e => u.there b o e (by simp)) u.tups u.frzs u.tbls (fun m' hm => by
    obtain ⟨o', es', ep', ho', r'⟩ := hm
    rw [ho] at ho'; cases ho'
    exact ⟨_, es', ep', hL, r'⟩) hok I.bare
/-- behind a call (or a comprehension's block): the slots of this frame may have changed too, the records at ch may have turned -/
theorem Inv.call {g' : Array GenState} {t' : Nat} {d' : Drawn} {ch : List Addr} (I : Inv X pins σ H s) (u : Un (frs X.stack) ch H H' s.heap h') (hok : HOk X.prog X.w H' h') (hg : AllBare g')
    (hch : ∀ b ∈ ch, (b ∈ X.ex ∨ X.s₀.heap.objs.size ≤ b) ∧ b ≠ X.env.locals ∧ (∀ x c, X.env.cells.lookup x = some c → c ≠ b) ∧ ∀ p ∈ X.pn ++ pins, p.1 ≠ b) :
    Inv X pins σ H' { s with heap := h', gens := g', drawn := d', toks := t' } := by
  obtain ⟨m, ⟨o, es, ep, ho, r⟩, _⟩ := id I.loc
  obtain ⟨sl, hL⟩ := u.any ho I.free fun z => (hch _ z).2.1 rfl
  exact I.step (ch := ch) hch (fun b o hL hb hc e n => u.keep b o e n (fun z => (List.mem_cons.mp (I.stkSub b z)).elim hL hb) hc) (fun b o _ _ hc e n => u.any e n hc) (fun b o hc e n => u.free b o e n hc) (fun b o hc e => u.there b o e hc) u.tups u.frzs u.tbls (fun m' hm => by
    obtain ⟨o', es', ep', ho', r'⟩ := hm
    rw [ho] at ho'; cases ho'
    exact ⟨_, es', ep', hL, r'⟩) hok hg
/-- an untracked record of ours (an iterator) has turned -/
theorem Inv.turned {t' : Nat} {it : Addr} (I : Inv X pins σ H s) (k : ∀ b o, b ≠ it → s.heap.get? b = some o → h'.get? b = some o) (hn : H it = none) (hL : it ≠ X.env.locals)
    (h1 : it ∈ X.ex ∨ X.s₀.heap.objs.size ≤ it) (h2 : ∀ x c, X.env.cells.lookup x = some c → c ≠ it) (h3 : ∀ p ∈ X.pn ++ pins, p.1 ≠ it) : Inv X pins σ H { s with heap := h', toks := t' } := by
  have nit : ∀ b u, H b = some u → b ≠ it := fun b u e z => by rw [z, hn] at e; cases e
  refine I.step (g' := s.gens) (d' := s.drawn) (ch := [it]) (fun b hb => ?_) (fun b o _ _ hc e _ => k b o (fun z => hc (by simp [z])) e) (fun b o _ _ hc e _ => ⟨o.slots, k b o (fun z => hc (by simp [z])) e⟩) (fun _ _ _ _ n => n)
    (fun b o hc e => ⟨o, k b o (fun z => hc (by simp [z])) e⟩) (fun _ _ e => e) (fun _ _ _ e => e) (fun b ps e => ⟨#[], by rw [e]; simp⟩) (fun m hm => ?_) (fun b u e => ?_) I.bare
  · have e : b = it := by simpa using hb
    subst e
    exact ⟨h1, hL, h2, h3⟩
  · obtain ⟨o, es, ep, ho, r⟩ := hm
    exact ⟨o, es, ep, k _ o (Ne.symm hL) ho, r⟩
  · refine (I.hok b u e).stay (fun c v hc q => k c v ?_ q) (fun _ q => q) fun _ _ q => q
    rcases hc with z | z
    · rw [z]; exact nit b u e
    · exact nit c _ z
theorem Inv.tok (I : Inv X pins σ H s) (t : Nat) : Inv X pins σ H { s with toks := t } := I.un (h' := s.heap) (t' := t) Un.refl I.hok
/-- all objects kept -/
theorem Inv.kept {t' : Nat} (I : Inv X pins σ H s) (k : ∀ b u, s.heap.get? b = some u → h'.get? b = some u) : Inv X pins σ H { s with heap := h', toks := t' } := I.un (Un.kept k) (I.hok.kept k)
/-- a new object laid and tracked -/
theorem Inv.laid {a : Addr} {o : HO} {t' : Nat} (I : Inv X pins σ H s) (k : ∀ b u, s.heap.get? b = some u → h'.get? b = some u) (hp : s.heap.objs.size ≤ a) (new : ObjOk X.prog X.w (upd H a o) h' a o) :
    Inv X pins σ (upd H a o) { s with heap := h', toks := t' } := I.un (Un.laid k hp (I.hok.fresh hp)) (I.hok.laid k hp new)
/-- an object written -/
theorem Inv.write {x e : Addr} {o : HO} {t' : Nat} (I : Inv X pins σ H s) (mu : Mut (H x)) (he : e = x ∨ H e = some (.own x)) (k : ∀ b u, b ≠ e → s.heap.get? b = some u → h'.get? b = some u) (heo : ∃ u, h'.get? e = some u)
    (new : ObjOk X.prog X.w (upd H x o) h' x o) : Inv X pins σ (upd H x o) { s with heap := h', toks := t' } := I.un (Un.write mu he k heo) (I.hok.write mu he k heo new)
/-- forgetting slots, pins -/
theorem Inv.weak {σ' : List (Option V)} (I : Inv X pins σ H s) (hl : σ'.length = σ.length) (w : ∀ (i : Nat) v, σ'[i]? = some (some v) → σ[i]? = some (some v)) : Inv X pins σ' H s :=
  ⟨I.ok, I.os, I.bare, I.base, let ⟨m, hn, hl'⟩ := I.loc; ⟨m, hn, fun i x v e1 e2 e3 => hl' i x v e1 (w i v e2) e3⟩, I.cell, I.free, I.freeC, I.pin, I.hok, hl.trans I.len⟩
theorem Inv.pins_of {pins' : List (Addr × Obj)} (I : Inv X pins σ H s) (h : ∀ p ∈ pins', s.heap.get? p.1 = some p.2 ∧ H p.1 = none ∧ p.1 ≠ X.env.locals ∧ p.1 ∉ X.fs ∧ ∀ v, p.2.data ≠ .cell v) : Inv X pins' σ H s :=
  ⟨I.ok, I.os, I.bare, I.base, I.loc, I.cell, I.free, I.freeC, fun p hp => (List.mem_append.mp hp).elim (fun z => I.pin p (List.mem_append_left _ z)) (h p), I.hok, I.len⟩
theorem nodup_ix {N : List Str} (hN : N.Nodup) {i j : Nat} {x : Str} (a : N[i]? = some x) (b : N[j]? = some x) : i = j := by
  obtain ⟨h1, e1⟩ := List.getElem?_eq_some_iff.mp a
  obtain ⟨h2, e2⟩ := List.getElem?_eq_some_iff.mp b
  exact (List.getElem_inj hN).mp (e1.trans e2.symm)
/-- a name is stored; what changed -/
theorem store_ok2 {M : Model} {A : Around} {E : Value → Shared → Prop} {i : Nat} {x : Str} {v : V} {u : Value} {Q : Unit → Shared → Prop} (I : Inv X pins σ H s) (hN : X.N.Nodup) (hi : X.N[i]? = some x) (hx : Loc X.env.scope x) (r : RelV v u)
    (h : ∀ s', Inv X pins (σ.set i (some v)) H s' → (∃ a, Heap.SameBut a s.heap s'.heap ∧ (a = X.env.locals ∨ X.env.cells.lookup x = some a)) → Q () s') (hf : X.fn x = true ∨ X.env.scope.names.lookup x = some .local := by first | exact .inl rfl | exact .inr rfl | assumption) : wpAny M A (storeName X.env x u) Q E s := by
  obtain ⟨m, hn, hl⟩ := id I.loc
  have hcls : (X.env.scope.kind == .class || (X.env.scope.kind == .module && X.env.locals != X.env.globals)) = false := by rw [I.ok.kind]; rfl
  have hiσ : i < σ.length := by rw [I.len]; exact (List.getElem?_eq_some_iff.mp hi).1
  have cne := I.cne
  have tracked : ∀ {a : Addr} {h' : Heap}, (∃ o, s.heap.get? a = some o ∧ H a = none) → Heap.SameBut a s.heap h' → HOk X.prog X.w H h' := fun {a h'} ha hs b ob e => by
    obtain ⟨_, _, hfree⟩ := ha
    refine (I.hok b ob e).stay (fun c w' hc q => (hs.2 c ?_).trans q) (fun _ q => q) fun _ _ q => q
    rintro rfl
    rcases hc with rfl | hc
    · rw [hfree] at e; cases e
    · rw [hfree] at hc; cases hc
  rcases hx with hk | hk
  · refine wpAny_storeName_local hk hn (fun h' hn' hs => ?_) hcls
    obtain ⟨oL, _, _, hoL, _⟩ := id hn
    refine h _ ⟨I.ok, I.os, I.bare, ⟨fun b o e n hb hx => ?_, fun b o e n hb hx => ?_, I.base.free, fun b o e hx => ?_, I.base.tups, I.base.frzs, I.base.tbls⟩, ⟨_, hn', fun j y v' e1 e2 e3 => ?_⟩, fun y c e => ?_, I.free, I.freeC, fun p hp => ?_, tracked ⟨oL, hoL, I.free⟩ hs, by simpa using I.len⟩ ⟨_, hs, .inl rfl⟩
    · exact (hs.2 b (Nat.ne_of_lt (Nat.lt_of_lt_of_le (Heap.lt_size e) I.ok.above))).trans (I.base.keep b o e n hb hx)
    · obtain ⟨sl, e1⟩ := I.base.slot b o e n hb hx
      exact ⟨sl, (hs.2 b (Nat.ne_of_lt (Nat.lt_of_lt_of_le (Heap.lt_size e) I.ok.above))).trans e1⟩
    · obtain ⟨o', e1⟩ := I.base.there b o e hx
      exact ⟨o', (hs.2 b (Nat.ne_of_lt (Nat.lt_of_lt_of_le (Heap.lt_size e) I.ok.above))).trans e1⟩
    · by_cases hj : j = i
      · subst hj
        rw [hi] at e1; cases e1
        rw [List.getElem?_set_self hiσ] at e2
        cases e2
        exact ⟨u, r, .inl ⟨hk, by simp⟩⟩
      · rw [List.getElem?_set_ne (Ne.symm hj)] at e2
        obtain ⟨u', r', q⟩ := hl j y v' e1 e2 e3
        refine ⟨u', r', ?_⟩
        rcases q with ⟨k, e⟩ | ⟨k, c, e, z⟩
        · refine .inl ⟨k, ?_⟩
          have : y ≠ x := fun e => hj (nodup_ix hN e1 (e ▸ hi))
          simp [this, e]
        · exact .inr ⟨k, c, e, z.sameBut hs (cne y c e)⟩
    · obtain ⟨w', z⟩ := I.cell y c e
      exact ⟨w', z.sameBut hs (cne y c e)⟩
    · obtain ⟨e, n, ne, nf, d⟩ := I.pin p hp
      exact ⟨(hs.2 p.1 ne).trans e, n, ne, nf, d⟩
  · have hfn : X.fn x = true := by
      rcases hf with z | z
      · exact z
      · rw [z] at hk; cases hk
    obtain ⟨c, hc⟩ := I.ok.has x (.inl hk)
    obtain ⟨w', z⟩ := I.cell x c hc
    refine wpAny_storeName_cell I.ok.kind hk hc z (fun h' hc' hs => ?_)
    obtain ⟨oc, hoc, hocd⟩ := id z
    refine h { s with heap := h' } ⟨I.ok, I.os, I.bare, ⟨fun b o e n hb hx => ?_, fun b o e n hb hx => ?_, I.base.free, fun b o e hx => ?_, I.base.tups, I.base.frzs, I.base.tbls⟩, ⟨m, hn.sameBut hs (Ne.symm (cne x c hc)), fun j y v' e1 e2 e3 => ?_⟩, fun y c' e => ?_, I.free, I.freeC, fun p hp => ?_, tracked ⟨oc, hoc, I.freeC x c hc⟩ hs, by simpa using I.len⟩ ⟨c, hs, .inr hc⟩
    · exact (hs.2 b (Nat.ne_of_lt (Nat.lt_of_lt_of_le (Heap.lt_size e) (I.ok.cab x c hfn hc)))).trans (I.base.keep b o e n hb hx)
    · obtain ⟨sl, e1⟩ := I.base.slot b o e n hb hx
      exact ⟨sl, (hs.2 b (Nat.ne_of_lt (Nat.lt_of_lt_of_le (Heap.lt_size e) (I.ok.cab x c hfn hc)))).trans e1⟩
    · obtain ⟨o', e1⟩ := I.base.there b o e hx
      exact ⟨o', (hs.2 b (Nat.ne_of_lt (Nat.lt_of_lt_of_le (Heap.lt_size e) (I.ok.cab x c hfn hc)))).trans e1⟩
    · by_cases hj : j = i
      · subst hj
        rw [hi] at e1; cases e1
        rw [List.getElem?_set_self hiσ] at e2
        cases e2
        exact ⟨u, r, .inr ⟨.inl hk, c, hc, hc'⟩⟩
      · rw [List.getElem?_set_ne (Ne.symm hj)] at e2
        obtain ⟨u', r', q⟩ := hl j y v' e1 e2 e3
        refine ⟨u', r', ?_⟩
        rcases q with q | ⟨k, c', e, z'⟩
        · exact .inl q
        · refine .inr ⟨k, c', e, z'.sameBut hs ?_⟩
          rintro rfl
          exact hj (nodup_ix hN e1 (I.ok.inj _ _ _ e hc ▸ hi))
    · by_cases hcc : c' = c
      · subst hcc; exact ⟨_, hc'⟩
      · obtain ⟨w2, z2⟩ := I.cell y c' e
        exact ⟨w2, z2.sameBut hs hcc⟩
    · obtain ⟨e, n, ne, nf, d⟩ := I.pin p hp
      refine ⟨(hs.2 p.1 ?_).trans e, n, ne, nf, d⟩
      intro q
      rw [q, hoc] at e
      have q' : oc = p.2 := Option.some.inj e
      exact d w' (by rw [← q']; exact hocd)
theorem store_ok {M : Model} {A : Around} {E : Value → Shared → Prop} {i : Nat} {x : Str} {v : V} {u : Value} {Q : Unit → Shared → Prop} (I : Inv X pins σ H s) (hN : X.N.Nodup) (hi : X.N[i]? = some x) (hx : Loc X.env.scope x) (r : RelV v u)
    (h : ∀ s', Inv X pins (σ.set i (some v)) H s' → Q () s') (hf : X.fn x = true ∨ X.env.scope.names.lookup x = some .local := by first | exact .inl rfl | exact .inr rfl | assumption) : wpAny M A (storeName X.env x u) Q E s :=
  store_ok2 I hN hi hx r (fun s' I' _ => h s' I') hf
/-- behind a call or a block, the state as it is -/
theorem Inv.call' {s' : Shared} {ch : List Addr} (I : Inv X pins σ H s) (ho : s'.os = s.os) (u : Un (frs X.stack) ch H H' s.heap s'.heap) (hok : HOk X.prog X.w H' s'.heap) (hg : AllBare s'.gens)
    (hch : ∀ b ∈ ch, (b ∈ X.ex ∨ X.s₀.heap.objs.size ≤ b) ∧ b ≠ X.env.locals ∧ (∀ x c, X.env.cells.lookup x = some c → c ≠ b) ∧ ∀ p ∈ X.pn ++ pins, p.1 ≠ b) : Inv X pins σ H' s' := by
  obtain ⟨h', g', d', t', o'⟩ := s'
  have e : o' = s.os := ho
  subst e
  exact I.call (g' := g') (t' := t') (d' := d') u hok hg hch
end
/-! ### the judgements -/
/-- an exception: its class, its own dict's address (where it has one), the abstract heap behind it -/
abbrev XK := Value → Option Addr → Hp → Prop
abbrev St := List (Option V)
abbrev VK := V → Hp → Prop
/-- an expression's reading; a test's; an argument list's -/
abbrev TE := St → Hp → VK → Prop
abbrev TT := St → Hp → (Bool → Hp → Prop) → Prop
abbrev TA := St → Hp → (List V → Hp → Prop) → Prop
/-- what is wanted behind a statement -/
structure Ends where
  nx : St → Hp → Prop
  rt : VK
  bk : St → Hp → Prop := fun _ _ => False
  ct : St → Hp → Prop := fun _ _ => False
abbrev TS := Ends → St → Hp → Prop
def EP (X : Cx) (pins : List (Addr × Obj)) (σ : St) (Q : VK) (u : Value) (s' : Shared) : Prop := ∃ v H', Inv X pins σ H' s' ∧ RelV v u ∧ Q v H'
def TP (X : Cx) (pins : List (Addr × Obj)) (σ : St) (Q : Bool → Hp → Prop) (b : Bool) (s' : Shared) : Prop := ∃ H', Inv X pins σ H' s' ∧ Q b H'
def AP (X : Cx) (pins : List (Addr × Obj)) (σ : St) (Q : List V → Hp → Prop) (us : List Value) (s' : Shared) : Prop := ∃ vs H', Inv X pins σ H' s' ∧ Vals vs us ∧ Q vs H'
def SP (X : Cx) (pins : List (Addr × Obj)) (D : Ends) (f : Flow) (s' : Shared) : Prop :=
  match f with
  | .next => ∃ σ' H', Inv X pins σ' H' s' ∧ D.nx σ' H'
  | .brk => ∃ σ' H', Inv X pins σ' H' s' ∧ D.bk σ' H'
  | .cont => ∃ σ' H', Inv X pins σ' H' s' ∧ D.ct σ' H'
  | .ret u => ∃ v σ' H', Inv X pins σ' H' s' ∧ RelV v u ∧ D.rt v H'
def PE (X : Cx) (e : Expr) (t : TE) : Prop :=
  ∀ (pins : List (Addr × Obj)) (s : Shared) (σ : St) (H : Hp) (Q : VK), Inv X pins σ H s → t σ H Q → wpAny (model X.prog X.w) X.A (eval e X.env) (EP X pins σ Q) X.xe s
def PT (X : Cx) (e : Expr) (t : TT) : Prop :=
  ∀ (pins : List (Addr × Obj)) (s : Shared) (σ : St) (H : Hp) (Q : Bool → Hp → Prop), Inv X pins σ H s → t σ H Q → wpAny (model X.prog X.w) X.A (isTrue e X.env (eval e X.env)) (TP X pins σ Q) X.xe s
/-- a test whatever its 'whole' is (and, or) -/
def PW (X : Cx) (e : Expr) (t : TT) : Prop :=
  ∀ (whole : Sem Value) (pins : List (Addr × Obj)) (s : Shared) (σ : St) (H : Hp) (Q : Bool → Hp → Prop), Inv X pins σ H s → t σ H Q → wpAny (model X.prog X.w) X.A (isTrue e X.env whole) (TP X pins σ Q) X.xe s
theorem PW.pt {X : Cx} {e : Expr} {t : TT} (h : PW X e t) : PT X e t := h _
/-- an argument list (no star), from the left -/
def PA (X : Cx) (es : List Expr) (t : TA) : Prop :=
  ∀ (pos : Pos) (pins : List (Addr × Obj)) (s : Shared) (σ : St) (H : Hp) (Q : List V → Hp → Prop), Inv X pins σ H s → t σ H Q → wpAny (model X.prog X.w) X.A (spliced (backTo pos (starEach es X.env))) (AP X pins σ Q) X.xe s
def PS (X : Cx) (st : Stmt) (t : TS) : Prop :=
  ∀ (pins : List (Addr × Obj)) (s : Shared) (σ : St) (H : Hp) (D : Ends), Inv X pins σ H s → t D σ H → wpAny (model X.prog X.w) X.A (exec st X.env) (SP X pins D) X.xe s
def PSs (X : Cx) (st : List Stmt) (t : TS) : Prop :=
  ∀ (pins : List (Addr × Obj)) (s : Shared) (σ : St) (H : Hp) (D : Ends), Inv X pins σ H s → t D σ H → wpAny (model X.prog X.w) X.A (execs st X.env) (SP X pins D) X.xe s
/-- weaken the end -/
theorem thn {α : Type} {t : Sem α} {Q Q' : α → Shared → Prop} {M : Model} {A : Around} {E : Value → Shared → Prop} {s : Shared} (h : wpAny M A t Q E s) (hQ : ∀ a s, Q a s → Q' a s) : wpAny M A t Q' E s := wpAny_mono h hQ fun _ _ x => x
end L2
namespace L2
open PySem PySem.Spec PyProof.Rows
section
variable {X : Cx}
/-! ### names and constants -/
def tVar (i : Nat) : TE := fun σ H Q => ∃ v, σ[i]? = some (some v) ∧ Q v H
def tC (v : V) : TE := fun _ H Q => Q v H
theorem pe_var {i : Nat} {x : Str} {pos : Pos} (hN : X.N[i]? = some x) (hv : Vis X.env.scope x) (hd : (x == ("__debug__" : Str)) = false := by decide) (hcd : (x == ("__classdict__" : Str)) = false := by decide) : PE X (.Name x pos) (tVar i) := by
  intro pins s σ H Q I h
  obtain ⟨v, e, h⟩ := h
  obtain ⟨m, hn, hl⟩ := I.loc
  obtain ⟨u, r, l⟩ := hl i x v hN e hv
  have fin : EP X pins σ Q u s := ⟨v, H, I, r, h⟩
  rcases l with ⟨hk, hm⟩ | ⟨hk, c, hc, hcell⟩
  · exact wpAny_Name (wpAny_loadName_local I.ok.kind hk hn hm fin) hd
  · rcases hk with hk | hk
    · exact wpAny_Name (wpAny_loadName_cell I.ok.kind hk hc hcell fin) hd
    · exact wpAny_Name (wpAny_loadName_free I.ok.kind hk hc hcell fin hcd) hd
theorem pe_int {i j pos} : PE X (.Constant (.int i) j pos) (tC (.int i)) := fun _ _ _ H _ I h => wpAny_Constant_int ⟨.int i, H, I.tok _, ⟨_, rfl⟩, h⟩
theorem pe_bl {b j pos} : PE X (.Constant (.bool b) j pos) (tC (.bl b)) := fun _ _ _ H _ I h => Constant_bool ⟨.bl b, H, I, rfl, h⟩
theorem pe_non {j pos} : PE X (.Constant .none j pos) (tC .non) := fun _ _ _ H _ I h => Constant_none ⟨.non, H, I, rfl, h⟩
theorem pe_str {x j pos} : PE X (.Constant (.str x) j pos) (tC (.str x)) := fun _ _ _ H _ I h => Calls.Constant_str ⟨.str x, H, I.tok _, ⟨_, rfl⟩, h⟩
/-- a global name of the def -/
def Gl (X : Cx) (x : Str) : Prop := X.env.kindOf x = some .globalImplicit
theorem ld_glob {E : Value → Shared → Prop} {pins : List (Addr × Obj)} {s : Shared} {σ : St} {H : Hp} {x : Str} {u : Value} {pos : Pos} {Q : Value → Shared → Prop} (I : Inv X pins σ H s) (hg : Gl X x) (hm : X.mg x = some u) (h : Q u s)
    (hd : (x == ("__debug__" : Str)) = false := by decide) : wpAny (model X.prog X.w) X.A (eval (.Name x pos) X.env) Q E s :=
  Calls.Name_function_global I.ok.kind hg (Calls.loadGlobal_global (by rw [I.ok.glob]; exact I.mod.glob.keeps I.bk) hm h) hd
theorem ld_blt {E : Value → Shared → Prop} {pins : List (Addr × Obj)} {s : Shared} {σ : St} {H : Hp} {x : Str} {u : Value} {pos : Pos} {Q : Value → Shared → Prop} (I : Inv X pins σ H s) (hg : Gl X x) (hm : X.mg x = none) (hv : bootBuiltins x = some u) (h : Q u s)
    (hn : x ≠ "__name__" := by decide) (hd : (x == ("__debug__" : Str)) = false := by decide) : wpAny (model X.prog X.w) X.A (eval (.Name x pos) X.env) Q E s := by
  obtain ⟨mb, h1, h2⟩ := I.mod.blt
  exact Calls.Name_function_global I.ok.kind hg (Calls.loadGlobal_builtin (by rw [I.ok.glob]; exact I.mod.glob.keeps I.bk) hm (by rw [I.ok.blt]; exact h1.keeps I.bk) ((h2 x hn).trans hv) h) hd
/-- a module's constant, a class, a function, as a value -/
theorem pe_glob {x : Str} {v : V} {u : Value} {pos : Pos} (hg : Gl X x) (hm : X.mg x = some u) (r : RelV v u) (hd : (x == ("__debug__" : Str)) = false := by decide) : PE X (.Name x pos) (tC v) :=
  fun _ _ _ H _ I h => ld_glob I hg hm ⟨v, H, I, r, h⟩ hd
theorem pe_bltn {x : Str} {v : V} {u : Value} {pos : Pos} (hg : Gl X x) (hm : X.mg x = none) (hv : bootBuiltins x = some u) (r : RelV v u) (hn : x ≠ "__name__" := by decide) (hd : (x == ("__debug__" : Str)) = false := by decide) : PE X (.Name x pos) (tC v) :=
  fun _ _ _ H _ I h => ld_blt I hg hm hv ⟨v, H, I, r, h⟩ hn hd
/-! ### arithmetic -/
variable {a b : Expr} {ta tb : TE} {pos : Pos}
/-! ### comparisons -/
def PC (X : Cx) (op : CmpOp) (a b : Expr) (t : TE) : Prop :=
  ∀ (pins : List (Addr × Obj)) (s : Shared) (σ : St) (H : Hp) (Q : VK), Inv X pins σ H s → t σ H Q →
    wpAny (model X.prog X.w) X.A (eval a X.env) (fun v s₁ => wpAny (model X.prog X.w) X.A (eval b X.env) (fun u s₂ => wpAny (model X.prog X.w) X.A (compareOp op v u) (EP X pins σ Q) X.xe s₂) X.xe s₁) X.xe s
theorem nobehind (b : Expr) {op : CmpOp} (h : op ≠ .In) (h2 : op ≠ .NotIn) : behindInMarks op b = false := by
  have e1 : (op == CmpOp.In) = false := by cases op <;> first | rfl | exact absurd rfl h
  have e2 : (op == CmpOp.NotIn) = false := by cases op <;> first | rfl | exact absurd rfl h2
  cases b <;> simp [behindInMarks, e1, e2]
/-- is None -/
def tIsN (ta : TE) : TE := fun σ H Q => ta σ H fun x H1 => Q (.bl (decide (x = .non))) H1
def tNotN (ta : TE) : TE := fun σ H Q => ta σ H fun x H1 => Q (.bl (!decide (x = .non))) H1
theorem RelV.none_iff {x : V} {v : Value} (r : RelV x v) : (v == Value.none) = decide (x = .non) := by
  cases x with
  | non => cases r; rfl
  | bl _ => cases r; rfl
  | int _ => obtain ⟨t, rfl⟩ := r; rfl
  | str _ => obtain ⟨t, rfl⟩ := r; rfl
  | byt _ => obtain ⟨t, rfl⟩ := r; rfl
  | flt _ => obtain ⟨t, rfl⟩ := r; rfl
  | ref _ => cases r; rfl
  | ty _ => cases r; rfl
theorem pc_isN {j pos'} (ha : PE X a ta) : PC X .Is a (.Constant .none j pos') (tIsN ta) := by
  intro pins s σ H Q I h
  refine thn (ha pins s σ H _ I h) fun v s1 ⟨x, H1, I1, r1, q1⟩ => ?_
  exact Constant_none (is_none_gen ⟨.bl _, H1, I1, by rw [r1.none_iff]; rfl, q1⟩)
theorem pc_notN {j pos'} (ha : PE X a ta) : PC X .IsNot a (.Constant .none j pos') (tNotN ta) := by
  intro pins s σ H Q I h
  refine thn (ha pins s σ H _ I h) fun v s1 ⟨x, H1, I1, r1, q1⟩ => ?_
  exact Constant_none (isnot_none_gen ⟨.bl _, H1, I1, by rw [r1.none_iff]; rfl, q1⟩)
/-- a comparison as a value, as a test -/
def tB (t : TE) : TT := fun σ H Q => t σ H fun x H1 => ∃ c, x = .bl c ∧ Q c H1
theorem pt_cmp {op : CmpOp} {t : TE} (h : PC X op a b t) (h1 : behindInMarks op b = false := by first | exact nobehind _ (by decide) (by decide) | rfl) : PT X (.Compare a [op] [b] pos) (tB t) := by
  intro pins s σ H Q I hw
  refine wpAny_isTrue_Compare1 (thn (h pins s σ H _ I hw) fun v s1 h1 => thn h1 fun u s2 h2 => thn h2 fun c s3 ⟨x, H1, I1, r1, q1⟩ => ?_) h1
  obtain ⟨d, rfl, q⟩ := q1
  cases r1
  exact wpAny_truthy_bool ⟨H1, I1, q⟩
/-- an expression whose value is a bool, as a test -/
theorem pt_val {e : Expr} {t : TE} (h : PE X e t) (he : ∀ whole, isTrue e X.env whole = (do let v ← whole; standAt e.pos; holding [v] (truthy v)) := by intro _; rfl) : PT X e (tB t) := by
  intro pins s σ H Q I hw
  refine isTrue_plain (thn (h pins s σ H _ I hw) fun v s1 ⟨x, H1, I1, r1, q1⟩ => ?_) (he _)
  obtain ⟨d, rfl, q⟩ := q1
  cases r1
  exact wpAny_truthy_bool ⟨H1, I1, q⟩
/-! ### and, or, not -/
variable {tA tB' : TT} {rest : List Expr}
def tAnd (t u : TT) : TT := fun σ H Q => t σ H fun c H1 => if c = true then u σ H1 Q else Q false H1
def tOr (t u : TT) : TT := fun σ H Q => t σ H fun c H1 => if c = true then Q true H1 else u σ H1 Q
def tNot (t : TT) : TT := fun σ H Q => t σ H fun c H1 => Q (!c) H1
theorem pw_and1 (ha : PT X a tA) : PW X (.BoolOp .And [a] pos) tA := by
  intro wh pins s σ H Q I h
  refine isTrue_and (thn (ha pins s σ H Q I h) fun c s1 e => ?_)
  cases c with
  | true => exact isTrue_and_nil e
  | false => exact e
theorem pw_or1 (ha : PT X a tA) : PW X (.BoolOp .Or [a] pos) tA := by
  intro wh pins s σ H Q I h
  refine isTrue_or (thn (ha pins s σ H Q I h) fun c s1 e => ?_)
  cases c with
  | false => exact isTrue_or_nil e
  | true => exact e
theorem pw_and (ha : PT X a tA) (hb : PW X (.BoolOp .And (b :: rest) pos) tB') : PW X (.BoolOp .And (a :: b :: rest) pos) (tAnd tA tB') := by
  intro wh pins s σ H Q I h
  refine isTrue_and (thn (ha pins s σ H _ I h) fun c s1 ⟨H1, I1, q1⟩ => ?_)
  cases c with
  | true => exact hb wh pins s1 σ H1 Q I1 q1
  | false => exact ⟨H1, I1, q1⟩
theorem pw_or (ha : PT X a tA) (hb : PW X (.BoolOp .Or (b :: rest) pos) tB') : PW X (.BoolOp .Or (a :: b :: rest) pos) (tOr tA tB') := by
  intro wh pins s σ H Q I h
  refine isTrue_or (thn (ha pins s σ H _ I h) fun c s1 ⟨H1, I1, q1⟩ => ?_)
  cases c with
  | true => exact ⟨H1, I1, q1⟩
  | false => exact hb wh pins s1 σ H1 Q I1 q1
theorem pt_not (ha : PT X a tA) : PT X (.UnaryOp .Not a pos) (tNot tA) := by
  intro pins s σ H Q I h
  exact isTrue_not (ha pins s σ H (fun c H1 => Q (!c) H1) I h)
/-- .. as values (bools) -/
def tAndV (ta tb : TE) : TE := fun σ H Q => ta σ H fun x H1 => ∃ c, x = .bl c ∧ if c = true then tb σ H1 Q else Q (.bl false) H1
def tOrV (ta tb : TE) : TE := fun σ H Q => ta σ H fun x H1 => ∃ c, x = .bl c ∧ if c = true then Q (.bl true) H1 else tb σ H1 Q
def tNotV (ta : TE) : TE := fun σ H Q => ta σ H fun x H1 => ∃ c, x = .bl c ∧ Q (.bl (!c)) H1
theorem pe_one {op} {t : TE} (h : PE X a t) : PE X (.BoolOp op [a] pos) t := fun pins s σ H Q I hw => BoolOp_one (h pins s σ H Q I hw)
theorem pe_and (ha : PE X a ta) (hb : PE X (.BoolOp .And (b :: rest) pos) tb) : PE X (.BoolOp .And (a :: b :: rest) pos) (tAndV ta tb) := by
  intro pins s σ H Q I h
  refine BoolOp_and (thn (ha pins s σ H _ I h) fun v s1 ⟨x, H1, I1, r1, q1⟩ => ?_)
  obtain ⟨c, rfl, q1⟩ := q1
  cases r1
  refine wpAny_truthy_bool ?_
  cases c with
  | true => exact hb pins s1 σ H1 Q I1 q1
  | false => exact ⟨.bl false, H1, I1, rfl, q1⟩
theorem pe_not (ha : PE X a ta) : PE X (.UnaryOp .Not a pos) (tNotV ta) := by
  intro pins s σ H Q I h
  refine UnaryOp_ (thn (ha pins s σ H _ I h) fun v s1 ⟨x, H1, I1, r1, q1⟩ => ?_)
  obtain ⟨c, rfl, q1⟩ := q1
  cases r1
  exact not_of (wpAny_truthy_bool ⟨.bl (!c), H1, I1, rfl, q1⟩)
/-- a if t else b -/
def tIf (t : TT) (ta tb : TE) : TE := fun σ H Q => t σ H fun c H1 => if c = true then ta σ H1 Q else tb σ H1 Q
theorem pe_ifExp {c : Expr} (hc : PT X c tA) (ha : PE X a ta) (hb : PE X b tb) : PE X (.IfExp c a b pos) (tIf tA ta tb) := by
  intro pins s σ H Q I h
  refine wpAny_IfExp (thn (hc pins s σ H _ I h) fun d s1 ⟨H1, I1, q1⟩ => ?_)
  cases d with
  | true => exact ha pins s1 σ H1 Q I1 q1
  | false => exact hb pins s1 σ H1 Q I1 q1
end
end L2
namespace L2
open PySem PySem.Spec PyProof.Rows
/-! ### a list, a tuple that is read: tracked, frozen, or an object of the module -/
def SqL (K : PySem.W.Frag) (H : Hp) (a : Addr) (xs : List V) : Prop :=
  Rd H a (.lst xs) ∨
    ∃ (o : Obj) (its : Array Value) (n : Nat), K.lookup a = some o ∧ o.cls = .type "list" ∧ o.dict = none ∧ o.data = .seq its n ∧ its.size ≤ sizeLine ∧ Vals xs its.toList
def SqT (K : PySem.W.Frag) (H : Hp) (a : Addr) (xs : List V) : Prop :=
  Rd H a (.tup xs) ∨
    ∃ (o : Obj) (its : Array Value) (n : Nat), K.lookup a = some o ∧ o.cls = .type "tuple" ∧ o.data = .seq its n ∧ its.size ≤ sizeLine ∧ Vals xs its.toList
def absV : Value → Option V
  | .none => some .non
  | .bool b => some (.bl b)
  | .int i _ => some (.int i)
  | .str x _ => some (.str x)
  | .bytes b _ => some (.byt b)
  | .float b _ => some (.flt b)
  | .ref a => some (.ref a)
  | .type n => some (.ty n)
  | _ => none
theorem RelV.abs {x : V} {u : Value} (r : RelV x u) : absV u = some x := by
  cases x with
  | non => cases r; rfl
  | bl _ => cases r; rfl
  | int _ => obtain ⟨t, rfl⟩ := r; rfl
  | str _ => obtain ⟨t, rfl⟩ := r; rfl
  | byt _ => obtain ⟨t, rfl⟩ := r; rfl
  | flt _ => obtain ⟨t, rfl⟩ := r; rfl
  | ref _ => cases r; rfl
  | ty _ => cases r; rfl
theorem RelV.inj {x y : V} {u : Value} (r : RelV x u) (q : RelV y u) : x = y := Option.some.inj (r.abs.symm.trans q.abs)
theorem Vals.inj : ∀ {xs ys : List V} {us : List Value}, Vals xs us → Vals ys us → xs = ys
  | _, _, _, .nil, .nil => rfl
  | _, _, _, .cons r t, .cons r' t' => by rw [r.inj r', Vals.inj t t']
section
variable {X : Cx} {pins : List (Addr × Obj)} {σ : St} {H : Hp} {s : Shared} {a : Addr} {xs ys : List V}
theorem SqL.of {K : PySem.W.Frag} (h : H a = some (.lst xs)) : SqL K H a xs := .inl (.inl h)
theorem SqT.of {K : PySem.W.Frag} (h : H a = some (.tup xs)) : SqT K H a xs := .inl (.inl h)
theorem Inv.list (I : Inv X pins σ H s) (h : SqL X.K H a xs) : ∃ its : List Value, Vals xs its ∧ PlainL s.heap a its.toArray ∧ xs.length ≤ sizeLine := by
  rcases h with h | ⟨o, its, n, hk, hc, hd, hs, hz, r⟩
  · obtain ⟨z, its, n, r, e⟩ := h.ok I.hok
    exact ⟨its, r, ⟨_, n, e, rfl, rfl, rfl⟩, z⟩
  · refine ⟨its.toList, r, ⟨o, n, I.kIn a o hk, hc, hd, by simpa using hs⟩, ?_⟩
    have e := r.length
    simp only [Array.length_toList] at e
    omega
theorem Inv.tuple (I : Inv X pins σ H s) (h : SqT X.K H a xs) : ∃ its : List Value, Vals xs its ∧ IsTup s.heap a its.toArray ∧ xs.length ≤ sizeLine := by
  rcases h with h | ⟨o, its, n, hk, hc, hs, hz, r⟩
  · obtain ⟨z, its, r, p⟩ := h.ok I.hok
    exact ⟨its, r, p, z⟩
  · refine ⟨its.toList, r, ⟨o, I.kIn a o hk, hc, n, by simpa using hs⟩, ?_⟩
    have e := r.length
    simp only [Array.length_toList] at e
    omega
theorem Inv.list_inj (I : Inv X pins σ H s) (h : SqL X.K H a xs) (h' : SqL X.K H a ys) : xs = ys := by
  obtain ⟨its, r, ⟨o, n, e, _, _, d⟩, _⟩ := I.list h
  obtain ⟨its', r', ⟨o', n', e', _, _, d'⟩, _⟩ := I.list h'
  rw [e] at e'; cases e'
  rw [d] at d'
  injection d' with d1 _
  have : its = its' := by simpa using congrArg Array.toList d1
  subst this
  exact r.inj r'
theorem Inv.tuple_inj (I : Inv X pins σ H s) (h : SqT X.K H a xs) (h' : SqT X.K H a ys) : xs = ys := by
  obtain ⟨its, r, ⟨o, e, _, n, d⟩, _⟩ := I.tuple h
  obtain ⟨its', r', ⟨o', e', _, n', d'⟩, _⟩ := I.tuple h'
  rw [e] at e'; cases e'
  rw [d] at d'
  injection d' with d1 _
  have : its = its' := by simpa using congrArg Array.toList d1
  subst this
  exact r.inj r'
end
/-! ### another wish about exceptions -/
abbrev Cx.wish (X : Cx) (E : Value → Shared → Prop) : Cx := { X with xe := E }
/-- no exception leaves -/
abbrev Cx.nox (X : Cx) : Cx := X.wish fun _ _ => False
theorem Cx.Ok.wish {X : Cx} (ok : X.Ok) (E : Value → Shared → Prop) : (X.wish E).Ok :=
  ⟨ok.mod, ok.kind, ok.glob, ok.blt, ok.above, ok.inj, ok.has, ok.cab, ok.hd, ok.frames, ok.stk, ok.exf, ok.bs, ok.bsz, ok.noex, ok.exfs, ok.funs, ok.frf⟩
theorem Cx.Ok.unwish {X : Cx} {E : Value → Shared → Prop} (ok : (X.wish E).Ok) : X.Ok :=
  ⟨ok.mod, ok.kind, ok.glob, ok.blt, ok.above, ok.inj, ok.has, ok.cab, ok.hd, ok.frames, ok.stk, ok.exf, ok.bs, ok.bsz, ok.noex, ok.exfs, ok.funs, ok.frf⟩
section
variable {X : Cx} {pins : List (Addr × Obj)} {σ : St} {H : Hp} {s : Shared} {E : Value → Shared → Prop}
theorem Inv.wish (I : Inv X pins σ H s) (E : Value → Shared → Prop) : Inv (X.wish E) pins σ H s := ⟨I.ok.wish E, I.os, I.bare, I.base, I.loc, I.cell, I.free, I.freeC, I.pin, I.hok, I.len⟩
theorem Inv.unwish (I : Inv (X.wish E) pins σ H s) : Inv X pins σ H s := ⟨I.ok.unwish, I.os, I.bare, I.base, I.loc, I.cell, I.free, I.freeC, I.pin, I.hok, I.len⟩
theorem SP.unwish {D : Ends} {f : Flow} {s' : Shared} (h : SP (X.wish E) pins D f s') : SP X pins D f s' := by
  cases f with
  | next => obtain ⟨σ', H', I, q⟩ := h; exact ⟨σ', H', I.unwish, q⟩
  | brk => obtain ⟨σ', H', I, q⟩ := h; exact ⟨σ', H', I.unwish, q⟩
  | cont => obtain ⟨σ', H', I, q⟩ := h; exact ⟨σ', H', I.unwish, q⟩
  | ret u => obtain ⟨v, σ', H', I, r, q⟩ := h; exact ⟨v, σ', H', I.unwish, r, q⟩
theorem PE.nox {e : Expr} {t : TE} (h : PE X.nox e t) : PE X e t := fun pins s σ H Q I hw =>
  wpAny_mono (h pins s σ H Q (I.wish _) hw) (fun _ _ ⟨v, H', I', r, q⟩ => ⟨v, H', I'.unwish, r, q⟩) fun _ _ z => False.elim z
theorem PT.nox {e : Expr} {t : TT} (h : PT X.nox e t) : PT X e t := fun pins s σ H Q I hw =>
  wpAny_mono (h pins s σ H Q (I.wish _) hw) (fun _ _ ⟨H', I', q⟩ => ⟨H', I'.unwish, q⟩) fun _ _ z => False.elim z
theorem PSs.nox {st : List Stmt} {t : TS} (h : PSs X.nox st t) : PSs X st t := fun pins s σ H D I hw =>
  wpAny_mono (h pins s σ H D (I.wish _) hw) (fun _ _ q => q.unwish) fun _ _ z => False.elim z
end
/-! ### blocks and small statements -/
section
variable {X : Cx} {st : Stmt} {rest : List Stmt} {t u : TS} {e : Expr} {te : TE} {pos : Pos}
def tNext : TS := fun D σ H => D.nx σ H
def tSeq (t u : TS) : TS := fun D σ H => t { D with nx := u D } σ H
theorem pss_nil : PSs X [] tNext := fun _ _ σ H _ I h => wpAny_execs_nil ⟨σ, H, I, h⟩
theorem pss_cons (h1 : PS X st t) (h2 : PSs X rest u) : PSs X (st :: rest) (tSeq t u) := by
  intro pins s σ H D I h
  refine wpAny_execs_cons (thn (h1 pins s σ H { D with nx := u D } I h) fun f s1 q => ?_)
  cases f with
  | next =>
    obtain ⟨σ', H', I', q⟩ := q
    exact h2 pins s1 σ' H' D I' q
  | ret v => exact q
  | brk => exact q
  | cont => exact q
theorem pss_one (h1 : PS X st t) : PSs X [st] t := by
  intro pins s σ H D I h
  refine wpAny_execs_cons (thn (h1 pins s σ H D I h) fun f s1 q => ?_)
  cases f with
  | next => exact wpAny_execs_nil q
  | ret v => exact q
  | brk => exact q
  | cont => exact q
/-- in a def's body nothing is shown -/
theorem Inv.quiet {pins : List (Addr × Obj)} {σ : St} {H : Hp} {s : Shared} (I : Inv X pins σ H s) : interactive X.env = false := by simp [interactive, I.ok.kind]
/-- an expression whose value is dropped -/
def tDrop (te : TE) : TS := fun D σ H => te σ H fun _ H1 => D.nx σ H1
theorem ps_expr (he : PE X e te) (hs : swapsWith e none pos.line X.env = pure false := by rfl) : PS X (.Expr e pos) (tDrop te) := by
  intro pins s σ H D I h
  exact wpAny_Expr_any (thn (he pins s σ H _ I h) fun v s1 ⟨x, H1, I1, r1, q1⟩ => ⟨σ, H1, I1, q1⟩) I.quiet hs
def tRet (te : TE) : TS := fun D σ H => te σ H D.rt
theorem ps_ret (he : PE X e te) : PS X (.Return (some e) pos) (tRet te) := by
  intro pins s σ H D I h
  exact wpAny_Return_some (thn (he pins s σ H _ I h) fun v s1 ⟨x, H1, I1, r1, q1⟩ => ⟨x, σ, H1, I1, r1, q1⟩)
def tRetN : TS := fun D _ H => D.rt .non H
def tIfS (c : TT) (t u : TS) : TS := fun D σ H => c σ H fun b H1 => if b = true then t D σ H1 else u D σ H1
theorem ps_if {c : Expr} {a b : List Stmt} {tc : TT} (hc : PT X c tc) (ha : PSs X a t) (hb : PSs X b u) : PS X (.If c a b pos) (tIfS tc t u) := by
  intro pins s σ H D I h
  refine wpAny_If (thn (hc pins s σ H _ I h) fun d s1 ⟨H1, I1, q1⟩ => ?_)
  cases d with
  | true => exact ha pins s1 σ H1 D I1 q1
  | false => exact hb pins s1 σ H1 D I1 q1
end
/-! ### targets -/
abbrev TG := V → St → Hp → (St → Hp → Prop) → Prop
abbrev TGs := List V → St → Hp → (St → Hp → Prop) → Prop
def PG (X : Cx) (target : Expr) (t : TG) : Prop :=
  ∀ (pins : List (Addr × Obj)) (s : Shared) (σ : St) (H : Hp) (v : V) (u : Value) (Q : St → Hp → Prop), Inv X pins σ H s → RelV v u → t v σ H Q →
    wpAny (model X.prog X.w) X.A (assign target X.env u) (fun _ s' => ∃ σ' H', Inv X pins σ' H' s' ∧ Q σ' H') X.xe s
/-- several targets, one after another -/
def PGs (X : Cx) (ts : List Expr) (t : TGs) : Prop :=
  ∀ (pins : List (Addr × Obj)) (s : Shared) (σ : St) (H : Hp) (vs : List V) (us : List Value) (Q : St → Hp → Prop), Inv X pins σ H s → Vals vs us → t vs σ H Q →
    wpAny (model X.prog X.w) X.A (assignInOrder ((assignEach ts X.env).map (·.2)) us) (fun _ s' => ∃ σ' H', Inv X pins σ' H' s' ∧ Q σ' H') X.xe s
/-- o[i] = v, by values -/
abbrev TSet := V → V → V → Hp → (Hp → Prop) → Prop
def PSet (X : Cx) (t : TSet) : Prop :=
  ∀ (pins : List (Addr × Obj)) (s : Shared) (σ : St) (H : Hp) (o i v : V) (ov iv u : Value) (Q : Hp → Prop), Inv X pins σ H s → RelV o ov → RelV i iv → RelV v u → t o i v H Q →
    wpAny (model X.prog X.w) X.A (setItem ov iv u) (fun _ s' => ∃ H', Inv X pins σ H' s' ∧ Q H') X.xe s
section
variable {X : Cx} {pos : Pos}
def gName (i : Nat) : TG := fun v σ H Q => Q (σ.set i (some v)) H
theorem pg_name {i : Nat} {x : Str} (hN : X.N.Nodup) (hi : X.N[i]? = some x) (hx : Loc X.env.scope x) (hf : X.fn x = true ∨ X.env.scope.names.lookup x = some .local := by first | exact .inl rfl | exact .inr rfl | assumption) : PG X (.Name x pos) (gName i) := by
  intro pins s σ H v u Q I r h
  exact wpAny_assign_Name (store_ok I hN hi hx r (fun s' I' => ⟨_, H, I', h⟩) hf)
def gNil : TGs := fun vs σ H Q => vs = [] ∧ Q σ H
def gCons (t : TG) (u : TGs) : TGs := fun vs σ H Q => ∃ v r, vs = v :: r ∧ t v σ H fun σ' H' => u r σ' H' Q
theorem pgs_nil : PGs X [] gNil := by
  intro pins s σ H vs us Q I r h
  obtain ⟨e, h⟩ := h
  subst e
  cases r
  exact assignInOrder_nil ⟨σ, H, I, h⟩
theorem pgs_cons {e : Expr} {es : List Expr} {t : TG} {u : TGs} (h1 : PG X e t) (h2 : PGs X es u)
    (hs : (assignEach (e :: es) X.env).map (·.2) = assign e X.env :: (assignEach es X.env).map (·.2) := by rfl) : PGs X (e :: es) (gCons t u) := by
  intro pins s σ H vs us Q I r h
  obtain ⟨v, vr, e1, h⟩ := h
  subst e1
  cases r with
  | cons r rr =>
    rw [hs]
    refine assignInOrder_cons (thn (h1 pins s σ H _ _ _ I r h) fun _ s1 ⟨σ1, H1, I1, q1⟩ => ?_)
    exact h2 pins s1 σ1 H1 _ _ Q I1 rr q1
/-- (a, b, ..) = a tuple of that length -/
def gTup (K : PySem.W.Frag) (n : Nat) (t : TGs) : TG := fun v σ H Q => ∃ a xs, v = .ref a ∧ SqT K H a xs ∧ xs.length = n ∧ t xs σ H Q
theorem pg_tup {es : List Expr} {k : Nat} {t : TGs} {n : Nat} (hc : X.calm = true) (h : PGs X es t)
    (hn : (assignEach es X.env).length = n := by rfl) (hst : (assignEach es X.env).findIdx? (·.1) = none := by rfl) : PG X (.Tuple es k pos) (gTup X.K n t) := by
  intro pins s σ H v u Q I r hw
  obtain ⟨a, xs, e1, hq, hl, hw⟩ := hw
  subst e1
  cases r
  obtain ⟨its, rv, ht, hz⟩ := I.tuple hq
  refine assign_Tuple_tuple (I.ok.hd hc) ht (by simp [hn, ← hl, rv.length]) hst fun h' hx => ?_
  have I1 : Inv X pins σ H { s with heap := h' } := I.kept (t' := s.toks) fun b o e => hx b o (Nat.ne_of_lt (Heap.lt_size e)) e
  exact h pins _ σ H xs _ Q I1 (by simpa using rv) hw
/-- o[i] = .. -/
def gSub (to ti : TE) (t : TSet) : TG := fun v σ H Q => to σ H fun o H1 => ti σ H1 fun i H2 => t o i v H2 fun H3 => Q σ H3
theorem pg_sub {o i : Expr} {to ti : TE} {t : TSet} (ho : PE X o to) (hi : PE X i ti) (hs : PSet X t)
    (ha : ∀ v, assign (.Subscript o i pos) X.env v = (do
      let ov ← holding [v] (eval o X.env)
      let iv ← holding [v, ov] (eval i X.env)
      standAt pos
      holding [v, ov, iv] (setItem ov iv v)
      release [v, ov, iv] []) := by intro _; rfl) : PG X (.Subscript o i pos) (gSub to ti t) := by
  intro pins s σ H v u Q I r h
  rw [ha]
  refine wpAny_bind (wpAny_holding (thn (ho pins s σ H _ I h) fun ov s1 ⟨x, H1, I1, r1, q1⟩ => ?_))
  refine wpAny_bind (wpAny_holding (thn (hi pins s1 σ H1 _ I1 q1) fun iv s2 ⟨y, H2, I2, r2, q2⟩ => ?_))
  refine wpAny_bind (wpAny_standAt (wpAny_bind (wpAny_holding (thn (hs pins s2 σ H2 x y v ov iv u _ I2 r1 r2 r q2) fun _ s3 ⟨H3, I3, q3⟩ => ?_))))
  exact wpAny_release ⟨σ, H3, I3, q3⟩
/-- target = value -/
def tAsg (te : TE) (g : TG) : TS := fun D σ H => te σ H fun x H1 => g x σ H1 D.nx
theorem ps_asg {tg e : Expr} {te : TE} {g : TG} (he : PE X e te) (hg : PG X tg g) (hs : swapsWithSole [tg] e pos.line X.env = pure false := by rfl) (hw : swappedStores [tg] e X.env = pure none := by rfl)
    (h1 : (assignEach [tg] X.env).map (·.2) = [assign tg X.env] := by rfl) : PS X (.Assign [tg] e pos) (tAsg te g) := by
  intro pins s σ H D I h
  refine wpAny_Assign_stores (thn (he pins s σ H _ I h) fun v s1 ⟨x, H1, I1, r1, q1⟩ => ?_) hs hw
  rw [h1]
  exact thn (hg pins s1 σ H1 x v _ I1 r1 q1) fun _ s2 q => q
/-- name = value -/
theorem ps_set {i : Nat} {x : Str} {e : Expr} {te : TE} {pos' : Pos} (hN : X.N.Nodup) (hi : X.N[i]? = some x) (hx : Loc X.env.scope x) (he : PE X e te) (hs : swapsWith e (some (.Name x pos')) pos.line X.env = pure false := by rfl) (hf : X.fn x = true ∨ X.env.scope.names.lookup x = some .local := by first | exact .inl rfl | exact .inr rfl | assumption) :
    PS X (.Assign [.Name x pos'] e pos) (tAsg te (gName i)) := by
  intro pins s σ H D I h
  refine wpAny_Assign_Name (thn (he pins s σ H _ I h) fun v s1 ⟨y, H1, I1, r1, q1⟩ => ?_) hs
  exact store_ok I1 hN hi hx r1 (fun s2 I2 => ⟨_, H1, I2, q1⟩) hf
end
/-! ### while -/
section
variable {X : Cx} {pos : Pos}
end
/-! ### what a loop or a comprehension walks -/
/-- at turn i: it yields x (the heap may grow), or it stops -/
structure It where
  go : Nat → Hp → Prop
  yld : Nat → Hp → V → Hp → Prop
  stop : Nat → Hp → Prop
/-- the iterator's own objects may turn: they are not the frame's, not pinned, younger than the entry (or a comprehension's own) -/
def FpOk (X : Cx) (pins : List (Addr × Obj)) (H : Hp) (b : Addr) : Prop :=
  H b = none ∧ b ≠ X.env.locals ∧ b ∉ X.fs ∧ (b ∈ X.ex ∨ X.s₀.heap.objs.size ≤ b) ∧ (∀ x c, X.env.cells.lookup x = some c → c ≠ b) ∧ ∀ p ∈ X.pn ++ pins, p.1 ≠ b
theorem Inv.fpOk {X : Cx} {pins : List (Addr × Obj)} {σ : St} {H H' : Hp} {s : Shared} {b : Addr} (I : Inv X pins σ H s) (hb : s.heap.objs.size ≤ b) (hn : H' b = none) : FpOk X pins H' b := by
  refine ⟨hn, Nat.ne_of_gt (Nat.lt_of_lt_of_le I.lt hb), I.nofs hb, .inr (Nat.le_trans I.sz hb), fun x c e z => ?_, fun p hp z => ?_⟩
  · obtain ⟨v, q⟩ := I.cell x c e
    exact absurd (Nat.lt_of_lt_of_le q.lt (by rw [z]; exact hb)) (Nat.lt_irrefl _)
  · exact absurd (Nat.lt_of_lt_of_le (Heap.lt_size (I.pin p hp).1) (by rw [z]; exact hb)) (Nat.lt_irrefl _)
structure Turn (P : Program) (w : World) (K : PySem.W.Frag) (tg : Expr) (J : It) (fp : List Addr) (it : Addr) (tn : Nat → Heap → Prop) : Prop where
  mem : it ∈ fp
  obj : ∀ i h, tn i h → ∀ b ∈ fp, ∃ o, h.get? b = some o ∧ ∀ v, o.data ≠ .cell v
  keep : ∀ i h h', tn i h → (∀ b ∈ fp, ∀ o, h.get? b = some o → h'.get? b = some o) → tn i h'
  item : ∀ (X : Cx), X.prog = P → X.w = w → X.K = K → X.calm = true → ∀ (i : Nat) (pins : List (Addr × Obj)) (s : Shared) (σ : St) (H : Hp) (E : Value → Shared → Prop), Inv X pins σ H s → (∀ b ∈ fp, FpOk X pins H b) → tn i s.heap → J.go i H →
    wpAny (model P w) X.A (pyNext (.ref it)) (fun r s1 => ∃ u, r = some u ∧
      wpAny (model P w) X.A (letOwnedTupleGo tg (.ref it) u) (fun _ s2 => ∃ x H', Inv X pins σ H' s2 ∧ RelV x u ∧ J.yld i H x H' ∧ tn (i + 1) s2.heap ∧ ∀ b ∈ fp, H' b = none) E s1) E s
  done : ∀ (X : Cx), X.prog = P → X.w = w → X.K = K → X.calm = true → ∀ (i : Nat) (pins : List (Addr × Obj)) (s : Shared) (σ : St) (H : Hp) (E : Value → Shared → Prop), Inv X pins σ H s → (∀ b ∈ fp, FpOk X pins H b) → tn i s.heap → J.stop i H →
    wpAny (model P w) X.A (pyNext (.ref it)) (fun r s1 => r = none ∧ Inv X pins σ H s1) E s
  self : ∀ (A : Around) (i : Nat) (s : Shared) (Q : Value → Shared → Prop) (E : Value → Shared → Prop), tn i s.heap → Q (.ref it) s → wpAny (model P w) A (pyIter (.ref it)) Q E s
abbrev TI := St → Hp → (It → Hp → Prop) → Prop
/-- an iterator has come -/
def PIE (X : Cx) (pins : List (Addr × Obj)) (σ : St) (tg : Expr) (R : It → Hp → Prop) (itv : Value) (s2 : Shared) : Prop :=
  ∃ (it : Addr) (fp : List Addr) (tn : Nat → Heap → Prop) (J : It) (H' : Hp), itv = .ref it ∧ Inv X pins σ H' s2 ∧ Turn X.prog X.w X.K tg J fp it tn ∧ tn 0 s2.heap ∧ (∀ b ∈ fp, FpOk X pins H' b) ∧ R J H'
def PI (X : Cx) (tg iter : Expr) (wi : TI) : Prop :=
  ∀ (pins : List (Addr × Obj)) (s : Shared) (σ : St) (H : Hp) (R : It → Hp → Prop), Inv X pins σ H s → wi σ H R →
    wpAny (model X.prog X.w) X.A (eval iter X.env) (fun v s1 => wpAny (model X.prog X.w) X.A (pyIter v) (PIE X pins σ tg R) X.xe s1) X.xe s
/-- the step ahead of the store is nothing for an iterator that keeps no tuple -/
theorem go_of {M : Model} {A : Around} {E : Value → Shared → Prop} {s : Shared} {tg : Expr} {it : Addr} {u : Value} {o : Obj} {n : String} {vs : Array Value} {Q : Unit → Shared → Prop} (ho : s.heap.get? it = some o) (hc : o.cls = .type n) (hd : o.data = .fields vs)
    (hn : ["enumerate", "zip", "dict_itemiterator", "dict_reverseitemiterator", "odict_iterator", "itertools.zip_longest", "itertools.pairwise"].contains n = false) (hQ : Q () s) : wpAny M A (letOwnedTupleGo tg (.ref it) u) Q E s := by
  unfold letOwnedTupleGo
  cases tg <;> first
    | exact wpAny_pure hQ
    | (cases u <;> first
        | exact wpAny_pure hQ
        | (refine wpAny_bind (wpAny_load ho ?_)
           rw [hc, hd]
           show wpAny M A (if (["enumerate", "zip", "dict_itemiterator", "dict_reverseitemiterator", "odict_iterator", "itertools.zip_longest", "itertools.pairwise"].contains n && vs[0]? == some (rawInt _)) = true then _ else _) Q E s
           rw [if_neg (by intro h; rw [hn, Bool.false_and] at h; cases h)]
           exact wpAny_pure hQ))
/-- the list at a, as it stands at each turn (a loop may append to it) -/
def Itl (K : PySem.W.Frag) (a : Addr) : It :=
  ⟨fun i H => ∃ xs x, SqL K H a xs ∧ xs[i]? = some x, fun i H x H' => H' = H ∧ ∀ xs, SqL K H a xs → xs[i]? = some x, fun i H => ∃ xs, SqL K H a xs ∧ xs.length ≤ i⟩
def Itt (K : PySem.W.Frag) (a : Addr) : It :=
  ⟨fun i H => ∃ xs x, SqT K H a xs ∧ xs[i]? = some x, fun i H x H' => H' = H ∧ ∀ xs, SqT K H a xs → xs[i]? = some x, fun i H => ∃ xs, SqT K H a xs ∧ xs.length ≤ i⟩
/-- lo, lo + 1, .. (n of them) -/
def Itr (lo : Int) (n : Nat) : It := ⟨fun i _ => i < n, fun i H x H' => H' = H ∧ x = .int (lo + i), fun i _ => n ≤ i⟩
theorem turn_list {P : Program} {w : World} {K : PySem.W.Frag} {tg : Expr} (a it : Addr) : Turn P w K tg (Itl K a) [it] it (fun i h => h.IsListIter it a i) where
  mem := by simp
  obj := fun i h st b hb => by
    have e : b = it := by simpa using hb
    subst e
    obtain ⟨o, e, c, d⟩ := st
    exact ⟨o, e, fun v z => by rw [d] at z; cases z⟩
  keep := fun i h h' st k => st.at fun o e => k it (by simp) o e
  item := by
    intro X hP hw hK hc i pins s σ H E I hf st hg
    subst hP hw hK
    obtain ⟨xs, x, hq, hx⟩ := hg
    obtain ⟨its, rv, p, hz⟩ := I.list hq
    obtain ⟨u, hu, ru⟩ := rv.get hx
    obtain ⟨f0, f1, f2, f3, f4, f5⟩ := hf it (by simp)
    refine wpAny_pyNext_list_item st p.isList (x := u) (by simpa using hu) fun h' st' sb => ?_
    have I1 : Inv X pins σ H { s with heap := h' } := I.turned (t' := s.toks) (fun b o hb e => (sb.2 b hb).trans e) f0 f1 f3 f4 f5
    obtain ⟨o, e, c, d⟩ := id st'
    exact ⟨u, rfl, go_of (s := { s with heap := h' }) e c d (by decide) ⟨x, H, I1, ru, ⟨rfl, fun ys hy => by rw [I.list_inj hy hq]; exact hx⟩, st', fun b hb => (hf b hb).1⟩⟩
  done := by
    intro X hP hw hK hc i pins s σ H E I hf st hg
    subst hP hw hK
    obtain ⟨xs, hq, hx⟩ := hg
    obtain ⟨its, rv, p, hz⟩ := I.list hq
    obtain ⟨f0, f1, f2, f3, f4, f5⟩ := hf it (by simp)
    have hl := rv.length
    exact wpAny_pyNext_list_end (I.ok.hd hc) st p.isList (by simp; omega) fun h' eb => ⟨rfl, I.turned (t' := s.toks) (fun b o hb e => eb b o hb e) f0 f1 f3 f4 f5⟩
  self := fun _ _ _ _ _ st h => wpAny_pyIter_listiter st h
theorem turn_tuple {P : Program} {w : World} {K : PySem.W.Frag} {tg : Expr} (a it : Addr) : Turn P w K tg (Itt K a) [it] it (fun i h => h.IsTupleIter it a i) where
  mem := by simp
  obj := fun i h st b hb => by
    have e : b = it := by simpa using hb
    subst e
    obtain ⟨o, e, c, d⟩ := st
    exact ⟨o, e, fun v z => by rw [d] at z; cases z⟩
  keep := fun i h h' st k => st.at fun o e => k it (by simp) o e
  item := by
    intro X hP hw hK hc i pins s σ H E I hf st hg
    subst hP hw hK
    obtain ⟨xs, x, hq, hx⟩ := hg
    obtain ⟨its, rv, p, hz⟩ := I.tuple hq
    obtain ⟨u, hu, ru⟩ := rv.get hx
    obtain ⟨f0, f1, f2, f3, f4, f5⟩ := hf it (by simp)
    refine wpAny_pyNext_tuple_item st (show s.heap.IsTuple a its.toArray from p) (x := u) (by simpa using hu) fun h' st' sb => ?_
    have I1 : Inv X pins σ H { s with heap := h' } := I.turned (t' := s.toks) (fun b o hb e => (sb.2 b hb).trans e) f0 f1 f3 f4 f5
    obtain ⟨o, e, c, d⟩ := id st'
    exact ⟨u, rfl, go_of (s := { s with heap := h' }) e c d (by decide) ⟨x, H, I1, ru, ⟨rfl, fun ys hy => by rw [I.tuple_inj hy hq]; exact hx⟩, st', fun b hb => (hf b hb).1⟩⟩
  done := by
    intro X hP hw hK hc i pins s σ H E I hf st hg
    subst hP hw hK
    obtain ⟨xs, hq, hx⟩ := hg
    obtain ⟨its, rv, p, hz⟩ := I.tuple hq
    obtain ⟨f0, f1, f2, f3, f4, f5⟩ := hf it (by simp)
    have hl := rv.length
    exact wpAny_pyNext_tuple_end (I.ok.hd hc) st (show s.heap.IsTuple a its.toArray from p) (by simp; omega) fun h' eb => ⟨rfl, I.turned (t' := s.toks) (fun b o hb e => eb b o hb e) f0 f1 f3 f4 f5⟩
  self := fun _ _ _ _ _ st h => wpAny_pyIter_tupleiter st h
theorem turn_range {P : Program} {w : World} {K : PySem.W.Frag} {tg : Expr} (it : Addr) (lo : Int) (n : Nat) : Turn P w K tg (Itr lo n) [it] it (fun i h => IsRangeIter h it (lo + (i : Nat) * 1) ((n : Int) - (i : Nat)) 1) where
  mem := by simp
  obj := fun i h st b hb => by
    have e : b = it := by simpa using hb
    subst e
    exact ⟨_, st, fun v z => by
      have z' : Data.fields _ = Data.cell v := z
      cases z'⟩
  keep := fun i h h' st k => k it (by simp) _ st
  item := by
    intro X hP hw hK hc i pins s σ H E I hf st hg
    subst hP hw hK
    obtain ⟨f0, f1, f2, f3, f4, f5⟩ := hf it (by simp)
    have W := Walks.range (prog := X.prog) (w := X.w) (I.ok.hd hc) it lo 1 n
    refine W.item i s _ _ hg st fun v h' tk hv st' kk => ?_
    obtain ⟨t, rfl⟩ := hv
    have I1 : Inv X pins σ H { s with heap := h', toks := tk } := I.turned (fun b o hb e => kk b o (by simpa using hb) e) f0 f1 f3 f4 f5
    refine ⟨_, rfl, go_of (s := { s with heap := h', toks := tk }) (n := "range_iterator") st' rfl rfl (by decide) ⟨.int (lo + i), H, I1, ⟨t, ?_⟩, ⟨rfl, rfl⟩, st', fun b hb => (hf b hb).1⟩⟩
    rw [Int.mul_one]
  done := by
    intro X hP hw hK hc i pins s σ H E I hf st hg
    subst hP hw hK
    obtain ⟨f0, f1, f2, f3, f4, f5⟩ := hf it (by simp)
    exact wpAny_pyNext_range_end (I.ok.hd hc) st (by have : n ≤ i := hg; omega) fun h' eb => ⟨rfl, I.turned (t' := s.toks) (fun b o hb e => eb b o hb e) f0 f1 f3 f4 f5⟩
  self := fun _ _ _ _ _ st h => wpAny_pyIter_rangeiter st h
end L2
namespace L2
open PySem PySem.Spec PyProof.Rows
section
variable {X : Cx} {tg : Expr}
def iList (K : PySem.W.Frag) (tl : TE) : TI := fun σ H R => tl σ H fun x H1 => ∃ a, x = .ref a ∧ (∃ xs, SqL K H1 a xs) ∧ R (Itl K a) H1
def iTup (K : PySem.W.Frag) (tl : TE) : TI := fun σ H R => tl σ H fun x H1 => ∃ a, x = .ref a ∧ (∃ xs, SqT K H1 a xs) ∧ R (Itt K a) H1
theorem pi_list {l : Expr} {tl : TE} (hl : PE X l tl) : PI X tg l (iList X.K tl) := by
  intro pins s σ H R I h
  refine thn (hl pins s σ H _ I h) fun v s1 ⟨x, H1, I1, r1, q1⟩ => ?_
  obtain ⟨a, e, ⟨xs, hq⟩, q⟩ := q1
  subst e
  cases r1
  obtain ⟨its, rv, p, hz⟩ := I1.list hq
  refine wpAny_pyIter_list p.isList ?_
  refine ⟨s1.heap.objs.size, [s1.heap.objs.size], _, _, H1, rfl, I1.kept (t' := s1.toks) fun b o e => Heap.get?_push_of_some _ e, turn_list a _, ⟨_, Heap.get?_push_size _ rfl, rfl, rfl⟩, fun b hb => ?_, q⟩
  have e : b = s1.heap.objs.size := by simpa using hb
  subst e
  exact I1.fpOk (Nat.le_refl _) (I1.hok.fresh (Nat.le_refl _))
theorem pi_tup {l : Expr} {tl : TE} (hl : PE X l tl) : PI X tg l (iTup X.K tl) := by
  intro pins s σ H R I h
  refine thn (hl pins s σ H _ I h) fun v s1 ⟨x, H1, I1, r1, q1⟩ => ?_
  obtain ⟨a, e, ⟨xs, hq⟩, q⟩ := q1
  subst e
  cases r1
  obtain ⟨its, rv, p, hz⟩ := I1.tuple hq
  refine wpAny_pyIter_tuple (show s1.heap.IsTuple a its.toArray from p) ?_
  refine ⟨s1.heap.objs.size, [s1.heap.objs.size], _, _, H1, rfl, I1.kept (t' := s1.toks) fun b o e => Heap.get?_push_of_some _ e, turn_tuple a _, ⟨_, Heap.get?_push_size _ rfl, rfl, rfl⟩, fun b hb => ?_, q⟩
  have e : b = s1.heap.objs.size := by simpa using hb
  subst e
  exact I1.fpOk (Nat.le_refl _) (I1.hok.fresh (Nat.le_refl _))
/-- a range object just made, walked -/
theorem range_it {pins : List (Addr × Obj)} {σ : St} {H : Hp} {s : Shared} {R : It → Hp → Prop} {E : Value → Shared → Prop} {lo hi : Int} {t u v : Tok} {tk : Nat} (I : Inv X pins σ H s) (h1 : -(2 ^ 62) ≤ lo) (h2 : lo < 2 ^ 62) (h3 : -(2 ^ 62) ≤ hi) (h4 : hi < 2 ^ 62)
    (q : R (Itr lo (hi - lo).toNat) H) : wpAny (model X.prog X.w) X.A (pyIter (.ref s.heap.objs.size)) (PIE X pins σ tg R) E { s with heap := s.heap.push { cls := .type "range", data := .fields #[.int lo t, .int hi u, .int 1 v] }, toks := tk } := by
  refine wpAny_pyIter_range (IsRange.new ..) (small_one h1 h2 h3 h4) ?_
  have I1 : Inv X pins σ H { s with heap := s.heap.push { cls := .type "range", data := .fields #[.int lo t, .int hi u, .int 1 v] }, toks := tk } := I.kept fun b o e => Heap.get?_push_of_some _ e
  refine ⟨(s.heap.push { cls := .type "range", data := .fields #[.int lo t, .int hi u, .int 1 v] }).objs.size, [(s.heap.push { cls := .type "range", data := .fields #[.int lo t, .int hi u, .int 1 v] }).objs.size], _, _, H, rfl,
    I1.kept (t' := tk) fun b o e => Heap.get?_push_of_some _ e, turn_range _ lo (hi - lo).toNat, ?_, fun b hb => ?_, q⟩
  · have e1 : lo + ((0 : Nat) : Int) * 1 = lo := by simp
    have e2 : (((hi - lo).toNat : Nat) : Int) - ((0 : Nat) : Int) = Builtin.Range.rangeSize lo hi 1 := by rw [rangeSize_one]; split <;> omega
    show IsRangeIter _ _ (lo + ((0 : Nat) : Int) * 1) ((((hi - lo).toNat : Nat) : Int) - ((0 : Nat) : Int)) 1
    rw [e1, e2]
    exact Heap.get?_push_size _ rfl
  · have e : b = (s.heap.push { cls := .type "range", data := .fields #[.int lo t, .int hi u, .int 1 v] }).objs.size := by simpa using hb
    subst e
    exact I1.fpOk (Nat.le_refl _) (I1.hok.fresh (Nat.le_refl _))
def iRng1 (ta : TA) : TI := fun σ H R => ta σ H fun vs H1 => ∃ j : Int, vs = [.int j] ∧ -(2 ^ 62) ≤ j ∧ j < 2 ^ 62 ∧ R (Itr 0 j.toNat) H1
def iRng2 (ta : TA) : TI := fun σ H R => ta σ H fun vs H1 => ∃ i j : Int, vs = [.int i, .int j] ∧ (-(2 ^ 62) ≤ i ∧ i < 2 ^ 62 ∧ -(2 ^ 62) ≤ j ∧ j < 2 ^ 62) ∧ R (Itr i (j - i).toNat) H1
theorem pi_range1 {a : Expr} {ta : TA} {p pos : Pos} (hg : Gl X "range") (hm : X.mg "range" = none) (ha : PA X [a] ta) (hs : starEach [a] X.env = [(false, eval a X.env)] := by rfl) : PI X tg (.Call (.Name "range" p) [a] [] pos) (iRng1 ta) := by
  intro pins s σ H R I h
  refine Call_ (ld_blt I hg hm boot_range (PyProof.Rows.callWith_type1 (thn (ha pos pins s σ H _ I h) fun us s1 ⟨vs, H1, I1, r1, q1⟩ => ?_) hs rfl))
  obtain ⟨j, e, q1, q2, q⟩ := q1
  subst e
  cases r1 with
  | cons r rr =>
    cases rr
    obtain ⟨t, rfl⟩ := r
    exact call_range_1 (range_it I1 (by omega) (by omega) q1 q2 (by simpa using q))
theorem pi_range2 {a b : Expr} {ta : TA} {p pos : Pos} (hg : Gl X "range") (hm : X.mg "range" = none) (ha : PA X [a, b] ta) (hs : starEach [a, b] X.env = [(false, eval a X.env), (false, eval b X.env)] := by rfl) (hs2 : starEach [b] X.env = [(false, eval b X.env)] := by rfl) :
    PI X tg (.Call (.Name "range" p) [a, b] [] pos) (iRng2 ta) := by
  intro pins s σ H R I h
  refine Call_ (ld_blt I hg hm boot_range (PyProof.Rows.callWith_type1 (thn (ha pos pins s σ H _ I h) fun us s1 ⟨vs, H1, I1, r1, q1⟩ => ?_) (by rw [hs, hs2]) (by rw [hs2]; rfl)))
  obtain ⟨i, j, e, ⟨q1, q2, q3, q4⟩, q⟩ := q1
  subst e
  cases r1 with
  | cons r rr =>
    cases rr with
    | cons r' rr =>
      cases rr
      obtain ⟨t, rfl⟩ := r
      obtain ⟨t', rfl⟩ := r'
      exact call_range_2 (range_it I1 q1 q2 q3 q4 q)
/-! ### for -/
/-- W: the invariant by the turn and a measure; N: what the body is to reach -/
def tFor (wi : TI) (g : TG) (tb : TS) : TS := fun D σ H => wi σ H fun J H1 => ∃ W : Nat → Nat → St → Hp → Prop, (∃ m, W 0 m σ H1) ∧ ∀ i m σ H, W i m σ H →
  (J.stop i H ∧ D.nx σ H) ∨ (J.go i H ∧ ∃ N : St → Hp → Prop, (∀ σ' H', N σ' H' → ∃ m', m' < m ∧ W (i + 1) m' σ' H') ∧ ∀ x H', J.yld i H x H' → g x σ H' fun σ2 H2 => tb { D with nx := N, ct := N, bk := D.nx } σ2 H2)
/-- the records at fp as they stand -/
def pinsAt (fp : List Addr) (h : Heap) : List (Addr × Obj) := fp.filterMap fun b => (h.get? b).map fun o => (b, o)
theorem mem_pinsAt {fp : List Addr} {h : Heap} {b : Addr} {o : Obj} (hb : b ∈ fp) (e : h.get? b = some o) : (b, o) ∈ pinsAt fp h := List.mem_filterMap.mpr ⟨b, hb, by rw [e]; rfl⟩
theorem of_pinsAt {fp : List Addr} {h : Heap} {p : Addr × Obj} (hp : p ∈ pinsAt fp h) : p.1 ∈ fp ∧ h.get? p.1 = some p.2 := by
  obtain ⟨b, hb, e⟩ := List.mem_filterMap.mp hp
  cases q : h.get? b with
  | none => rw [q] at e; cases e
  | some o =>
    rw [q] at e
    have e' : (b, o) = p := Option.some.inj e
    subst e'
    exact ⟨hb, q⟩
theorem Inv.pinned {pins : List (Addr × Obj)} {σ : St} {H : Hp} {s : Shared} {fp : List Addr} (I : Inv X pins σ H s) (hf : ∀ b ∈ fp, FpOk X pins H b) (ho : ∀ b ∈ fp, ∃ o, s.heap.get? b = some o ∧ ∀ v, o.data ≠ .cell v) : Inv X (pins ++ pinsAt fp s.heap) σ H s :=
  I.pins_of fun p hp => (List.mem_append.mp hp).elim (fun z => I.pin p (List.mem_append_right _ z)) fun z => by
    obtain ⟨hb, e⟩ := of_pinsAt z
    obtain ⟨f0, f1, f2, _⟩ := hf p.1 hb
    obtain ⟨o, e', d⟩ := ho p.1 hb
    rw [e] at e'; cases e'
    exact ⟨e, f0, f1, f2, d⟩
theorem Inv.unpinned {pins pl : List (Addr × Obj)} {σ : St} {H : Hp} {s : Shared} (I : Inv X (pins ++ pl) σ H s) : Inv X pins σ H s := I.pins_of fun p hp => I.pin p (List.mem_append_right _ (List.mem_append_left _ hp))
theorem ps_for {iter : Expr} {body : List Stmt} {wi : TI} {g : TG} {tb : TS} {pos : Pos} (hp : PassesOwn (model X.prog X.w) X.A X.env X.xe) (hc : X.calm = true) (hi : PI X tg iter wi) (hg : PG X tg g) (hb : PSs X body tb)
    (hs : ∀ x, foldedSetIterable iter X.env x = pure x := by intro _; rfl) : PS X (.For tg iter body [] pos) (tFor wi g tb) := by
  intro pins s σ H D I h
  refine wpAny_For (thn (hi pins s σ H _ I h) fun v s1 h1 => thn h1 fun itv s2 h2 => ?_) hs
  obtain ⟨it, fp, tn, J, H2, e, I2, T, st2, f2, W, ⟨m0, w0⟩, turn⟩ := h2
  subst e
  -- what stays true of the iterator's objects through the loop
  have stat : ∀ {H' : Hp}, (∀ b ∈ fp, H' b = none) → ∀ b ∈ fp, FpOk X pins H' b := fun hn b hb => ⟨hn b hb, (f2 b hb).2⟩
  refine codeAny_forLoop_any (fun n s' => ∃ i σ' H', Inv X pins σ' H' s' ∧ tn i s'.heap ∧ (∀ b ∈ fp, H' b = none) ∧ W i n σ' H') ?_ m0 ⟨0, σ, H2, I2, st2, fun b hb => (f2 b hb).1, w0⟩
  rintro n s3 ⟨i, σ3, H3, I3, st3, fr3, w3⟩
  rcases turn i n σ3 H3 w3 with ⟨stop, qn⟩ | ⟨go, N, hN, step⟩
  · refine wpAny_passesOwn hp (thn (T.done X rfl rfl rfl hc i pins s3 σ3 H3 X.xe I3 (stat fr3) st3 stop) fun r s4 ⟨hr, I4⟩ => ?_)
    subst hr
    exact wpAny_execs_nil ⟨σ3, H3, I4, qn⟩
  · refine wpAny_passesOwn hp (thn (T.item X rfl rfl rfl hc i pins s3 σ3 H3 X.xe I3 (stat fr3) st3 go) fun r s4 ⟨u, hr, h4⟩ => ?_)
    subst hr
    refine wpAny_passesOwn hp (thn h4 fun _ s5 ⟨x, H5, I5, r5, y5, st5, fr5⟩ => ?_)
    have I5' := I5.pinned (stat fr5) (T.obj _ _ st5)
    refine wpAny_passesOwn hp (thn (hg _ s5 σ3 H5 x u _ I5' r5 (step x H5 y5)) fun _ s6 ⟨σ6, H6, I6, q6⟩ => ?_)
    refine wpAny_passesOwn hp (thn (hb _ s6 σ6 H6 _ I6 q6) fun f s7 q7 => ?_)
    have again : ∀ {σ7 : St} {H7 : Hp}, Inv X (pins ++ pinsAt fp s5.heap) σ7 H7 s7 → N σ7 H7 → ∃ m, m < n ∧ ∃ i σ' H', Inv X pins σ' H' s7 ∧ tn i s7.heap ∧ (∀ b ∈ fp, H' b = none) ∧ W i m σ' H' := fun {σ7 H7} I7 n7 => by
      obtain ⟨m', hm, w7⟩ := hN σ7 H7 n7
      refine ⟨m', hm, i + 1, σ7, H7, I7.unpinned, T.keep _ _ _ st5 fun b hb o e => (I7.pin (b, o) (List.mem_append_right _ (List.mem_append_right _ (mem_pinsAt hb e)))).1, fun b hb => ?_, w7⟩
      obtain ⟨o, e, d⟩ := T.obj _ _ st5 b hb
      exact (I7.pin (b, o) (List.mem_append_right _ (List.mem_append_right _ (mem_pinsAt hb e)))).2.1
    cases f with
    | next => obtain ⟨σ7, H7, I7, n7⟩ := q7; exact again I7 n7
    | cont => obtain ⟨σ7, H7, I7, n7⟩ := q7; exact again I7 n7
    | brk => obtain ⟨σ7, H7, I7, q7⟩ := q7; exact ⟨σ7, H7, I7.unpinned, q7⟩
    | ret v => obtain ⟨x7, σ7, H7, I7, r7, q7⟩ := q7; exact ⟨x7, σ7, H7, I7.unpinned, r7, q7⟩
end
/-! ### the forms one uses -/
theorem for_tup {K : PySem.W.Frag} {a : Addr} {xs : List V} {g : TG} {tb : TS} {D : Ends} {σ : St} {H : Hp} (Pv : Nat → St → Hp → Prop) (h0 : Pv 0 σ H) (hl : ∀ i σ H, i ≤ xs.length → Pv i σ H → SqT K H a xs)
    (hs : ∀ i x σ H, xs[i]? = some x → Pv i σ H → g x σ H fun σ2 H2 => tb { D with nx := Pv (i + 1), ct := Pv (i + 1), bk := D.nx } σ2 H2) (hd : ∀ σ H, Pv xs.length σ H → D.nx σ H) :
    ∃ W : Nat → Nat → St → Hp → Prop, (∃ m, W 0 m σ H) ∧ ∀ i m σ H, W i m σ H →
      ((Itt K a).stop i H ∧ D.nx σ H) ∨ ((Itt K a).go i H ∧ ∃ N : St → Hp → Prop, (∀ σ' H', N σ' H' → ∃ m', m' < m ∧ W (i + 1) m' σ' H') ∧ ∀ x H', (Itt K a).yld i H x H' → g x σ H' fun σ2 H2 => tb { D with nx := N, ct := N, bk := D.nx } σ2 H2) := by
  refine ⟨fun i m σ H => m = xs.length - i ∧ i ≤ xs.length ∧ Pv i σ H, ⟨xs.length, by simp, Nat.zero_le _, h0⟩, ?_⟩
  rintro i m σ H ⟨rfl, hi, p⟩
  have q := hl i σ H hi p
  by_cases hlt : i < xs.length
  · refine .inr ⟨⟨xs, xs[i], q, by simp [hlt]⟩, Pv (i + 1), fun σ' H' p' => ⟨xs.length - (i + 1), by omega, rfl, hlt, p'⟩, fun x H' y => ?_⟩
    obtain ⟨e, y⟩ := y
    subst e
    exact hs i x σ _ (y xs q) p
  · have e : i = xs.length := by omega
    subst e
    exact .inl ⟨⟨xs, q, Nat.le_refl _⟩, hd σ H p⟩
theorem for_range {lo : Int} {n : Nat} {g : TG} {tb : TS} {D : Ends} {σ : St} {H : Hp} (Pv : Nat → St → Hp → Prop) (h0 : Pv 0 σ H)
    (hs : ∀ i σ H, i < n → Pv i σ H → g (.int (lo + i)) σ H fun σ2 H2 => tb { D with nx := Pv (i + 1), ct := Pv (i + 1), bk := D.nx } σ2 H2) (hd : ∀ σ H, Pv n σ H → D.nx σ H) :
    ∃ W : Nat → Nat → St → Hp → Prop, (∃ m, W 0 m σ H) ∧ ∀ i m σ H, W i m σ H →
      ((Itr lo n).stop i H ∧ D.nx σ H) ∨ ((Itr lo n).go i H ∧ ∃ N : St → Hp → Prop, (∀ σ' H', N σ' H' → ∃ m', m' < m ∧ W (i + 1) m' σ' H') ∧ ∀ x H', (Itr lo n).yld i H x H' → g x σ H' fun σ2 H2 => tb { D with nx := N, ct := N, bk := D.nx } σ2 H2) := by
  refine ⟨fun i m σ H => m = n - i ∧ i ≤ n ∧ Pv i σ H, ⟨n, by simp, Nat.zero_le _, h0⟩, ?_⟩
  rintro i m σ H ⟨rfl, hi, p⟩
  by_cases hlt : i < n
  · refine .inr ⟨hlt, Pv (i + 1), fun σ' H' p' => ⟨n - (i + 1), by omega, rfl, hlt, p'⟩, fun x H' y => ?_⟩
    obtain ⟨e, y⟩ := y
    subst e y
    exact hs i σ _ hlt p
  · have e : i = n := by omega
    subst e
    exact .inl ⟨Nat.le_refl _, hd σ H p⟩
end L2
namespace L2
open PySem PySem.Spec PyProof.Rows
abbrev R2 := V → V → Hp → VK → Prop
/-- a two-place operation on values: f is binaryOp op, inplaceOp op or compareOp op -/
def OpR (X : Cx) (f : Value → Value → Sem Value) (r : R2) : Prop :=
  ∀ (pins : List (Addr × Obj)) (s : Shared) (σ : St) (H : Hp) (x y : V) (v u : Value) (Q : VK), Inv X pins σ H s → RelV x v → RelV y u → r x y H Q →
    wpAny (model X.prog X.w) X.A (f v u) (EP X pins σ Q) X.xe s
/-- a one-place operation -/
def UnR (X : Cx) (f : Value → Sem Value) (r : V → Hp → VK → Prop) : Prop :=
  ∀ (pins : List (Addr × Obj)) (s : Shared) (σ : St) (H : Hp) (x : V) (v : Value) (Q : VK), Inv X pins σ H s → RelV x v → r x H Q →
    wpAny (model X.prog X.w) X.A (f v) (EP X pins σ Q) X.xe s
/-- a call of a value that is known (a builtin, a type) with values -/
def CallR (X : Cx) (f : Value) (r : List V → Hp → VK → Prop) : Prop :=
  ∀ (pins : List (Addr × Obj)) (s : Shared) (σ : St) (H : Hp) (xs : List V) (us : List Value) (Q : VK), Inv X pins σ H s → Vals xs us → r xs H Q →
    wpAny (model X.prog X.w) X.A (call f us) (EP X pins σ Q) X.xe s
def tOp (r : R2) (ta tb : TE) : TE := fun σ H Q => ta σ H fun x H1 => tb σ H1 fun y H2 => r x y H2 Q
def tUn (r : V → Hp → VK → Prop) (ta : TE) : TE := fun σ H Q => ta σ H fun x H1 => r x H1 Q
/-- ints in, under C, and a value out -/
def rI (C : Int → Int → Prop) (g : Int → Int → V) : R2 := fun x y H Q => ∃ i j, x = .int i ∧ y = .int j ∧ C i j ∧ Q (g i j) H
def rI0 (g : Int → Int → V) : R2 := fun x y H Q => ∃ i j, x = .int i ∧ y = .int j ∧ Q (g i j) H
def rU (g : Int → V) : V → Hp → VK → Prop := fun x H Q => ∃ i, x = .int i ∧ Q (g i) H
section
variable {X : Cx} {a b c : Expr} {ta tb tc : TE} {pos : Pos}
theorem binT (ha : PE X a ta) (hb : PE X b tb) {pins : List (Addr × Obj)} {s : Shared} {σ : St} {H : Hp} {R : V → V → Hp → Prop} (I : Inv X pins σ H s)
    (h : ta σ H fun x H1 => tb σ H1 fun y H2 => R x y H2) {Q : Value → Shared → Prop} {f : Value → Value → Sem Value}
    (hf : ∀ v u s2 x y H2, Inv X pins σ H2 s2 → RelV x v → RelV y u → R x y H2 → wpAny (model X.prog X.w) X.A (f v u) Q X.xe s2) :
    wpAny (model X.prog X.w) X.A (eval a X.env) (fun v s₁ => wpAny (model X.prog X.w) X.A (eval b X.env) (fun u s₂ => wpAny (model X.prog X.w) X.A (f v u) Q X.xe s₂) X.xe s₁) X.xe s := by
  refine thn (ha pins s σ H _ I h) fun v s1 ⟨x, H1, I1, r1, q1⟩ => ?_
  refine thn (hb pins s1 σ H1 _ I1 q1) fun u s2 ⟨y, H2, I2, r2, q2⟩ => ?_
  exact hf v u s2 x y H2 I2 r1 r2 q2
theorem pe_op {op : Operator} {r : R2} (ho : OpR X (binaryOp op) r) (ha : PE X a ta) (hb : PE X b tb) : PE X (.BinOp a op b pos) (tOp r ta tb) := by
  intro pins s σ H Q I h
  exact wpAny_BinOp (binT ha hb I h fun v u s2 x y H2 I2 rx ry q => ho pins s2 σ H2 x y v u Q I2 rx ry q)
theorem pe_un {op : UnaryOp} {r : V → Hp → VK → Prop} (ho : UnR X (unaryOp op) r) (ha : PE X a ta) : PE X (.UnaryOp op a pos) (tUn r ta) := by
  intro pins s σ H Q I h
  exact UnaryOp_ (thn (ha pins s σ H _ I h) fun v s1 ⟨x, H1, I1, r1, q1⟩ => ho pins s1 σ H1 x v Q I1 r1 q1)
/-! ### ints -/
theorem opI {f : Value → Value → Sem Value} {C : Int → Int → Prop} {g : Int → Int → Int}
    (rule : ∀ (i j : Int) (t u : Tok) (s : Shared) (Q : Value → Shared → Prop) (E : Value → Shared → Prop), C i j → Q (.int (g i j) s.toks) { s with toks := s.toks + 1 } → wpAny (model X.prog X.w) X.A (f (.int i t) (.int j u)) Q E s) :
    OpR X f (rI C fun i j => .int (g i j)) := by
  intro pins s σ H x y v u Q I rx ry h
  obtain ⟨i, j, rfl, rfl, hc, q⟩ := h
  obtain ⟨t, rfl⟩ := rx
  obtain ⟨t', rfl⟩ := ry
  exact rule i j t t' s _ _ hc ⟨.int (g i j), H, I.tok _, ⟨_, rfl⟩, q⟩
theorem opI0 {f : Value → Value → Sem Value} {g : Int → Int → Int}
    (rule : ∀ (i j : Int) (t u : Tok) (s : Shared) (Q : Value → Shared → Prop) (E : Value → Shared → Prop), Q (.int (g i j) s.toks) { s with toks := s.toks + 1 } → wpAny (model X.prog X.w) X.A (f (.int i t) (.int j u)) Q E s) :
    OpR X f (rI0 fun i j => .int (g i j)) := by
  intro pins s σ H x y v u Q I rx ry h
  obtain ⟨i, j, rfl, rfl, q⟩ := h
  obtain ⟨t, rfl⟩ := rx
  obtain ⟨t', rfl⟩ := ry
  exact rule i j t t' s _ _ ⟨.int (g i j), H, I.tok _, ⟨_, rfl⟩, q⟩
theorem opB0 {f : Value → Value → Sem Value} {g : Int → Int → Bool}
    (rule : ∀ (i j : Int) (t u : Tok) (s : Shared) (Q : Value → Shared → Prop) (E : Value → Shared → Prop), Q (.bool (g i j)) s → wpAny (model X.prog X.w) X.A (f (.int i t) (.int j u)) Q E s) :
    OpR X f (rI0 fun i j => .bl (g i j)) := by
  intro pins s σ H x y v u Q I rx ry h
  obtain ⟨i, j, rfl, rfl, q⟩ := h
  obtain ⟨t, rfl⟩ := rx
  obtain ⟨t', rfl⟩ := ry
  exact rule i j t t' s _ _ ⟨.bl (g i j), H, I, rfl, q⟩
def CDiv (i j : Int) : Prop := 0 < j ∧ j < 1073741824
def CPow (i j : Int) : Prop := 0 ≤ j ∧ j ≤ 1000000 ∧ i.natAbs < 2 ^ 64
def CMul (i j : Int) : Prop := (-(2 ^ 64) < i ∧ i < 2 ^ 64) ∨ (-(2 ^ 64) < j ∧ j < 2 ^ 64)
theorem CMul.ok {i j : Int} (h : CMul i j) : IntMulOk i j := by
  rcases h with ⟨h1, h2⟩ | ⟨h1, h2⟩
  · exact .of_left (intBits_le_64 h1 h2)
  · exact .of_right (intBits_le_64 h1 h2)
theorem op_add : OpR X (binaryOp .Add) (rI0 fun i j => .int (i + j)) := opI0 fun _ _ _ _ _ _ _ q => add_int q
theorem op_sub : OpR X (binaryOp .Sub) (rI0 fun i j => .int (i - j)) := opI0 fun _ _ _ _ _ _ _ q => sub_int q
theorem op_mul : OpR X (binaryOp .Mult) (rI CMul fun i j => .int (i * j)) := opI fun _ _ _ _ _ _ _ hc q => mul_int q hc.ok
/-- // by a positive divisor -/
theorem op_fdiv : OpR X (binaryOp .FloorDiv) (rI CDiv fun i j => .int (i / j)) := opI fun i j _ _ _ _ _ hc q => by
  have h1 : (0 : Int) < j := hc.1
  have h2 : j < 1073741824 := hc.2
  exact floordiv_int (by omega) (by rw [Int.fdiv_eq_ediv_of_nonneg i (by omega)]; exact q) (.inl (PyProof.noPylong_small (by omega)))
/-- % by a positive divisor of any size -/
theorem op_mod : OpR X (binaryOp .Mod) (rI (fun _ j => 0 < j) fun i j => .int (i % j)) := opI fun i j _ _ _ _ _ hc q => by
  have h1 : (0 : Int) < j := hc
  exact mod_int' (by omega) (by rw [Int.fmod_eq_emod_of_nonneg i (by omega)]; exact q)
theorem op_pow : OpR X (binaryOp .Pow) (rI CPow fun i j => .int (i ^ j.toNat)) := opI fun _ _ _ _ _ _ _ hc q => pow_int_small hc.1 hc.2.1 hc.2.2 q
theorem unI {f : Value → Sem Value} {g : Int → Int}
    (rule : ∀ (i : Int) (t : Tok) (s : Shared) (Q : Value → Shared → Prop) (E : Value → Shared → Prop), Q (.int (g i) s.toks) { s with toks := s.toks + 1 } → wpAny (model X.prog X.w) X.A (f (.int i t)) Q E s) :
    UnR X f (rU fun i => .int (g i)) := by
  intro pins s σ H x v Q I rx h
  obtain ⟨i, rfl, q⟩ := h
  obtain ⟨t, rfl⟩ := rx
  exact rule i t s _ _ ⟨.int (g i), H, I.tok _, ⟨_, rfl⟩, q⟩
theorem un_neg : UnR X (unaryOp .USub) (rU fun i => .int (-i)) := unI fun _ _ _ _ _ q => neg_int q
/-! ### bools among ints: n += (a < b) -/
end
/-! ### comparisons -/
/-- the scalars that == tells apart as data does -/
def scal : V → V → Bool
  | .non, .non => true | .non, .int _ => true | .int _, .non => true | .non, .bl _ => true | .bl _, .non => true | .non, .str _ => true | .str _, .non => true
  | .int _, .int _ => true | .bl _, .bl _ => true | .str _, .str _ => true | .byt _, .byt _ => true
  | .int _, .str _ => true | .str _, .int _ => true | .bl _, .str _ => true | .str _, .bl _ => true
  | _, _ => false
def rEq : R2 := fun x y H Q => scal x y = true ∧ Q (.bl (decide (x = y))) H
def rNe : R2 := fun x y H Q => scal x y = true ∧ Q (.bl (!decide (x = y))) H
theorem dec_int {i j : Int} : decide (V.int i = V.int j) = (i == j) := by
  rw [Bool.eq_iff_iff]
  simp
theorem dec_bl {i j : Bool} : decide (V.bl i = V.bl j) = (i == j) := by
  rw [Bool.eq_iff_iff]
  simp
theorem dec_str {i j : Str} : decide (V.str i = V.str j) = (i == j) := by
  rw [Bool.eq_iff_iff]
  simp
theorem dec_byt {i j : Array UInt8} : decide (V.byt i = V.byt j) = (i.toList == j.toList) := by
  rw [Bool.eq_iff_iff]
  cases i
  cases j
  simp
section
variable {X : Cx} {a b c : Expr} {ta tb tc : TE} {pos : Pos}
theorem fin_bl {pins : List (Addr × Obj)} {σ : St} {H : Hp} {s : Shared} {Q : VK} {k k' : Bool} (I : Inv X pins σ H s) (q : Q (.bl k) H) (e : k = k') : EP X pins σ Q (.bool k') s := by
  subst e
  exact ⟨.bl k, H, I, rfl, q⟩
theorem op_eq : OpR X (compareOp .Eq) rEq := by
  intro pins s σ H x y v u Q I rx ry h
  obtain ⟨hs, q⟩ := h
  cases x with
  | non =>
    cases rx
    cases y with
    | non => cases ry; exact PySem.EqNone.eq_none_none (fin_bl I q (by simp))
    | bl j => cases ry; exact PySem.EqNone.eq_none_bool (fin_bl I q (by simp))
    | int j => obtain ⟨t', rfl⟩ := ry; exact PySem.EqNone.eq_none_int (fin_bl I q (by simp))
    | str j => obtain ⟨t', rfl⟩ := ry; exact PySem.EqNone.eq_none_str (fin_bl I q (by simp))
    | _ => exact absurd (show false = true from hs) Bool.false_ne_true
  | bl i =>
    cases rx
    cases y with
    | non => cases ry; exact PySem.EqNone.eq_bool_none (fin_bl I q (by simp))
    | bl j => cases ry; exact eq_bool (fin_bl I q dec_bl)
    | str j => obtain ⟨t', rfl⟩ := ry; exact PySem.EqMixed.eq_bool_str (fin_bl I q (by simp))
    | _ => exact absurd (show false = true from hs) Bool.false_ne_true
  | int i =>
    obtain ⟨t, rfl⟩ := rx
    cases y with
    | non => cases ry; exact PySem.EqNone.eq_int_none (fin_bl I q (by simp))
    | int j => obtain ⟨t', rfl⟩ := ry; exact eq_int (fin_bl I q dec_int)
    | str j => obtain ⟨t', rfl⟩ := ry; exact PySem.EqMixed.eq_int_str (fin_bl I q (by simp))
    | _ => exact absurd (show false = true from hs) Bool.false_ne_true
  | str i =>
    obtain ⟨t, rfl⟩ := rx
    cases y with
    | non => cases ry; exact PySem.EqNone.eq_str_none (fin_bl I q (by simp))
    | bl j => cases ry; exact PySem.EqMixed.eq_str_bool (fin_bl I q (by simp))
    | int j => obtain ⟨t', rfl⟩ := ry; exact PySem.EqMixed.eq_str_int (fin_bl I q (by simp))
    | str j => obtain ⟨t', rfl⟩ := ry; exact eq_str (fin_bl I q dec_str)
    | _ => exact absurd (show false = true from hs) Bool.false_ne_true
  | byt i =>
    obtain ⟨t, rfl⟩ := rx
    cases y with
    | byt j => obtain ⟨t', rfl⟩ := ry; exact PySem.W.eq_bytes (fin_bl I q dec_byt)
    | _ => exact absurd (show false = true from hs) Bool.false_ne_true
  | _ => cases y <;> exact absurd (show false = true from hs) Bool.false_ne_true
theorem op_ne : OpR X (compareOp .NotEq) rNe := by
  intro pins s σ H x y v u Q I rx ry h
  obtain ⟨hs, q⟩ := h
  cases x with
  | non =>
    cases rx
    cases y with
    | non => cases ry; exact PySem.EqNone.ne_none_none (fin_bl I q (by simp))
    | bl j => cases ry; exact PySem.EqNone.ne_none_bool (fin_bl I q (by simp))
    | int j => obtain ⟨t', rfl⟩ := ry; exact PySem.EqNone.ne_none_int (fin_bl I q (by simp))
    | str j => obtain ⟨t', rfl⟩ := ry; exact PySem.EqNone.ne_none_str (fin_bl I q (by simp))
    | _ => exact absurd (show false = true from hs) Bool.false_ne_true
  | bl i =>
    cases rx
    cases y with
    | non => cases ry; exact PySem.EqNone.ne_bool_none (fin_bl I q (by simp))
    | bl j => cases ry; exact ne_bool (fin_bl I q (congrArg not dec_bl))
    | str j => obtain ⟨t', rfl⟩ := ry; exact PySem.EqMixed.ne_bool_str (fin_bl I q (by simp))
    | _ => exact absurd (show false = true from hs) Bool.false_ne_true
  | int i =>
    obtain ⟨t, rfl⟩ := rx
    cases y with
    | non => cases ry; exact PySem.EqNone.ne_int_none (fin_bl I q (by simp))
    | int j => obtain ⟨t', rfl⟩ := ry; exact ne_int (fin_bl I q (congrArg not dec_int))
    | str j => obtain ⟨t', rfl⟩ := ry; exact PySem.EqMixed.ne_int_str (fin_bl I q (by simp))
    | _ => exact absurd (show false = true from hs) Bool.false_ne_true
  | str i =>
    obtain ⟨t, rfl⟩ := rx
    cases y with
    | non => cases ry; exact PySem.EqNone.ne_str_none (fin_bl I q (by simp))
    | bl j => cases ry; exact PySem.EqMixed.ne_str_bool (fin_bl I q (by simp))
    | int j => obtain ⟨t', rfl⟩ := ry; exact PySem.EqMixed.ne_str_int (fin_bl I q (by simp))
    | str j => obtain ⟨t', rfl⟩ := ry; exact ne_str (fin_bl I q (congrArg not dec_str))
    | _ => exact absurd (show false = true from hs) Bool.false_ne_true
  | byt i =>
    obtain ⟨t, rfl⟩ := rx
    cases y with
    | byt j => obtain ⟨t', rfl⟩ := ry; exact PySem.W.ne_bytes (fin_bl I q (congrArg not dec_byt))
    | _ => exact absurd (show false = true from hs) Bool.false_ne_true
  | _ => cases y <;> exact absurd (show false = true from hs) Bool.false_ne_true
theorem op_lt : OpR X (compareOp .Lt) (rI0 fun i j => .bl (decide (i < j))) := opB0 fun _ _ _ _ _ _ _ q => lt_int q
theorem op_le : OpR X (compareOp .LtE) (rI0 fun i j => .bl (decide (i ≤ j))) := opB0 fun _ _ _ _ _ _ _ q => le_int q
theorem op_gt : OpR X (compareOp .Gt) (rI0 fun i j => .bl (decide (j < i))) := opB0 fun _ _ _ _ _ _ _ q => gt_int q
theorem op_ge : OpR X (compareOp .GtE) (rI0 fun i j => .bl (decide (j ≤ i))) := opB0 fun _ _ _ _ _ _ _ q => ge_int q
/-- two rules for one operation: by cases -/
theorem OpR.or {f : Value → Value → Sem Value} {r r' : R2} (h : OpR X f r) (h' : OpR X f r') : OpR X f (fun x y H Q => r x y H Q ∨ r' x y H Q) := by
  intro pins s σ H x y v u Q I rx ry q
  rcases q with q | q
  · exact h pins s σ H x y v u Q I rx ry q
  · exact h' pins s σ H x y v u Q I rx ry q
theorem nomark (b : Expr) {op : CmpOp} (h : op ≠ .In := by decide) (h2 : op ≠ .NotIn := by decide) : behindInMarks op b = false := by
  have e1 : (op == CmpOp.In) = false := by cases op <;> first | rfl | exact absurd rfl h
  have e2 : (op == CmpOp.NotIn) = false := by cases op <;> first | rfl | exact absurd rfl h2
  cases b <;> simp [behindInMarks, e1, e2]
/-- a comparison as a value; hm: nomark b, or (for in, not in) by with_unfolding_all rfl -/
theorem pe_cmpR {op : CmpOp} {r : R2} (ho : OpR X (compareOp op) r) (ha : PE X a ta) (hb : PE X b tb) (hm : behindInMarks op b = false) : PE X (.Compare a [op] [b] pos) (tOp r ta tb) := by
  intro pins s σ H Q I h
  exact wpAny_Compare1 (binT ha hb I h fun v u s2 x y H2 I2 rx ry q => ho pins s2 σ H2 x y v u Q I2 rx ry q) hm
/-- a reading of a value as a test -/
def tTest (t : TE) : TT := fun σ H Q => t σ H fun x H' => ∃ k, x = .bl k ∧ Q k H'
theorem pt_cmpR {op : CmpOp} {r : R2} (ho : OpR X (compareOp op) r) (ha : PE X a ta) (hb : PE X b tb) (hm : behindInMarks op b = false) : PT X (.Compare a [op] [b] pos) (tTest (tOp r ta tb)) := by
  intro pins s σ H Q I h
  refine wpAny_isTrue_Compare1 (thn (ha pins s σ H _ I h) fun v s1 ⟨x, H1, I1, r1, q1⟩ => thn (hb pins s1 σ H1 _ I1 q1) fun u s2 ⟨y, H2, I2, r2, q2⟩ =>
    thn (ho pins s2 σ H2 x y v u _ I2 r1 r2 q2) fun c s3 ⟨z, H3, I3, r3, k, e, q3⟩ => ?_) hm
  subst e
  cases r3
  exact wpAny_truthy_bool ⟨H3, I3, q3⟩
/-- a op1 b op2 c -/
def tChain (r r' : R2) (ta tb tc : TE) : TE := fun σ H Q => ta σ H fun x H1 => tb σ H1 fun y H2 => r x y H2 fun z H3 => ∃ k, z = .bl k ∧
  (if k = true then tc σ H3 fun w' H4 => r' y w' H4 Q else Q (.bl false) H3)
theorem pt_chain {op op' : CmpOp} {r r' : R2} (ho : OpR X (compareOp op) r) (ho' : OpR X (compareOp op') r') (ha : PE X a ta) (hb : PE X b tb) (hc : PE X c tc)
    (hm : lastMarks [op, op'] [b, c] = false := by with_unfolding_all rfl) : PT X (.Compare a [op, op'] [b, c] pos) (tTest (tChain r r' ta tb tc)) := by
  intro pins s σ H Q I h
  refine isTrue_chain (thn (ha pins s σ H _ I h) fun v s1 ⟨x, H1, I1, r1, q1⟩ => test_link (thn (hb pins s1 σ H1 _ I1 q1) fun u s2 ⟨y, H2, I2, r2, q2⟩ =>
    thn (ho pins s2 σ H2 x y v u _ I2 r1 r2 q2) fun d s3 ⟨z, H3, I3, r3, k, e, q3⟩ => ?_)) hm
  subst e
  cases r3
  refine wpAny_truthy_bool ?_
  cases k with
  | false =>
    obtain ⟨k', e', q'⟩ := q3
    cases e'
    exact ite_ff ⟨H3, I3, q'⟩
  | true =>
    refine ite_tt (test_last (thn (hc pins s3 σ H3 _ I3 q3) fun w' s4 ⟨z', H4, I4, r4, q4⟩ => thn (ho' pins s4 σ H4 y z' u w' _ I4 r2 r4 q4) fun d' s5 ⟨z2, H5, I5, r5, k2, e2, q5⟩ => ?_))
    subst e2
    cases r5
    exact wpAny_truthy_bool ⟨H5, I5, q5⟩
/-! ### truth -/
theorem line63 : (sizeLine : Nat) < 2 ^ 63 := by rw [sizeLine_eq]; decide
/-! ### strs and bytes -/
/-! ### scalar builtins, by CallR -/
theorem vals1 {x : V} {us : List Value} (r : Vals [x] us) : ∃ u, us = [u] ∧ RelV x u := by
  cases r with
  | cons r1 r2 => cases r2; exact ⟨_, rfl, r1⟩
theorem vals2 {x y : V} {us : List Value} (r : Vals [x, y] us) : ∃ u w', us = [u, w'] ∧ RelV x u ∧ RelV y w' := by
  cases r with
  | cons r1 r2 =>
    cases r2 with
    | cons r3 r4 => cases r4; exact ⟨_, _, rfl, r1, r3⟩
theorem call_abs : CallR X (.builtin "abs") (fun xs H Q => ∃ i, xs = [.int i] ∧ Q (.int (if i < 0 then -i else i)) H) := by
  intro pins s σ H xs us Q I r h
  obtain ⟨i, rfl, q⟩ := h
  obtain ⟨u, rfl, t, rfl⟩ := vals1 r
  exact call_abs_int fun u tk => ⟨.int (if i < 0 then -i else i), H, I.tok _, ⟨_, rfl⟩, q⟩
theorem call_max2 (hc : X.calm = true) : CallR X (.builtin "max") (fun xs H Q => ∃ i j, xs = [.int i, .int j] ∧ Q (.int (if j > i then j else i)) H) := by
  intro pins s σ H xs us Q I r h
  obtain ⟨i, j, rfl, q⟩ := h
  obtain ⟨u, w', rfl, ⟨t, rfl⟩, ⟨t', rfl⟩⟩ := vals2 r
  refine max_two_ints (I.ok.hd hc) fun h' tk k => ⟨_, H, I.kept k, ?_, q⟩
  by_cases hj : j > i
  · rw [if_pos hj, if_pos hj]; exact ⟨_, rfl⟩
  · rw [if_neg hj, if_neg hj]; exact ⟨_, rfl⟩
end
end L2
namespace L2
open PySem PySem.Spec PyProof.Rows
/-! ### an instance, its attributes a map -/
structure ObjM (h : Heap) (x dx C : Addr) (mA : Str → Option Value) : Prop where
  obj : h.get? x = some (PySem.W.instObj C dx)
  ns : h.Ns1 dx mA
  ne : dx ≠ x
theorem lookIn_ns {h : Heap} {dx : Addr} {mA : Str → Option Value} (n : h.Ns1 dx mA) : ∃ od, h.get? dx = some od ∧ ∀ name, PySem.W.lookIn name od = some (mA name) := by
  obtain ⟨o, es, ep, ho, hd, hk, _, hm⟩ := n
  refine ⟨o, ho, fun name => ?_⟩
  have e := hm name
  unfold nsFind findBy at e
  rw [← Array.find?_toList] at e
  unfold PySem.W.lookIn
  rw [hd]
  dsimp only
  split
  · rename_i y q
    rw [q] at e
    exact congrArg some e
  · rename_i q
    rw [q] at e
    have a : es.toList.any (·.refKey) = false := by
      rw [List.any_eq_false]
      intro y hy
      obtain ⟨z, t, hkey⟩ := hk y (Array.mem_toList_iff.mp hy)
      simp [DictEntry.refKey, hkey]
    have a' : ¬ es.toList.any (·.refKey) = true := by rw [a]; exact Bool.false_ne_true
    rw [if_neg a']
    exact congrArg some e
theorem ObjM.look {h : Heap} {x dx C : Addr} {mA : Str → Option Value} (I : ObjM h x dx C mA) : ∃ od, PySem.W.InstAt h x (PySem.W.instObj C dx) C (some od) ∧ ∀ name, PySem.W.lookIn name od = some (mA name) :=
  let ⟨od, ho, hl⟩ := lookIn_ns I.ns
  ⟨od, ⟨I.obj, rfl, rfl, ho⟩, hl⟩
section
variable {prog : Program} {w : World} {A : Around} {E : Value → Shared → Prop} {s : Shared} {K : PySem.W.Frag} {x dx C f : Addr} {mA : Str → Option Value} {name : Str} {v : Value}
theorem get_map {expr : Bool} {Q : Value → Shared → Prop} (X : K.In s.heap) (I : ObjM s.heap x dx C mA) (hg : PySem.W.plainGet K C name = true) (hh : PySem.W.hasDictIn K C = true)
    (ha : PySem.W.findIn K (.ref C) name = some none) (hv : mA name = some v) (hv' : PySem.W.handedIn v = true) (h : Q v { s with toks := s.toks + 1 }) :
    wpAny (model prog w) A (getAttr (.ref x) name expr) Q E s := by
  obtain ⟨od, J, hl⟩ := I.look
  exact PySem.W.get_value X J (PySem.W.plainGet_of hg).1 (PySem.W.findObj_own hh ha rfl (by rw [hl, hv])) hv' h
theorem get_meth {pl : Sem Bool} {Q : Value × List Value → Shared → Prop} (X : K.In s.heap) (I : ObjM s.heap x dx C mA) (hg : PySem.W.plainGet K C name = true)
    (hf : PySem.W.findIn K (.ref C) name = some (some (.ref f))) (ht : PySem.W.isFn K (.ref f) = true) (hv : mA name = none) (h : Q (.ref f, [.ref x]) s) :
    wpAny (model prog w) A (getMethod (.ref x) name pl) Q E s := by
  obtain ⟨od, J, hl⟩ := I.look
  exact PySem.W.method_fn X J (PySem.W.plainGet_of hg).1 (PySem.W.plainGet_of hg).2 hf (beq_iff_eq.mp ht) (by show (PySem.W.lookIn name od).map (·.isSome) = some false; rw [hl, hv]; rfl) h
theorem set_map {ns : List Str} {Q : Unit → Shared → Prop} (X : K.In s.heap) (I : ObjM s.heap x dx C mA)
    (hs : PySem.W.findIn K (.ref C) "__setattr__" = some (some (.builtin "object.__setattr__"))) (hp : PySem.W.plainOver K C = true) (ht : PySem.W.takerIn K C name = some none) (hh : PySem.W.hasDictIn K C = true)
    (hw : PySem.Within mA ns) (hsz : ns.length ≤ sizeLine)
    (h : ∀ h', ObjM h' x dx C (fun y => if y = name then some v else mA y) → Heap.SameBut dx s.heap h' → Q () { s with heap := h', toks := s.toks + 2 }) :
    wpAny (model prog w) A (setAttr (.ref x) name v) Q E s := by
  obtain ⟨od, J, hl⟩ := I.look
  refine PySem.W.set_plain X J hs (PySem.W.osa_open (s := { s with toks := s.toks + 1 }) (r := none) X J hp ht fun b => ?_)
  obtain ⟨cd, hc, hd'⟩ := PySem.W.any_some hh
  have hx : s.heap.get? x = some ⟨.ref C, some dx, .plain, #[]⟩ := I.obj
  refine wpAny_bind (wpAny_pure (wpAny_bind (wpAny_bind (wpAny_loadPart hx (wpAny_bind (PySem.W.Looks.here (s := { s with toks := s.toks + 1 }) (PySem.W.looks_clsIn X hc) ?_))))))
  rw [hd']
  refine wpAny_pure (a := some dx) (wpAny_bind (wpAny_pure (wpAny_bind ?_)))
  refine wpAny_nsSet1 (s := { s with toks := s.toks + 1 }) I.ns fun h' hn2 hs2 => ?_
  obtain ⟨oD, esD, epD, hoD, hdD, hcD⟩ := hn2.count (PySem.Within.cons name v hw)
  refine wpAny_bind (wpAny_lookBehind hoD (by rw [hdD]; exact pastItsLine_dict (Nat.le_trans hcD (by rw [List.length_cons]; omega))) ?_)
  exact wpAny_pure (h _ ⟨(hs2.2 _ (Ne.symm I.ne)).trans I.obj, hn2, I.ne⟩ hs2)
/-- C(..): the dict at the heap's end, the instance behind it; then its __init__ -/
theorem make_map {R : Result → Shared → Prop} {vs : List Value} {kw : List (Str × Value)} (X : K.In s.heap) (hm : PySem.W.makesIn K C = true)
    (hi : PySem.W.findIn K (.ref C) "__init__" = some (some (.ref f))) (hf : PySem.W.typeIn K (.ref f) = some (.type "function"))
    (h : codeAny (model prog w) (A.under (.builtin "type.__call__" ⟨.ref C :: vs, kw⟩)) (.call (.ref f) ⟨.ref (s.heap.objs.size + 1) :: vs, kw⟩) (PySem.W.InitBack (s.heap.objs.size + 1) R)
      { s with heap := (s.heap.push PySem.W.emptyDict).push (PySem.W.instObj C s.heap.objs.size) }) :
    codeAny (model prog w) A (.call (.ref C) ⟨vs, kw⟩) R s := by
  obtain ⟨hh, g, d, t, os⟩ := s
  exact PySem.W.make_core (PySem.W.makes_of X hm) (PySem.W.looks_findIn X hi) (fun self => PySem.W.bind_fn X self hf) (.inl rfl) h
end
/-! ### the attributes as a list of pairs -/
def putF (f : Str) (v : V) : List (Str × V) → List (Str × V)
  | [] => [(f, v)]
  | (g, x) :: r => if g = f then (g, v) :: r else (g, x) :: putF f v r
theorem lookup_putF (f g : Str) (v : V) : ∀ fs : List (Str × V), (putF f v fs).lookup g = if g = f then some v else fs.lookup g
  | [] => by
    show List.lookup g [(f, v)] = _
    by_cases h : g = f
    · have hb : (g == f) = true := beq_iff_eq.mpr h
      simp only [List.lookup, hb, if_pos h]
    · have hb : (g == f) = false := beq_eq_false_iff_ne.mpr h
      simp only [List.lookup, hb, if_neg h]
  | (k, x) :: r => by
    have ih := lookup_putF f g v r
    rw [show putF f v ((k, x) :: r) = (if k = f then (k, v) :: r else (k, x) :: putF f v r) from rfl]
    by_cases hk : k = f
    · rw [if_pos hk]
      by_cases h : g = k
      · have hb : (g == k) = true := beq_iff_eq.mpr h
        simp only [List.lookup, hb, if_pos (h.trans hk)]
      · have hb : (g == k) = false := beq_eq_false_iff_ne.mpr h
        simp only [List.lookup, hb, if_neg (fun e : g = f => h (e.trans hk.symm))]
    · rw [if_neg hk]
      by_cases h : g = k
      · have hb : (g == k) = true := beq_iff_eq.mpr h
        simp only [List.lookup, hb, if_neg (fun e : g = f => hk (h.symm.trans e))]
      · have hb : (g == k) = false := beq_eq_false_iff_ne.mpr h
        simp only [List.lookup, hb]
        exact ih
theorem keys_putF (f : Str) (v : V) : ∀ fs : List (Str × V), f ∈ (putF f v fs).map (·.1) ∧ ∀ g, g ∈ fs.map (·.1) → g ∈ (putF f v fs).map (·.1)
  | [] => ⟨by simp [putF], fun g h => by simp at h⟩
  | (k, x) :: r => by
    obtain ⟨i1, i2⟩ := keys_putF f v r
    rw [show putF f v ((k, x) :: r) = (if k = f then (k, v) :: r else (k, x) :: putF f v r) from rfl]
    by_cases hk : k = f
    · rw [if_pos hk]
      subst hk
      exact ⟨by simp, fun g h => by simpa using h⟩
    · rw [if_neg hk]
      refine ⟨?_, fun g h => ?_⟩
      · rw [List.map_cons]
        exact List.mem_cons_of_mem _ i1
      · rw [List.map_cons] at h ⊢
        rcases List.mem_cons.mp h with e | e
        · exact List.mem_cons.mpr (.inl e)
        · exact List.mem_cons_of_mem _ (i2 g e)
theorem length_putF (f : Str) (v : V) : ∀ fs : List (Str × V), (putF f v fs).length ≤ fs.length + 1
  | [] => by simp [putF]
  | (k, x) :: r => by
    have ih := length_putF f v r
    rw [show putF f v ((k, x) :: r) = (if k = f then (k, v) :: r else (k, x) :: putF f v r) from rfl]
    by_cases hk : k = f
    · rw [if_pos hk, List.length_cons, List.length_cons]; omega
    · rw [if_neg hk, List.length_cons, List.length_cons]; omega
theorem RelO.some_of {v : V} {o : Option Value} (r : RelO (some v) o) : ∃ u, o = some u ∧ RelV v u := by
  cases o with
  | none => exact (show False from r).elim
  | some u => exact ⟨u, rfl, r⟩
theorem RelO.none_of {o : Option Value} (r : RelO none o) : o = none := by
  cases o with
  | none => rfl
  | some u => exact (show False from r).elim
theorem handed_of {v : V} {u : Value} (r : RelV v u) : PySem.W.handedIn u = true := by
  cases v with
  | non => cases (show u = Value.none from r); rfl
  | bl b => cases (show u = Value.bool b from r); rfl
  | int i => obtain ⟨t, e⟩ := (show ∃ t, u = Value.int i t from r); cases e; rfl
  | str x => obtain ⟨t, e⟩ := (show ∃ t, u = Value.str x t from r); cases e; rfl
  | byt b => obtain ⟨t, e⟩ := (show ∃ t, u = Value.bytes b t from r); cases e; rfl
  | flt b => obtain ⟨t, e⟩ := (show ∃ t, u = Value.float b t from r); cases e; rfl
  | ref a => cases (show u = Value.ref a from r); rfl
  | ty n => cases (show u = Value.type n from r); rfl
section
variable {P : Program} {w : World} {H H' : Hp} {h h' : Heap} {a C dx : Addr} {fs fs' : List (Str × V)}
theorem ins_get (hok : HOk P w H h) (e : H a = some (.ins C dx fs)) : ∃ mA, ObjM h a dx C mA ∧ (∀ f, RelO (fs.lookup f) (mA f)) ∧ PySem.Within mA (fs.map (·.1)) ∧ fs.length ≤ 1000 ∧ H dx = some (.own a) := by
  obtain ⟨d, z, ne, ob, mA, n, r, q⟩ := (show ObjOk P w H h a (.ins C dx fs) from hok a _ e)
  exact ⟨mA, ⟨ob, n, ne⟩, r, q, z, d⟩
end
/-! ### what of the text a class must have -/
structure Cls (K : PySem.W.Frag) (C : Addr) : Prop where
  pg : PySem.W.plainGet K C Str.empty = true
  hd : PySem.W.hasDictIn K C = true
  po : PySem.W.plainOver K C = true
  sa : PySem.W.findIn K (.ref C) "__setattr__" = some (some (.builtin "object.__setattr__"))
theorem Cls.get {K : PySem.W.Frag} {C : Addr} (c : Cls K C) (f : Str) : PySem.W.plainGet K C f = true := c.pg
/-- no class of it has the name -/
def NoAttr (K : PySem.W.Frag) (C : Addr) (f : Str) : Prop := PySem.W.findIn K (.ref C) f = some none
theorem NoAttr.taker {K : PySem.W.Frag} {C : Addr} {f : Str} (n : NoAttr K C f) : PySem.W.takerIn K C f = some none := by
  unfold PySem.W.takerIn
  rw [show PySem.W.findIn K (.ref C) f = some none from n]
  rfl
/-- a method: a plain def of the class or of one above it -/
structure Meth (K : PySem.W.Frag) (C : Addr) (m : Str) (f : Addr) : Prop where
  at_ : PySem.W.findIn K (.ref C) m = some (some (.ref f))
  fn : PySem.W.isFn K (.ref f) = true
  kp : PySem.W.keepIn K (.ref f) = true
section
variable {X : Cx} {pins : List (Addr × Obj)} {σ : St} {H : Hp} {s : Shared} {a C dx : Addr} {fs : List (Str × V)} {f : Str} {v : V} {A : Around} {E : Value → Shared → Prop}
theorem getattr_ok {b : Bool} {Q : Value → Shared → Prop} (I : Inv X pins σ H s) (e : H a = some (.ins C dx fs)) (c : Cls X.K C) (n : NoAttr X.K C f) (l : fs.lookup f = some v)
    (h : ∀ u s', Inv X pins σ H s' → RelV v u → Q u s') : wpAny (model X.prog X.w) A (getAttr (.ref a) f b) Q E s := by
  obtain ⟨mA, O, r, _, _, _⟩ := ins_get I.hok e
  obtain ⟨u, hu, ru⟩ := RelO.some_of (v := v) (o := mA f) (by rw [← l]; exact r f)
  exact get_map I.kIn O (c.get f) c.hd n hu (handed_of ru) (h u _ (I.tok _) ru)
theorem getmeth_ok {m : Str} {g : Addr} {pl : Sem Bool} {Q : Value × List Value → Shared → Prop} (I : Inv X pins σ H s) (e : H a = some (.ins C dx fs)) (c : Cls X.K C) (k : Meth X.K C m g) (l : fs.lookup m = none)
    (h : Q (.ref g, [.ref a]) s) : wpAny (model X.prog X.w) A (getMethod (.ref a) m pl) Q E s := by
  obtain ⟨mA, O, r, _, _, _⟩ := ins_get I.hok e
  have hn : mA m = none := RelO.none_of (by rw [← l]; exact r m)
  exact get_meth I.kIn O (c.get m) k.at_ k.fn hn h
theorem setattr_ok {y : V} {u : Value} {Q : Unit → Shared → Prop} (I : Inv X pins σ H s) (e : H a = some (.ins C dx fs)) (c : Cls X.K C) (n : NoAttr X.K C f) (hl : fs.length < 1000) (ry : RelV y u)
    (h : ∀ s', Inv X pins σ (upd H a (.ins C dx (putF f y fs))) s' → Q () s') : wpAny (model X.prog X.w) A (setAttr (.ref a) f u) Q E s := by
  obtain ⟨mA, O, r, wi, _, ho⟩ := ins_get I.hok e
  have hz : (fs.map (·.1)).length ≤ sizeLine := by rw [List.length_map, sizeLine_eq]; omega
  refine set_map I.kIn O c.sa c.po n.taker c.hd wi hz fun h' O' sb => h _ ?_
  have hd : ∃ o, h'.get? dx = some o := let ⟨o, _, _, e', _⟩ := O'.ns; ⟨o, e'⟩
  refine I.write (x := a) (e := dx) (by rw [e]; exact True.intro) (.inr ho) (fun b q hb z => (sb.2 b hb).trans z) hd ?_
  refine ⟨by rw [upd_ne O.ne]; exact ho, ?_, O.ne, O'.obj, _, O'.ns, fun g => ?_, fun g hg => ?_⟩
  · have := length_putF f y fs; omega
  · show RelO ((putF f y fs).lookup g) (if g = f then some u else mA g)
    rw [lookup_putF]
    by_cases q : g = f
    · rw [if_pos q, if_pos q]; exact ry
    · rw [if_neg q, if_neg q]; exact r g
  · by_cases q : g = f
    · rw [q]; exact (keys_putF f y fs).1
    · refine (keys_putF f y fs).2 g (wi g fun z => hg ?_)
      show (if g = f then some u else mA g) = none
      rw [if_neg q]; exact z
/-- a new instance, tracked, without attributes -/
theorem Inv.made (I : Inv X pins σ H s) : Inv X pins σ (upd (upd H s.heap.objs.size (.own (s.heap.objs.size + 1))) (s.heap.objs.size + 1) (.ins C s.heap.objs.size []))
    { s with heap := (s.heap.push PySem.W.emptyDict).push (PySem.W.instObj C s.heap.objs.size) } := by
  have e1 : (s.heap.push PySem.W.emptyDict).get? s.heap.objs.size = some PySem.W.emptyDict := Heap.get?_push_size s.heap rfl
  have e2 : ((s.heap.push PySem.W.emptyDict).push (PySem.W.instObj C s.heap.objs.size)).get? (s.heap.objs.size + 1) = some (PySem.W.instObj C s.heap.objs.size) := by
    have := Heap.get?_push_size (s.heap.push PySem.W.emptyDict) (o := PySem.W.instObj C s.heap.objs.size) rfl
    rwa [Heap.size_push] at this
  have e3 : (s.heap.push PySem.W.emptyDict).Ns s.heap.objs.size (fun _ => none) := ⟨PySem.W.emptyDict, #[], _, e1, rfl, (fun e he => absurd he (by simp)), fun _ => rfl⟩
  have I1 := I.laid (a := s.heap.objs.size) (o := .own (s.heap.objs.size + 1)) (h' := s.heap.push PySem.W.emptyDict) (t' := s.toks) (fun b u q => Heap.get?_push_of_some _ q) (Nat.le_refl _) ⟨_, e1⟩
  refine I1.laid (a := s.heap.objs.size + 1) (o := .ins C s.heap.objs.size []) (t' := s.toks) (fun b u q => Heap.get?_push_of_some _ q) (Nat.le_of_eq (Heap.size_push _ _)) ?_
  have ne : s.heap.objs.size ≠ s.heap.objs.size + 1 := Nat.ne_of_lt (Nat.lt_succ_self _)
  refine ⟨by rw [upd_ne ne, upd_same], Nat.zero_le _, ne, e2, fun _ => none, (Heap.Ns1.of_empty e3).at fun o q => Heap.get?_push_of_some _ q, fun _ => True.intro, fun y hy => absurd rfl hy⟩
/-- e.f where nothing but the object is asked: through attributeBase (super) and the last hold -/
theorem attr_of {prog : Program} {w : World} {env : Env} {e : Expr} {f : Str} {pos : Pos} {s : Shared} {Q : Value → Shared → Prop} (hb : attributeBase e f env (eval e env) = eval e env)
    (h : wpAny (model prog w) A (eval e env) (fun o s₁ => wpAny (model prog w) A (getAttr o f true) Q E s₁) E s) : wpAny (model prog w) A (eval (.Attribute e f pos) env) Q E s :=
  Attribute_any_ h (by rw [arm_eval_Attribute, hb])
end
/-! ### readings and rules -/
/-- e.f, an attribute of the instance -/
def tFld (K : PySem.W.Frag) (ta : TE) (f : Str) : TE := fun σ H Q => ta σ H fun x H1 => ∃ a C dx fs v, x = .ref a ∧ H1 a = some (.ins C dx fs) ∧ Cls K C ∧ NoAttr K C f ∧ fs.lookup f = some v ∧ Q v H1
/-- e.f = value -/
def sFld (K : PySem.W.Frag) (ta tv : TE) (f : Str) : TS := fun D σ H => tv σ H fun y H1 => ta σ H1 fun x H2 => ∃ a C dx fs, x = .ref a ∧ H2 a = some (.ins C dx fs) ∧ Cls K C ∧ NoAttr K C f ∧ fs.length < 1000 ∧
  D.nx σ (upd H2 a (.ins C dx (putF f y fs)))
section
variable {X : Cx} {o e value : Expr} {f : Str} {pos pos' tpos : Pos} {ta tv : TE}
theorem pe_fld (he : PE X e ta) (hb : attributeBase e f X.env (eval e X.env) = eval e X.env) : PE X (.Attribute e f pos) (tFld X.K ta f) := by
  intro pins s σ H Q I h
  refine attr_of hb (thn (he pins s σ H _ I h) fun u s1 ⟨x, H1, I1, rx, a, C, dx, fs, v, ex, ea, c, n, l, q⟩ => ?_)
  subst ex
  obtain rfl : u = Value.ref a := rx
  exact getattr_ok I1 ea c n l fun u' s2 I2 ru => ⟨v, H1, I2, ru, q⟩
theorem ps_fld (ha : PE X o ta) (hv : PE X value tv) (hs : swapsWith value (some (.Attribute o f pos')) pos.line X.env = pure false) : PS X (.Assign [.Attribute o f pos'] value pos) (sFld X.K ta tv f) := by
  intro pins s σ H D I h
  refine plainObj_wpAny_Assign_Attribute (thn (hv pins s σ H _ I h) fun u s1 ⟨y, H1, I1, ry, q⟩ => thn (ha pins s1 σ H1 _ I1 q) fun ov s2 ⟨x, H2, I2, rx, a, C, dx, fs, ex, ea, c, n, l, q2⟩ => ?_) hs
  subst ex
  obtain rfl : ov = Value.ref a := rx
  exact setattr_ok I2 ea c n l ry fun s3 I3 => ⟨σ, _, I3, q2⟩
end
/-! ### isinstance -/
section
variable {X : Cx} {pins : List (Addr × Obj)} {σ : St} {H : Hp} {s : Shared} {A : Around} {E : Value → Shared → Prop} {Q : Value → Shared → Prop} {c : Value} {b : Bool}
/-- the type of a value, as the fragment's deciders take it; for an instance its class -/
inductive TyOf (K : PySem.W.Frag) (H : Hp) : V → Value → Prop where
  | non : TyOf K H .non (.type "NoneType")
  | bl (x : Bool) : TyOf K H (.bl x) (.type "bool")
  | int (i : Int) : TyOf K H (.int i) (.type "int")
  | str (x : Str) : TyOf K H (.str x) (.type "str")
  | flt (x : UInt64) : TyOf K H (.flt x) (.type "float")
  | lst {a : Addr} {xs : List V} (e : H a = some (.lst xs)) : TyOf K H (.ref a) (.type "list")
  | frz {a : Addr} {o : Obj} {xs : List V} (e : H a = some (.frz o (.lst xs))) : TyOf K H (.ref a) (.type "list")
  | tup {a : Addr} {xs : List V} (e : H a = some (.tup xs)) : TyOf K H (.ref a) (.type "tuple")
  | dK {a : Addr} {kvs : List (Key × V)} (e : H a = some (.dK kvs)) : TyOf K H (.ref a) (.type "dict")
  | dT {a : Addr} {kvs : List (List Key × V)} (e : H a = some (.dT kvs)) : TyOf K H (.ref a) (.type "dict")
  | ins {a C dx : Addr} {fs : List (Str × V)} (e : H a = some (.ins C dx fs)) (cl : Cls K C) (ha : PySem.W.findIn K (.ref C) "__class__" = some (some (.builtin "object.__class__")))
      (hn : PySem.W.specialIn K (.builtin "object.__class__") "__get__" = some (some (.builtin "getset_descriptor.__get__"))) (htk : PySem.W.takesIn K (.builtin "object.__class__") = some true)
      (hm : PySem.W.mroIn K C (.type "object") = some true) : TyOf K H (.ref a) (.ref C)
/-- isinstance(x, c) for one class c, a built-in or an own one: kitOne's answer -/
theorem isinst_ok {x : V} {u t : Value} (I : Inv X pins σ H s) (rx : RelV x u) (ty : TyOf X.K H x t) (e : PySem.W.kitOne X.K t c = some b) (h : ∀ tk, Q (.bool b) { s with toks := tk }) :
    wpAny (model X.prog X.w) A (call (.builtin "isinstance") [u, c]) Q E s := by
  cases ty with
  | non => cases (show u = Value.none from rx); exact PySem.W.kia_one PySem.W.kitx_none I.kIn True.intro e (fun z => nomatch z) h
  | bl y => cases (show u = Value.bool y from rx); exact PySem.W.kia_one PySem.W.kitx_bool I.kIn True.intro e (fun z => nomatch z) h
  | int i => obtain ⟨t, q⟩ := (show ∃ t, u = Value.int i t from rx); cases q; exact PySem.W.kia_one PySem.W.kitx_int I.kIn True.intro e (fun z => nomatch z) h
  | str y => obtain ⟨t, q⟩ := (show ∃ t, u = Value.str y t from rx); cases q; exact PySem.W.kia_one PySem.W.kitx_str I.kIn True.intro e (fun z => nomatch z) h
  | flt y => obtain ⟨t, q⟩ := (show ∃ t, u = Value.float y t from rx); cases q; exact PySem.W.kia_one PySem.W.kitx_float I.kIn True.intro e (fun z => nomatch z) h
  | @lst a xs ea =>
    cases (show u = Value.ref a from rx)
    obtain ⟨_, _, n, _, h1⟩ := (show ObjOk X.prog X.w H s.heap a (.lst xs) from I.hok a _ ea)
    exact PySem.W.kia_one PySem.W.kitx_list I.kIn ⟨_, h1, rfl⟩ e (fun z => nomatch z) h
  | @frz a ob xs ea =>
    cases (show u = Value.ref a from rx)
    obtain ⟨_, _, _, n, _, h1⟩ := (show ObjOk X.prog X.w H s.heap a (.frz ob (.lst xs)) from I.hok a _ ea)
    exact PySem.W.kia_one PySem.W.kitx_list I.kIn ⟨_, h1, rfl⟩ e (fun z => nomatch z) h
  | @tup a xs ea =>
    cases (show u = Value.ref a from rx)
    obtain ⟨_, _, _, p⟩ := (show ObjOk X.prog X.w H s.heap a (.tup xs) from I.hok a _ ea)
    obtain ⟨o, h1, h2, _⟩ := p
    exact PySem.W.kia_one PySem.W.kitx_tuple I.kIn ⟨o, h1, h2⟩ e (fun z => nomatch z) h
  | @dK a kvs ea =>
    cases (show u = Value.ref a from rx)
    obtain ⟨_, _, vs, _, p⟩ := (show ObjOk X.prog X.w H s.heap a (.dK kvs) from I.hok a _ ea)
    obtain ⟨o, es, ep, h1, h2, _⟩ := p
    exact PySem.W.kia_one PySem.W.kitx_dict I.kIn ⟨o, h1, h2.1⟩ e (fun z => nomatch z) h
  | @dT a kvs ea =>
    cases (show u = Value.ref a from rx)
    obtain ⟨_, _, xs, _, o, es, ep, h1, h2, _⟩ := (show ObjOk X.prog X.w H s.heap a (.dT kvs) from I.hok a _ ea)
    exact PySem.W.kia_one PySem.W.kitx_dict I.kIn ⟨o, h1, h2.1⟩ e (fun z => nomatch z) h
  | @ins a C dx fs ea cl ha hn htk hm =>
    cases (show u = Value.ref a from rx)
    obtain ⟨mA, O, _⟩ := ins_get I.hok ea
    obtain ⟨od, J, _⟩ := O.look
    exact PySem.W.kia_one (PySem.W.kitx_own (cl.get _) cl.hd ha hn htk hm) I.kIn J e (fun z => nomatch z) h
end
end L2
namespace L2
open PySem PySem.Spec PyProof.Rows
/-! ### room -/
structure Room (k : Nat) (A : Around) : Prop where
  hd : A.handled = none
  dp : A.depth + 3 * k + 5 < recursionLimit
  un : A.units + 16 * k + 200 < cLine
theorem Room.mono {j k : Nat} {A : Around} (r : Room k A) (h : j ≤ k) : Room j A := ⟨r.hd, by have := r.dp; omega, by have := r.un; omega⟩
theorem Room.deeper {k : Nat} {A : Around} (r : Room (k + 1) A) (env : Env) : Room k (A.deeper env) :=
  ⟨r.hd, by have := r.dp; show A.depth + 1 + 3 * k + 5 < _; omega, by have := r.un; show A.units + 3 + 16 * k + 200 < _; omega⟩
theorem make_depth {A : Around} {C : Addr} {us : List Value} {kw : List (Str × Value)} : (A.under (.builtin "type.__call__" ⟨.ref C :: us, kw⟩)).depth = A.depth + 1 := by
  first | rfl | simp [Around.under, Code.weight, Code.isCreation, Code.isGuard, Code.isCaller, Code.frames, Code.isFrame, guardIds]
theorem make_units {A : Around} {C : Addr} {us : List Value} {kw : List (Str × Value)} : (A.under (.builtin "type.__call__" ⟨.ref C :: us, kw⟩)).units = A.units + 1 := by
  first | rfl | simp [Around.under, Code.cUnits, Code.frames, Code.isFrame]
theorem Room.make {k : Nat} {A : Around} (r : Room (k + 1) A) (C : Addr) (us : List Value) (kw : List (Str × Value)) : Room k (A.under (.builtin "type.__call__" ⟨.ref C :: us, kw⟩)) :=
  ⟨r.hd, by have := r.dp; rw [make_depth]; omega, by have := r.un; rw [make_units]; omega⟩
theorem Room.depth {k : Nat} {A : Around} (r : Room k A) : A.depth < recursionLimit := by have := r.dp; omega
theorem Room.units {k : Nat} {A : Around} (r : Room k A) : A.units + 64 < cLine := by have := r.un; omega
/-! ### argument lists and displays -/
def tNil : TA := fun _ H Q => Q [] H
def tCons (ta : TE) (tr : TA) : TA := fun σ H Q => ta σ H fun x H1 => tr σ H1 fun xs H2 => Q (x :: xs) H2
section
variable {X : Cx} {e : Expr} {es : List Expr} {te : TE} {t : TA} {pos : Pos}
theorem pa_nil : PA X [] tNil := fun _ _ _ _ H Q I h => Calls.spliced_nil ⟨[], H, I, .nil, h⟩
theorem pa_cons (ha : PE X e te) (hr : PA X es t) (hs : starEach (e :: es) X.env = (false, eval e X.env) :: starEach es X.env := by rfl) : PA X (e :: es) (tCons te t) := by
  intro pos pins s σ H Q I h
  rw [hs]
  show wpAny _ _ (spliced ((false, eval e X.env) :: backTo pos (starEach es X.env))) _ _ s
  refine Calls.spliced_cons (thn (ha pins s σ H _ I h) fun u s1 ⟨x, H1, I1, r1, q1⟩ => ?_)
  exact thn (hr pos pins s1 σ H1 _ I1 q1) fun us s2 ⟨xs, H2, I2, r2, q2⟩ => ⟨x :: xs, H2, I2, .cons r1 r2, q2⟩
/-- a tuple, a list of written items -/
def tTup (t : TA) : TE := fun σ H Q => t σ H fun xs H1 => xs.length ≤ sizeLine ∧ ∀ p, H1 p = none → Q (.ref p) (upd H1 p (.tup xs))
def tLst (t : TA) : TE := fun σ H Q => t σ H fun xs H1 => xs.length ≤ sizeLine ∧ ∀ p, H1 p = none → Q (.ref p) (upd H1 p (.lst xs))
theorem pe_tup {x1} (h : PA X es t) : PE X (.Tuple es x1 pos) (tTup t) := by
  intro pins s σ H Q I hq
  refine wpAny_Tuple_spliced (thn (h pos pins s σ H _ I hq) fun us s1 ⟨xs, H1, I1, r, z, q⟩ => ⟨by rw [← r.length]; exact z, ?_⟩)
  have hf : H1 s1.heap.objs.size = none := I1.hok.fresh (Nat.le_refl _)
  refine ⟨.ref s1.heap.objs.size, upd H1 s1.heap.objs.size (.tup xs), I1.laid (t' := s1.toks) (fun b u e => Heap.get?_push_of_some _ e) (Nat.le_refl _) ?_, rfl, q _ hf⟩
  exact ⟨z, us, r, ⟨_, Heap.get?_push_size _ rfl, rfl, _, rfl⟩⟩
theorem pe_lst (h : PA X es t) : PE X (.List es pos) (tLst t) := by
  intro pins s σ H Q I hq
  refine wpAny_List_spliced (thn (h pos pins s σ H _ I hq) fun us s1 ⟨xs, H1, I1, r, z, q⟩ => ⟨by rw [← r.length]; exact z, ?_⟩)
  have hf : H1 s1.heap.objs.size = none := I1.hok.fresh (Nat.le_refl _)
  refine ⟨.ref s1.heap.objs.size, upd H1 s1.heap.objs.size (.lst xs), I1.laid (t' := s1.toks) (fun b u e => Heap.get?_push_of_some _ e) (Nat.le_refl _) ?_, rfl, q _ hf⟩
  exact ⟨z, us, 0, r, Heap.get?_push_size _ rfl⟩
end
/-! ### what a def promises -/
/-- a def's promise: the bound arguments in the parameters' order, the heap, the wanted end, the wanted exception -/
abbrev Sp := List V → Hp → VK → XK → Prop
/-- how an exception lies behind a call (file 08 gives it): the callers' frames, abstract heap and state ahead of the call, the wish, the exception, the state -/
abbrev CXT := List Env → Hp → Shared → XK → Value → Shared → Prop
/-- the state at a call -/
structure Env0 (P : Program) (w : World) (K : PySem.W.Frag) (mg : Str → Option Value) (base : Heap) (A : Around) (outer : List Env) (s : Shared) (H : Hp) : Prop where
  frames : A.frames = some outer
  mod : Mod K mg base
  bs : ∀ b o, base.get? b = some o → s.heap.get? b = some o ∧ H b = none
  bsz : base.objs.size ≤ s.heap.objs.size
  funs : s.heap.FunFrames base outer
  frf : ∀ b ∈ frs outer, H b = none
  hok : HOk P w H s.heap
  bare : AllBare s.gens
/-- a call's end -/
def CE (outer : List Env) (P : Program) (w : World) (H : Hp) (s : Shared) (Q : VK) (u : Value) (s' : Shared) : Prop :=
  ∃ v H', s'.os = s.os ∧ AllBare s'.gens ∧ Un (frs outer) [] H H' s.heap s'.heap ∧ HOk P w H' s'.heap ∧ RelV v u ∧ Q v H'
def CR (CX : CXT) (outer : List Env) (P : Program) (w : World) (H : Hp) (s : Shared) (Q : VK) (E : XK) (r : Result) (s' : Shared) : Prop :=
  match r with
  | .ok (.ret u) => CE outer P w H s Q u s'
  | .ok _ => False
  | .error e => CX outer H s E e s'
structure FnOk (P : Program) (w : World) (K : PySem.W.Frag) (mg : Str → Option Value) (base : Heap) (CX : CXT) (k : Nat) (f : Addr) (fd : FuncData) (ps : List Str) (sp : Sp) : Prop where
  len : ∀ vs H Q E, sp vs H Q E → vs.length = ps.length
  run : ∀ (A : Around) (outer : List Env) (s : Shared) (H : Hp) (args : Args) (us : List Value) (vs : List V) (Q : VK) (E : XK), Room k A → Env0 P w K mg base A outer s H → BindsTo s fd args (ps.zip us) → Vals vs us → sp vs H Q E →
    codeAny (model P w) A (.call (.ref f) args) (CR CX outer P w H s Q E) s
theorem FnOk.mono {P : Program} {w : World} {K : PySem.W.Frag} {mg : Str → Option Value} {base : Heap} {CX : CXT} {j k : Nat} {f : Addr} {fd : FuncData} {ps : List Str} {sp : Sp} (F : FnOk P w K mg base CX j f fd ps sp) (h : j ≤ k) :
    FnOk P w K mg base CX k f fd ps sp := ⟨F.len, fun A outer s H args us vs Q E hr => F.run A outer s H args us vs Q E (hr.mono h)⟩
/-- a weaker promise -/
theorem FnOk.imp {P : Program} {w : World} {K : PySem.W.Frag} {mg : Str → Option Value} {base : Heap} {CX : CXT} {k : Nat} {f : Addr} {fd : FuncData} {ps : List Str} {sp sp' : Sp} (F : FnOk P w K mg base CX k f fd ps sp)
    (h : ∀ vs H Q E, sp' vs H Q E → sp vs H Q E) : FnOk P w K mg base CX k f fd ps sp' :=
  ⟨fun vs H Q E q => F.len vs H Q E (h _ _ _ _ q), fun A outer s H args us vs Q E hr he hb hv hs => F.run A outer s H args us vs Q E hr he hb hv (h _ _ _ _ hs)⟩
theorem Env0.make {P : Program} {w : World} {K : PySem.W.Frag} {mg : Str → Option Value} {base : Heap} {A : Around} {outer : List Env} {s : Shared} {H : Hp} (e : Env0 P w K mg base A outer s H) (C : Addr) (us : List Value) (kw : List (Str × Value)) :
    Env0 P w K mg base (A.under (.builtin "type.__call__" ⟨.ref C :: us, kw⟩)) outer s H := ⟨by first | exact e.frames | (simpa [Around.under, Code.envs, Code.isFrame, pushEnvs] using e.frames), e.mod, e.bs, e.bsz, e.funs, e.frf, e.hok, e.bare⟩
section
variable {X : Cx} {pins : List (Addr × Obj)} {σ : St} {H : Hp} {s s' : Shared}
/-- from a body: what a callee wants -/
theorem Inv.env0 (I : Inv X pins σ H s) : Env0 X.prog X.w X.K X.mg X.base X.A X.stack s H :=
  ⟨I.ok.frames, I.ok.mod, I.bs, Nat.le_trans I.ok.bsz I.sz, I.stack, I.stkFree, I.hok, I.bare⟩
/-- behind a call -/
theorem Inv.after {Q : VK} {u : Value} (I : Inv X pins σ H s) (h : CE X.stack X.prog X.w H s Q u s') : EP X pins σ Q u s' := by
  obtain ⟨v, H', os, bare, un, hok, r, q⟩ := h
  obtain ⟨hh, g, d, t, os'⟩ := s'
  obtain rfl : os' = s.os := os
  exact ⟨v, H', I.call (h' := hh) (g' := g) (d' := d) (t' := t) (ch := []) un hok bare (fun b z => absurd z (by simp)), r, q⟩
end
/-! ### calls -/
/-- f(..): the written arguments, then the defaults dvs; E: what is wanted of an exception -/
def tCall (sp : Sp) (dvs : List V) (E : XK) (t : TA) : TE := fun σ H Q => t σ H fun vs H1 => sp (vs ++ dvs) H1 Q E
/-- o.m(..) of an instance of the class at C -/
def tMeth (C : Addr) (m : Str) (sp : Sp) (dvs : List V) (E : XK) (ta : TE) (t : TA) : TE := fun σ H Q => ta σ H fun x H1 => ∃ a dx fs, x = .ref a ∧ H1 a = some (.ins C dx fs) ∧ fs.lookup m = none ∧
  t σ H1 fun vs H2 => sp (x :: (vs ++ dvs)) H2 Q E
/-- C(..): a new instance and its dict, then __init__ -/
def tMake (C : Addr) (sp : Sp) (dvs : List V) (E : XK) (t : TA) : TE := fun σ H Q => t σ H fun vs H1 => ∀ x dx, H1 x = none → H1 dx = none → dx ≠ x →
  sp (.ref x :: (vs ++ dvs)) (upd (upd H1 dx (.own x)) x (.ins C dx [])) (fun v H2 => v = .non ∧ Q (.ref x) H2) E
/-- how the parameters are bound: us the positional arguments, kw the keywords' values by name, ds the defaults that fill up -/
def Binds (K : PySem.W.Frag) (fd : FuncData) (ps : List Str) (ds : List Value) : Prop :=
  ∀ (s : Shared) (us : List Value), K.In s.heap → (us ++ ds).length = ps.length → BindsTo s fd ⟨us, []⟩ (ps.zip (us ++ ds))
/-- every parameter is given -/
theorem Binds.all {K : PySem.W.Frag} {fd : FuncData} {ps : List Str} (h : ∀ us : List Value, us.length = ps.length → bindArgs fd ⟨us, []⟩ = pure (ps.zip us)) : Binds K fd ps [] := fun s us _ hl => by
  rw [List.append_nil] at hl ⊢
  exact .of_eq (h us hl)
/-- an exception of a callee reaches what this body wants of exceptions -/
def Passes (CX : CXT) (X : Cx) (E : XK) : Prop := ∀ (pins : List (Addr × Obj)) (σ : St) (H : Hp) (s : Shared) (e : Value) (s' : Shared), Inv X pins σ H s → CX X.stack H s E e s' → X.xe e s'
section
variable {X : Cx} {CX : CXT} {k : Nat} {f C : Addr} {fd : FuncData} {ps : List Str} {sp : Sp} {dvs : List V} {ds : List Value} {E : XK} {x m : Str} {p pos apos : Pos} {e o : Expr} {es : List Expr} {ta : TE} {t : TA}
/-- the callee runs -/
theorem run_fn {pins : List (Addr × Obj)} {σ : St} {H : Hp} {s : Shared} {Q : VK} {us : List Value} {vs : List V} (F : FnOk X.prog X.w X.K X.mg X.base CX k f fd ps sp) (hr : Room k X.A) (hb : Binds X.K fd ps ds) (hd : Vals dvs ds) (hx : Passes CX X E)
    (I : Inv X pins σ H s) (r : Vals vs us) (h : sp (vs ++ dvs) H Q E) : wpAny (model X.prog X.w) X.A (call (.ref f) us) (EP X pins σ Q) X.xe s := by
  have r2 : Vals (vs ++ dvs) (us ++ ds) := r.append hd
  have hl : (us ++ ds).length = ps.length := by rw [← r2.length]; exact F.len _ _ _ _ h
  refine wpAny_call (codeAny_mono (F.run X.A X.stack s H ⟨us, []⟩ (us ++ ds) (vs ++ dvs) Q E hr I.env0 (hb s us I.kIn hl) r2 h) fun r s' hq => ?_)
  cases r with
  | error e => exact hx pins σ H s e s' I hq
  | ok fl =>
    cases fl with
    | ret u => exact I.after hq
    | next => exact False.elim hq
    | brk => exact False.elim hq
    | cont => exact False.elim hq
theorem pe_call (F : FnOk X.prog X.w X.K X.mg X.base CX k f fd ps sp) (hr : Room k X.A) (hg : Gl X x) (hm : X.mg x = some (.ref f)) (hk : PySem.W.keepIn X.K (.ref f) = true) (hb : Binds X.K fd ps ds) (hd : Vals dvs ds) (hx : Passes CX X E)
    (ha : PA X (e :: es) t) (hdb : (x == ("__debug__" : Str)) = false := by decide) (he : starEach (e :: es) X.env = (false, eval e X.env) :: starEach es X.env := by rfl) (hpl : (backTo pos (starEach es X.env)).any (·.1) = false := by rfl) :
    PE X (.Call (.Name x p) (e :: es) [] pos) (tCall sp dvs E t) := by
  intro pins s σ H Q I h
  refine wpAny_Call_Name_kw (ld_glob I hg hm ?_ hdb)
  refine PySem.W.callWith_K (h₀ := X.base) I.ok.mod.kin hk (thn (ha pos pins s σ H _ I h) fun us s1 ⟨vs, H1, I1, r, q⟩ => ⟨I1.kIn, ?_⟩) he hpl
  exact run_fn F hr hb hd hx I1 r q
/-- o.m(e, ..) -/
theorem pe_meth {pl : Sem Bool} (he : PE X o ta) (c : Cls X.K C) (hm : Meth X.K C m f) (F : FnOk X.prog X.w X.K X.mg X.base CX k f fd ps sp) (hr : Room k X.A) (hb : Binds X.K fd ps ds) (hd : Vals dvs ds) (hx : Passes CX X E) (ha : PA X (e :: es) t)
    (hst : starEach (e :: es) X.env = (false, eval e X.env) :: starEach es X.env := by rfl) (hpl : (backTo pos (starEach es X.env)).any (·.1) = false := by rfl)
    (ht : eval (.Call (.Attribute o m apos) (e :: es) [] pos) X.env = (do
      let ov ← eval o X.env
      standAt apos.atName
      let (f, first) ← holding [ov] (getMethod ov m pl)
      callWith pos f first (backTo pos (starEach (e :: es) X.env)) (backToKw pos (keywordEach [] X.env))) := by rfl) :
    PE X (.Call (.Attribute o m apos) (e :: es) [] pos) (tMeth C m sp dvs E ta t) := by
  intro pins s σ H Q I h
  refine PySem.W.methodCall_KW (pl := pl) (thn (he pins s σ H _ I h) fun u s1 ⟨x, H1, I1, rx, a, dx, fs, ex, ea, l, q⟩ => ?_) ht
  subst ex
  obtain rfl : u = Value.ref a := rx
  refine getmeth_ok I1 ea c hm l ?_
  refine PySem.W.callWith_K (first := [.ref a]) (h₀ := X.base) I.ok.mod.kin hm.kp (thn (ha pos pins s1 σ H1 _ I1 q) fun us s2 ⟨vs, H2, I2, r, q2⟩ => ⟨I2.kIn, ?_⟩) hst hpl
  exact run_fn (us := .ref a :: us) (vs := .ref a :: vs) F hr hb hd hx I2 (.cons rfl r) q2
/-- o.m() -/
theorem pe_meth0 {pl : Sem Bool} (he : PE X o ta) (c : Cls X.K C) (hm : Meth X.K C m f) (F : FnOk X.prog X.w X.K X.mg X.base CX k f fd ps sp) (hr : Room k X.A) (hb : Binds X.K fd ps ds) (hd : Vals dvs ds) (hx : Passes CX X E)
    (ht : eval (.Call (.Attribute o m apos) [] [] pos) X.env = (do
      let ov ← eval o X.env
      standAt apos.atName
      let (f, first) ← holding [ov] (getMethod ov m pl)
      callWith pos f first (backTo pos (starEach [] X.env)) (backToKw pos (keywordEach [] X.env))) := by rfl) :
    PE X (.Call (.Attribute o m apos) [] [] pos) (tMeth C m sp dvs E ta tNil) := by
  intro pins s σ H Q I h
  refine PySem.W.methodCall_KW (pl := pl) (thn (he pins s σ H _ I h) fun u s1 ⟨x, H1, I1, rx, a, dx, fs, ex, ea, l, q⟩ => ?_) ht
  subst ex
  obtain rfl : u = Value.ref a := rx
  refine getmeth_ok I1 ea c hm l ?_
  exact PySem.W.callWith_K0 (first := [.ref a]) I1.kIn hm.kp (run_fn (us := [.ref a]) (vs := [.ref a]) F hr hb hd hx I1 (.cons rfl .nil) q)
/-- what a class must have to be made -/
structure Mk (K : PySem.W.Frag) (C f : Addr) : Prop where
  makes : PySem.W.makesIn K C = true
  init : PySem.W.findIn K (.ref C) "__init__" = some (some (.ref f))
  fn : PySem.W.isFn K (.ref f) = true
  kp : PySem.W.keepIn K (.ref C) = true
theorem run_make {pins : List (Addr × Obj)} {σ : St} {H : Hp} {s : Shared} {Q : VK} {us : List Value} {vs : List V} (M : Mk X.K C f) (F : FnOk X.prog X.w X.K X.mg X.base CX k f fd ps sp) (hr : Room (k + 1) X.A) (hb : Binds X.K fd ps ds) (hd : Vals dvs ds)
    (hx : Passes CX X E) (I : Inv X pins σ H s) (r : Vals vs us)
    (h : ∀ x dx, H x = none → H dx = none → dx ≠ x → sp (.ref x :: (vs ++ dvs)) (upd (upd H dx (.own x)) x (.ins C dx [])) (fun v H2 => v = .non ∧ Q (.ref x) H2) E) :
    wpAny (model X.prog X.w) X.A (call (.ref C) us) (EP X pins σ Q) X.xe s := by
  have hq := h (s.heap.objs.size + 1) s.heap.objs.size (I.hok.fresh (Nat.le_succ _)) (I.hok.fresh (Nat.le_refl _)) (Nat.ne_of_lt (Nat.lt_succ_self _))
  have I2 := Inv.made (C := C) I
  have r2 : Vals (V.ref (s.heap.objs.size + 1) :: (vs ++ dvs)) (Value.ref (s.heap.objs.size + 1) :: (us ++ ds)) := .cons rfl (r.append hd)
  have hl : (Value.ref (s.heap.objs.size + 1) :: us ++ ds).length = ps.length := by
    have e := r2.length
    rw [F.len _ _ _ _ hq] at e
    exact e.symm
  refine wpAny_call (make_map (f := f) I.kIn M.makes M.init (beq_iff_eq.mp M.fn) (codeAny_mono (F.run _ X.stack _ _ ⟨Value.ref (s.heap.objs.size + 1) :: us, []⟩ (Value.ref (s.heap.objs.size + 1) :: (us ++ ds)) _ _ E (hr.make C us [])
    (I2.env0.make C us []) (hb _ (Value.ref (s.heap.objs.size + 1) :: us) I2.kIn hl) r2 hq) fun r s' hq' => ?_))
  cases r with
  | error e => exact hx pins σ _ _ e s' I2 hq'
  | ok fl =>
    cases fl with
    | ret u =>
      obtain ⟨v, H', I3, rv, ev, q3⟩ := I2.after hq'
      subst ev
      exact ⟨rv, ⟨V.ref (s.heap.objs.size + 1), H', I3, rfl, q3⟩⟩
    | next => exact False.elim hq'
    | brk => exact False.elim hq'
    | cont => exact False.elim hq'
theorem pe_make (M : Mk X.K C f) (F : FnOk X.prog X.w X.K X.mg X.base CX k f fd ps sp) (hr : Room (k + 1) X.A) (hg : Gl X x) (hm : X.mg x = some (.ref C)) (hb : Binds X.K fd ps ds) (hd : Vals dvs ds) (hx : Passes CX X E)
    (ha : PA X (e :: es) t) (hdb : (x == ("__debug__" : Str)) = false := by decide) (he : starEach (e :: es) X.env = (false, eval e X.env) :: starEach es X.env := by rfl) (hpl : (backTo pos (starEach es X.env)).any (·.1) = false := by rfl) :
    PE X (.Call (.Name x p) (e :: es) [] pos) (tMake C sp dvs E t) := by
  intro pins s σ H Q I h
  refine wpAny_Call_Name_kw (ld_glob I hg hm ?_ hdb)
  refine PySem.W.callWith_K (h₀ := X.base) I.ok.mod.kin M.kp (thn (ha pos pins s σ H _ I h) fun us s1 ⟨vs, H1, I1, r, q⟩ => ⟨I1.kIn, ?_⟩) he hpl
  exact run_make M F hr hb hd hx I1 r q
end
/-! ### keywords -/
section
variable {X : Cx} {CX : CXT} {k : Nat} {f C : Addr} {fd : FuncData} {ps ks : List Str} {sp : Sp} {E : XK} {x m : Str} {p pos apos kpos : Pos} {e o : Expr} {es : List Expr} {kws : List Keyword} {te ta : TE} {t tk : TA} {nm : Option Str}
variable {g : List Value → List Value → List Value} {gV : List V → List V → List V}
end
/-! ### a def's body keeps its promise -/
/-- names: the parameters first -/
structure FnScope (N P : List Str) (sc : Scope) : Prop where
  kind : sc.kind = .function
  co : sc.isCoroutine = false
  gen : sc.isGenerator = false
  nd : N.Nodup
  pre : N.take P.length = P
  par : ∀ x ∈ P, sc.names.lookup x = some .local ∨ sc.names.lookup x = some .cell
  nofree : ∀ y ∈ sc.names, y.2 ≠ .free
theorem bindL_out {kindOf : Str → Option NameKind} {x : Str} : ∀ {binds : List (Str × Value)} {m : Str → Option Value}, (∀ v, (x, v) ∉ binds) → bindL kindOf binds m x = m x
  | [], _, _ => rfl
  | (n, v) :: r, m, h => by
    unfold bindL
    rw [bindL_out fun w hw => h w (List.mem_cons_of_mem _ hw)]
    split
    · have : x ≠ n := by rintro rfl; exact h v List.mem_cons_self
      simp [this]
    · rfl
theorem bindC_out {kindOf : Str → Option NameKind} {x : Str} : ∀ {binds : List (Str × Value)} {m : Str → Option Value}, (∀ v, (x, v) ∉ binds) → bindC kindOf binds m x = m x
  | [], _, _ => rfl
  | (n, v) :: r, m, h => by
    unfold bindC
    rw [bindC_out fun w hw => h w (List.mem_cons_of_mem _ hw)]
    split
    · rfl
    · have : x ≠ n := by rintro rfl; exact h v List.mem_cons_self
      simp [this]
theorem bindL_get {kindOf : Str → Option NameKind} {x : Str} {v : Value} : ∀ {P : List Str} {vs : List Value} {i : Nat} {m : Str → Option Value}, P.Nodup → P[i]? = some x → vs[i]? = some v → kindOf x = some .local →
    bindL kindOf (P.zip vs) m x = some v
  | [], _, _, _, _, h, _, _ => by simp at h
  | _ :: _, [], _, _, _, _, h, _ => by simp at h
  | p :: P, w :: vs, 0, m, nd, h1, h2, hk => by
    simp at h1 h2; subst h1; subst h2
    show bindL kindOf ((p, w) :: P.zip vs) m p = _
    unfold bindL
    rw [bindL_out fun v hv => (List.nodup_cons.mp nd).1 (List.of_mem_zip hv).1, if_pos hk]
    simp
  | p :: P, w :: vs, i + 1, m, nd, h1, h2, hk => by
    show bindL kindOf ((p, w) :: P.zip vs) m x = _
    unfold bindL
    exact bindL_get (i := i) (List.nodup_cons.mp nd).2 (by simpa using h1) (by simpa using h2) hk
theorem bindC_get {kindOf : Str → Option NameKind} {x : Str} {v : Value} : ∀ {P : List Str} {vs : List Value} {i : Nat} {m : Str → Option Value}, P.Nodup → P[i]? = some x → vs[i]? = some v → kindOf x ≠ some .local →
    bindC kindOf (P.zip vs) m x = some v
  | [], _, _, _, _, h, _, _ => by simp at h
  | _ :: _, [], _, _, _, _, h, _ => by simp at h
  | p :: P, w :: vs, 0, m, nd, h1, h2, hk => by
    simp at h1 h2; subst h1; subst h2
    show bindC kindOf ((p, w) :: P.zip vs) m p = _
    unfold bindC
    rw [bindC_out fun v hv => (List.nodup_cons.mp nd).1 (List.of_mem_zip hv).1, if_neg hk]
    simp
  | p :: P, w :: vs, i + 1, m, nd, h1, h2, hk => by
    show bindC kindOf ((p, w) :: P.zip vs) m x = _
    unfold bindC
    exact bindC_get (i := i) (List.nodup_cons.mp nd).2 (by simpa using h1) (by simpa using h2) hk
/-- the names' values at the entry -/
def start (N : List Str) (vs : List V) : St := vs.map some ++ List.replicate (N.length - vs.length) none
/-- the context of a def's body, at its entry; an exception leaves the frame, then lies as CX says -/
def cxOf (CX : CXT) (P : Program) (w : World) (K : PySem.W.Frag) (mg : Str → Option Value) (base : Heap) (N : List Str) (qual : Str) (scope : Scope) (f : Addr) (cd : Value) (A : Around) (outer : List Env) (s : Shared) (H : Hp) (E : XK) : Cx where
  prog := P
  w := w
  K := K
  mg := mg
  base := base
  A := A.deeper (envOfC qual scope s.heap.objs.size f cd)
  N := N
  s₀ := s
  H₀ := H
  env := envOfC qual scope s.heap.objs.size f cd
  outer := outer
  stack := envOfC qual scope s.heap.objs.size f cd :: outer
  ex := []
  calm := true
  fn := fun _ => true
  pn := []
  xe := fun e s' => wpAny (model P w) (A.deeper (envOfC qual scope s.heap.objs.size f cd)) (leaving (envOfC qual scope s.heap.objs.size f cd) e) (fun _ s'' => CX outer H s E e s'') (fun e' s'' => CX outer H s E e' s'') s'
theorem cell_has {sc : Scope} {n : Nat} {x : Str} (h : sc.names.lookup x = some .cell) : ∃ c, (cellsFrom n sc.names []).lookup x = some c := by
  have q := PySem.W.cellsFrom_some sc.names n [] (.inl h)
  exact Option.isSome_iff_exists.mp q
theorem inv_start {CX : CXT} {P : Program} {w : World} {K : PySem.W.Frag} {mg : Str → Option Value} {base : Heap} {N ps : List Str} {qual : Str} {scope : Scope} {f : Addr} {cd : Value} {A : Around} {outer : List Env} {s s1 : Shared} {H : Hp} {E : XK} {us : List Value} {vs : List V}
    (S : FnScope N ps scope) (hd : A.handled = none) (e0 : Env0 P w K mg base A outer s H) (hl : vs.length = ps.length) (r : Vals vs us)
    (x : InCallC s s.heap.objs.size (bindL (envOfC qual scope s.heap.objs.size f cd).kindOf (ps.zip us) fun _ => none) (cellsFrom (s.heap.objs.size + 1) scope.names []) (bindC (envOfC qual scope s.heap.objs.size f cd).kindOf (ps.zip us) fun _ => none) s1) :
    Inv (cxOf CX P w K mg base N qual scope f cd A outer s H E) [] (start N vs) H s1 := by
  have hpl : ps.length ≤ N.length := by have := congrArg List.length S.pre; rw [List.length_take] at this; omega
  obtain ⟨h1, tk, rfl, hk⟩ := x.done
  have noA : ∀ b : Addr, b ∉ (cxOf CX P w K mg base N qual scope f cd A outer s H E).ex := fun b z => absurd (show b ∈ ([] : List Addr) from z) (by simp)
  refine ⟨⟨e0.mod, S.kind, rfl, rfl, Nat.le_refl _, fun y z c h1 h2 => ?_, fun y hy => ?_, fun y c _ h => ?_, fun _ => hd, Around.frames_deeper e0.frames, .inr ⟨rfl, rfl⟩, fun b z => absurd z (noA b), e0.bs, e0.bsz, fun b _ _ => noA b, fun b z => absurd z (noA b), e0.funs, e0.frf⟩,
    rfl, e0.bare, Un.kept hk, ⟨_, x.toInCall.ns, fun i y v h1 h2 h3 => ?_⟩, fun y c h => ⟨_, x.cell y c h⟩, e0.hok.fresh (Nat.le_refl _), fun y c h => ?_, fun p hp => absurd (show p ∈ ([] : List (Addr × Obj)) from hp) (by simp), e0.hok.kept hk, ?_⟩
  · exact name_of_addr x.apart (PySem.mem_of_lookup h1) (PySem.mem_of_lookup h2)
  · have hy : scope.names.lookup y = some .cell ∨ scope.names.lookup y = some .free := hy
    rcases hy with hy | hy
    · exact cell_has hy
    · exact absurd rfl (S.nofree _ (PySem.mem_of_lookup hy))
  · exact Nat.le_of_lt (x.above y c (PySem.mem_of_lookup h))
  · have hi : i < vs.length := by
      unfold start at h2
      by_cases hi : i < vs.length
      · exact hi
      · rw [List.getElem?_append_right (by simpa using hi)] at h2
        rw [List.getElem?_replicate] at h2
        split at h2 <;> cases h2
    have ha : vs[i]? = some v := by
      unfold start at h2
      rw [List.getElem?_append_left (by simpa using hi), List.getElem?_map] at h2
      cases e : vs[i]? with
      | none => rw [e] at h2; cases h2
      | some a => rw [e] at h2; cases h2; rfl
    obtain ⟨u, hu, rv⟩ := r.get ha
    have hp : ps[i]? = some y := by
      rw [← S.pre, List.getElem?_take_of_lt (by omega)]; exact h1
    have ndP : ps.Nodup := by rw [← S.pre]; exact S.nd.sublist (List.take_sublist _ _)
    refine ⟨u, rv, ?_⟩
    rcases S.par y (List.mem_of_getElem? hp) with k | k
    · exact .inl ⟨k, bindL_get ndP hp hu k⟩
    · obtain ⟨c, e⟩ := cell_has (n := s.heap.objs.size + 1) k
      refine .inr ⟨.inl k, c, e, ?_⟩
      have q := x.cell y c e
      rw [bindC_get ndP hp hu (by show scope.names.lookup y ≠ _; rw [k]; decide)] at q
      exact q
  · exact e0.hok.fresh (Nat.le_of_lt (x.above y c (PySem.mem_of_lookup h)))
  · unfold start
    show _ = N.length
    rw [List.length_append, List.length_map, List.length_replicate]
    omega
/-- THE RULE: a def (or a method) of the text, by its body. The body's reading t is chosen for each entry; it is run at the parameters' values -/
theorem fn_of {CX : CXT} {P : Program} {w : World} {K : PySem.W.Frag} {mg : Str → Option Value} {base : Heap} {k : Nat} {f : Addr} {name qual : Str} {params : Arguments} {body : List Stmt} {scope : Scope} {dV kV doc pm cdv ct oc : Value} {an od : Option Addr}
    {osl : Array (Option Value)} {N ps : List Str} {sp : Sp} (lk : K.lookup f = some ⟨oc, od, .func (PySem.W.fnOf name qual params body scope dV kV doc pm an cdv ct), osl⟩) (hcd : PySem.W.codeIn K cdv qual = true) (S : FnScope N ps scope)
    (len : ∀ vs H Q E, sp vs H Q E → vs.length = ps.length)
    (hbody : ∀ (A : Around) (outer : List Env) (s : Shared) (H : Hp) (vs : List V) (Q : VK) (E : XK), Room k (A.deeper (envOfC qual scope s.heap.objs.size f cdv)) → sp vs H Q E →
      ∃ t, PSs (cxOf CX P w K mg base N qual scope f cdv A outer s H E) body t ∧ t { nx := fun _ H' => Q .non H', rt := Q } (start N vs) H) :
    FnOk P w K mg base CX (k + 1) f (PySem.W.fnOf name qual params body scope dV kV doc pm an cdv ct) ps sp := by
  refine ⟨len, fun A outer s H args us vs Q E hr e0 hb r hsp => ?_⟩
  have hl := len _ _ _ _ hsp
  have KX : K.In s.heap := e0.mod.kin.keeps fun b o e => (e0.bs b o e).1
  have lim : s.heap.NoLimit := e0.mod.nolimit.keeps fun b o e => (e0.bs b o e).1
  have hkind : ∀ y ∈ ps.zip us, scope.names.lookup y.1 = some .local ∨ (scope.names.lookup y.1 = some .cell ∧ ((cellsFrom (s.heap.objs.size + 1) scope.names []).lookup y.1).isSome = true) := fun ⟨n, v⟩ hy => by
    rcases S.par n (List.of_mem_zip hy).1 with q | q
    · exact .inl q
    · exact .inr ⟨q, PySem.W.cellsFrom_some _ _ _ (.inl q)⟩
  refine codeAny_call_function hr.depth (KX _ _ lk) rfl S.co S.gen rfl (PySem.W.codeRec_of KX hcd) (hb _ _ _ _ ?_)
  refine wpAny_newFunctionEnv_cells S.kind hkind fun env he s1 x => ?_
  subst he
  refine ⟨lim.keeps x.toInCall.keep, codeAny_func ?_⟩
  obtain ⟨t, ht, hq⟩ := hbody A outer s H vs Q E (hr.deeper _) hsp
  have I : Inv (cxOf CX P w K mg base N qual scope f cdv A outer s H E) [] (start N vs) H s1 := inv_start S hr.hd e0 hl r x
  refine wpAny_mono (ht [] s1 (start N vs) H _ I hq) (fun fl s' hs => ?_) fun e s' hs => hs
  have fin : ∀ {σ' : St} {H' : Hp} {v : V} {u : Value}, Inv (cxOf CX P w K mg base N qual scope f cdv A outer s H E) [] σ' H' s' → RelV v u → Q v H' → CE outer P w H s Q u s' :=
    fun {σ' H' v u} J rv q => ⟨v, H', J.os, J.bare, J.base, J.hok, rv, q⟩
  cases fl with
  | ret u =>
    obtain ⟨v, σ', H', J, rv, q⟩ := hs
    exact fin J rv q
  | next =>
    obtain ⟨σ', H', J, q⟩ := hs
    exact fin (v := V.non) (u := Value.none) J rfl q
  | brk =>
    obtain ⟨_, _, _, q⟩ := hs
    exact False.elim q
  | cont =>
    obtain ⟨_, _, _, q⟩ := hs
    exact False.elim q
end L2
namespace L2
open PySem PySem.Spec PyProof.Rows
section
variable {X : Cx} {x : Str} {p pos : Pos} {e : Expr} {es : List Expr} {t : TA} {id T : String} {r : List V → Hp → VK → Prop}
def tCB (r : List V → Hp → VK → Prop) (t : TA) : TE := fun σ H Q => t σ H fun vs H1 => r vs H1 Q
/-- f(e, ..), f a built-in function -/
theorem pe_callB (hc : CallR X (.builtin id) r) (hg : Gl X x) (hm : X.mg x = none) (hv : bootBuiltins x = some (.builtin id)) (ha : PA X (e :: es) t) (hn : x ≠ "__name__" := by decide) (hdb : (x == ("__debug__" : Str)) = false := by decide)
    (he : starEach (e :: es) X.env = (false, eval e X.env) :: starEach es X.env := by rfl) (hpl : (backTo pos (starEach es X.env)).any (·.1) = false := by rfl) : PE X (.Call (.Name x p) (e :: es) [] pos) (tCB r t) := by
  intro pins s σ H Q I h
  refine wpAny_Call_Name_kw (ld_blt I hg hm hv ?_ hn hdb)
  exact PyProof.Rows.callWith_builtin1 (thn (ha pos pins s σ H _ I h) fun us s1 ⟨vs, H1, I1, r1, q1⟩ => hc pins s1 σ H1 vs us Q I1 r1 q1) he hpl
/-- T(e, ..), T a built-in type -/
theorem pe_callTy (hc : CallR X (.type T) r) (hg : Gl X x) (hm : X.mg x = none) (hv : bootBuiltins x = some (.type T)) (ha : PA X (e :: es) t) (hn : x ≠ "__name__" := by decide) (hdb : (x == ("__debug__" : Str)) = false := by decide)
    (he : starEach (e :: es) X.env = (false, eval e X.env) :: starEach es X.env := by rfl) (hpl : (backTo pos (starEach es X.env)).any (·.1) = false := by rfl) : PE X (.Call (.Name x p) (e :: es) [] pos) (tCB r t) := by
  intro pins s σ H Q I h
  refine wpAny_Call_Name_kw (ld_blt I hg hm hv ?_ hn hdb)
  exact PyProof.Rows.callWith_type1 (thn (ha pos pins s σ H _ I h) fun us s1 ⟨vs, H1, I1, r1, q1⟩ => hc pins s1 σ H1 vs us Q I1 r1 q1) he hpl
end
end L2
namespace HT
open PySem PyProof.Rows
section
open PySem.SeqAt
open PySem.AutoSeq1 (wpAny_loadPart')
open PySem.MeetsSeq PySem.MeetsSeq2 PySem.MeetsSeq3
end
section
variable {prog : Program} {w : World} {A : Around} {E : Value → Shared → Prop} {s : Shared}
/-- t + u, t not empty -/
theorem cat_tup {t b : Addr} {vs ws : List Value} {Q : Value → Shared → Prop} (ht : IsTup s.heap t vs.toArray) (hb : IsTup s.heap b ws.toArray) (hv : vs ≠ [])
    (h1 : ws = [] → Q (.ref t) s) (h2 : ws ≠ [] → Q (.ref s.heap.objs.size) { s with heap := s.heap.push { cls := .type "tuple", data := .seq (vs ++ ws).toArray } })
    (hsz : vs.length + ws.length ≤ sizeLine) : wpAny (model prog w) A (binaryOp .Add (.ref t) (.ref b)) Q E s := by
  obtain ⟨⟨cls, dd, data, sl⟩, ho, hc, n, hd⟩ := id ht
  obtain ⟨⟨cls2, dd2, data2, sl2⟩, ho2, hc2, n2, hd2⟩ := id hb
  simp only at hc hd hc2 hd2
  subst hc hd hc2 hd2
  have e : vs.toArray ++ ws.toArray = (vs ++ ws).toArray := by simp
  by_cases hw : ws = []
  · exact concat_meets ⟨_, ho, rfl⟩ ⟨_, ho2, rfl⟩ noFill_tuple_add seq_tuple_add PySem.F.slot_tuple_add PySem.F.entry_tuple_add (PySem.F.args_tuple_add_2 _ _)
      (tuple_addW1 t b vs.toArray ws.toArray n n2 dd dd2 sl sl2 (by simpa using hv) (by simp [hw])) ⟨ho, ho2, h1 hw⟩
  · refine concat_meets ⟨_, ho, rfl⟩ ⟨_, ho2, rfl⟩ noFill_tuple_add seq_tuple_add PySem.F.slot_tuple_add PySem.F.entry_tuple_add (PySem.F.args_tuple_add_2 _ _)
      (tuple_addW2 t b vs.toArray ws.toArray n n2 dd dd2 sl sl2 (by simpa using hv) (by simpa using hw) (by rw [List.size_toArray, List.size_toArray]; exact hsz)) ⟨ho, ho2, ?_⟩
    rw [e]
    exact h2 hw
/-! ### t[a:b], not the whole -/
/-- a slice's bound as a place among n (d where it is left out) -/
def sIx (n d : Nat) : Option Int → Nat
  | none => d
  | some v => if v < 0 then (v + (n : Int)).toNat else min v.toNat n
theorem sIx_none (n d : Nat) : sIx n d none = d := rfl
theorem sIx_nat (n d k : Nat) : sIx n d (some (k : Int)) = min k n := by
  show (if (k : Int) < 0 then ((k : Int) + (n : Int)).toNat else min (k : Int).toNat n) = min k n
  rw [if_neg (by omega), Int.toNat_natCast]
theorem sIx_le (n d : Nat) (hd : d ≤ n) (o : Option Int) : sIx n d o ≤ n := by
  cases o with
  | none => exact hd
  | some v =>
    show (if v < 0 then (v + (n : Int)).toNat else min v.toNat n) ≤ n
    by_cases hv : v < 0
    · rw [if_pos hv]; omega
    · rw [if_neg hv]; exact Nat.min_le_right _ _
theorem clip_eq (v : Int) (n d : Nat) : (if v < 0 then max (v + (n : Int)) 0 else min v (n : Int)) = ((sIx n d (some v) : Nat) : Int) := by
  show (if v < 0 then max (v + (n : Int)) 0 else min v (n : Int)) = (((if v < 0 then (v + (n : Int)).toNat else min v.toNat n) : Nat) : Int)
  by_cases hv : v < 0
  · simp only [if_pos hv]; omega
  · simp only [if_neg hv]; omega
theorem adjust_gen (lo hi : Option Int) (n : Nat) : Builtin.Slice.sliceAdjust lo hi 1 (n : Int) = (((sIx n 0 lo : Nat) : Int), ((sIx n n hi : Nat) : Int)) := by
  have h1 : ¬ ((1 : Int) < 0) := by omega
  unfold Builtin.Slice.sliceAdjust
  simp only [h1, if_false]
  refine Prod.ext ?_ ?_
  · cases lo with
    | none => rfl
    | some v => exact clip_eq v n 0
  · cases hi with
    | none => rfl
    | some v => exact clip_eq v n n
theorem places_gen (i j : Nat) : Builtin.Slice.slicePlaces (i : Int) (j : Int) 1 = j - i := by
  unfold Builtin.Slice.slicePlaces
  have h1 : (1 : Int) > 0 := by omega
  simp only [h1, if_true, Int.ediv_one]
  split <;> omega
theorem slicePart_ {v : Value} {o : Option Int} {Q : Option Int → Shared → Prop} (p : IsPart v o) (h : Q o s) : wpAny (model prog w) A (Builtin.Slice.slicePartIndex v) Q E s := by
  cases p with
  | none => exact slicePart_none h
  | int i t => exact slicePart_int h
theorem sliceApplied_gen {sl : Addr} {vl vu : Value} {lo hi : Option Int} {n : Nat} {Q : Int × Int × Nat → Shared → Prop} (hs : s.heap.IsSliceOf sl vl vu .none) (pl : IsPart vl lo) (pu : IsPart vu hi)
    (h : Q (((sIx n 0 lo : Nat) : Int), 1, sIx n n hi - sIx n 0 lo) s) : wpAny (model prog w) A (Builtin.Slice.sliceApplied (.ref sl) (pure (n : Int))) Q E s := by
  obtain ⟨os, hos, hcs, hds⟩ := id hs
  unfold Builtin.Slice.sliceApplied Builtin.Slice.sliceFields
  refine wpAny_bind (wpAny_bind (wpAny_field hos hds (x := vl) rfl (wpAny_bind (wpAny_field hos hds (x := vu) rfl (wpAny_bind (wpAny_field hos hds (x := .none) rfl (wpAny_pure ?_)))))))
  refine wpAny_bind (slicePart_none ?_)
  show wpAny _ _ (if ((1 : Int) == 0) = true then _ else _) _ _ s
  rw [if_neg (by decide)]
  refine wpAny_bind (slicePart_ pl (wpAny_bind (slicePart_ pu (wpAny_bind (wpAny_pure ?_)))))
  show wpAny _ _ (match Builtin.Slice.sliceAdjust lo hi 1 (n : Int) with | (lo, hi) => pure (lo, (1 : Int), Builtin.Slice.slicePlaces lo hi 1)) _ _ s
  rw [adjust_gen lo hi n]
  show wpAny _ _ (pure (((sIx n 0 lo : Nat) : Int), (1 : Int), Builtin.Slice.slicePlaces ((sIx n 0 lo : Nat) : Int) ((sIx n n hi : Nat) : Int) 1)) _ _ s
  rw [places_gen]
  exact wpAny_pure h
theorem pick_gen (xs : Array Value) (i k : Nat) : ((List.range k).filterMap fun (m : Nat) => xs[((i : Int) + (m : Int) * 1).toNat]?).toArray = ((xs.toList.drop i).take k).toArray := by
  have e : (fun (m : Nat) => xs[((i : Int) + (m : Int) * 1).toNat]?) = fun m => xs[i + m]? := by
    funext m
    have : ((i : Int) + (m : Int) * 1).toNat = i + m := by omega
    rw [this]
  rw [e]
  have := pick_run xs i k
  rw [List.filterMap_map] at this
  have e2 : ((fun x => xs[x]?) ∘ fun x => i + x) = fun m => xs[i + m]? := rfl
  rw [e2] at this
  rw [this]
theorem getItem_tuple_cut {t sl : Addr} {items : Array Value} {vl vu : Value} {lo hi : Option Int} {Q : Value → Shared → Prop} (ht : IsTup s.heap t items) (hs : s.heap.IsSliceOf sl vl vu .none) (pl : IsPart vl lo) (pu : IsPart vu hi)
    (hw : ¬ (sIx items.size 0 lo = 0 ∧ sIx items.size items.size hi = items.size))
    (h : Q (.ref s.heap.objs.size) { s with heap := s.heap.push { cls := .type "tuple", data := .seq ((items.toList.drop (sIx items.size 0 lo)).take (sIx items.size items.size hi - sIx items.size 0 lo)).toArray } })
    (hsz : items.size ≤ sizeLine) : wpAny (model prog w) A (getItem (.ref t) (.ref sl)) Q E s := by
  have htake : sizeOk (.seq ((items.toList.drop (sIx items.size 0 lo)).take (sIx items.size items.size hi - sIx items.size 0 lo)).toArray) := by
    show ((items.toList.drop (sIx items.size 0 lo)).take (sIx items.size items.size hi - sIx items.size 0 lo)).toArray.size ≤ sizeLine
    rw [List.size_toArray, List.length_take, List.length_drop, Array.length_toList]
    omega
  have hj : sIx items.size items.size hi ≤ items.size := sIx_le _ _ (Nat.le_refl _) hi
  obtain ⟨os, hos, hcs, hds⟩ := id hs
  have hTs : s.TypeIs (.ref sl) "slice" := ⟨os, hos, hcs⟩
  unfold getItem
  try with_reducible refine wpAny_holding ?_
  first | refine wpAny_bind (wpAny_pure ?_) | skip
  refine wpAny_bind (wpAny_sequenceKey ht.typeIs (by decide) ?_)
  refine wpAny_bind (wpAny_callSpecial?_slot (name := Str.ofString "__getitem__") ht.typeIs PyProof.Rows.slot_tuple_getitem
    (wpAny_call_entry PyProof.Rows.slot_tuple_getitem ht.typeIs entry_tuple_getitem ?_ (args_tuple_getitem _ _)))
  show wpAny _ _ (Builtin.Tuple.tupleItemsOf (.ref t) >>= _) _ _ s
  refine wpAny_bind (tupleItemsOf_ ht ?_)
  refine wpAny_bind (wpAny_typeOf hTs ?_)
  rw [if_pos (by decide)]
  refine wpAny_bind (sliceApplied_gen hs pl pu ?_)
  have hno : ¬ ((((sIx items.size 0 lo : Nat) : Int) == 0 && (1 : Int) == 1 && (sIx items.size items.size hi - sIx items.size 0 lo) == items.size) = true) := by
    intro q
    rw [Bool.and_eq_true, Bool.and_eq_true] at q
    have q1 : ((sIx items.size 0 lo : Nat) : Int) = 0 := eq_of_beq q.1.1
    have q2 : sIx items.size items.size hi - sIx items.size 0 lo = items.size := eq_of_beq q.2
    exact hw ⟨by omega, by omega⟩
  show wpAny _ _ (if (((sIx items.size 0 lo : Nat) : Int) == 0 && (1 : Int) == 1 && (sIx items.size items.size hi - sIx items.size 0 lo) == items.size) = true then _ else _) _ _ s
  rw [if_neg hno, pick_gen]
  first
    | exact wpAny_bind (m := Builtin.Tuple.tupleExact _) (wpAny_newObj_type (wpAny_pure ⟨_, rfl, wpAny_pure h⟩) htake)
    | exact wpAny_bind (m := Builtin.Tuple.tupleExact _) (wpAny_newObj_type (wpAny_bind (wpAny_pure (wpAny_pure ⟨_, rfl, wpAny_pure h⟩))) htake)
    | exact wpAny_bind (wpAny_bind (m := Builtin.Tuple.tupleExact _) (wpAny_newObj_type (wpAny_pure (wpAny_pure ⟨_, rfl, wpAny_pure h⟩)) htake))
    | exact wpAny_bind (wpAny_bind (m := Builtin.Tuple.tupleExact _) (wpAny_newObj_type (wpAny_pure ⟨_, rfl, wpAny_pure h⟩) htake))
end
end HT
namespace L2
open PySem PySem.Spec PyProof.Rows
/-! ### the parts of a slice -/
abbrev TO := St → Hp → (Option Int → Hp → Prop) → Prop
/-- a slice's part (left out, or an int) -/
def PO (X : Cx) (e : Option Expr) (t : TO) : Prop :=
  ∀ (pins : List (Addr × Obj)) (s : Shared) (σ : St) (H : Hp) (Q : Option Int → Hp → Prop), Inv X pins σ H s → t σ H Q →
    wpAny (model X.prog X.w) X.A (evalPart e X.env) (fun u s' => ∃ o H', Inv X pins σ H' s' ∧ IsPart u o ∧ Q o H') X.xe s
def tNoPart : TO := fun _ H Q => Q none H
def tPart (t : TE) : TO := fun σ H Q => t σ H fun x H1 => ∃ i, x = .int i ∧ Q (some i) H1
theorem intsAre_of {ns : List Int} : ∀ {us : List Value}, Vals (ns.map V.int) us → IntsAre us ns := by
  induction ns with
  | nil => intro us r; rw [List.map_nil] at r; cases r; exact .nil
  | cons n ns ih =>
    intro us r
    rw [List.map_cons] at r
    cases r with
    | cons r1 r2 =>
      obtain ⟨t, e⟩ := r1
      subst e
      exact .cons n t (ih r2)
section
variable {X : Cx} {e : Expr} {te : TE} {lo hi : Option Expr} {tl th : TO} {pos p2 : Pos}
theorem po_none : PO X none tNoPart := by
  intro pins s σ H Q I h
  rw [evalPart_none]
  exact wpAny_pure ⟨none, H, I, .none, h⟩
theorem po_some (h : PE X e te) : PO X (some e) (tPart te) := by
  intro pins s σ H Q I hw
  rw [evalPart_some]
  refine thn (h pins s σ H _ I hw) fun u s1 ⟨x, H1, I1, r1, q1⟩ => ?_
  obtain ⟨i, rfl, q⟩ := q1
  obtain ⟨t, rfl⟩ := r1
  exact ⟨some i, H1, I1, .int i t, q⟩
/-- what a slice of a value is, by values: the slice object stands at sl -/
def SlR (X : Cx) (r : V → Option Int → Option Int → Hp → VK → Prop) : Prop :=
  ∀ (pins : List (Addr × Obj)) (s : Shared) (σ : St) (H : Hp) (x : V) (v vl vu : Value) (lo hi : Option Int) (sl : Addr) (Q : VK), Inv X pins σ H s → RelV x v → s.heap.IsSliceOf sl vl vu .none → IsPart vl lo → IsPart vu hi → r x lo hi H Q →
    ∃ T id, typeLookup (.type T) "__getitem__" = pure (some (.builtin id)) ∧ s.TypeIs v T ∧ wpAny (model X.prog X.w) X.A (getItem v (.ref sl)) (EP X pins σ Q) X.xe s
theorem SlR.or {r r' : V → Option Int → Option Int → Hp → VK → Prop} (h : SlR X r) (h' : SlR X r') : SlR X (fun x lo hi H Q => r x lo hi H Q ∨ r' x lo hi H Q) := by
  intro pins s σ H x v vl vu lo hi sl Q I rx hs pl pu q
  rcases q with q | q
  · exact h pins s σ H x v vl vu lo hi sl Q I rx hs pl pu q
  · exact h' pins s σ H x v vl vu lo hi sl Q I rx hs pl pu q
def tSl (r : V → Option Int → Option Int → Hp → VK → Prop) (te : TE) (tl th : TO) : TE := fun σ H Q => te σ H fun x H1 => tl σ H1 fun l H2 => th σ H2 fun u H3 => r x l u H3 Q
/-- a[lo:hi], any a -/
theorem pe_slice {r : V → Option Int → Option Int → Hp → VK → Prop} (hr : SlR X r) (he : PE X e te) (hl : PO X lo tl) (hu : PO X hi th) : PE X (.Subscript e (.Slice lo hi none p2) pos) (tSl r te tl th) := by
  intro pins s σ H Q I h
  refine Subscript_ (thn (he pins s σ H _ I h) fun v s1 ⟨x, H1, I1, r1, q1⟩ => ?_)
  refine wpAny_Slice (thn (hl pins s1 σ H1 _ I1 q1) fun vl s2 ⟨l, H2, I2, pl, q2⟩ => thn (hu pins s2 σ H2 _ I2 q2) fun vu s3 ⟨u, H3, I3, pu, q3⟩ => ?_)
  rw [evalPart_none]
  refine wpAny_pure ?_
  have I4 : Inv X pins σ H3 { s3 with heap := s3.heap.push { cls := .type "slice", data := .fields #[vl, vu, .none] } } := I3.kept (t' := s3.toks) fun b ob q => Heap.get?_push_of_some _ q
  obtain ⟨T, id, hT, ht, hg⟩ := hr pins { s3 with heap := s3.heap.push { cls := .type "slice", data := .fields #[vl, vu, .none] } } σ H3 x v vl vu l u s3.heap.objs.size Q I4 r1 (Heap.IsSliceOf.new ..) pl pu q3
  show wpAny (model X.prog X.w) X.A (subscriptTail e (.Slice lo hi none p2) v (.ref s3.heap.objs.size)) (EP X pins σ Q) X.xe { s3 with heap := s3.heap.push { cls := .type "slice", data := .fields #[vl, vu, .none] } }
  exact tail_any (ops := [.ref s3.heap.objs.size, v]) ht hT hg (by with_unfolding_all rfl)
/-- the items of xs[lo:hi] -/
def cutV (xs : List V) (lo hi : Option Int) : List V := (xs.drop (HT.sIx xs.length 0 lo)).take (HT.sIx xs.length xs.length hi - HT.sIx xs.length 0 lo)
theorem cutV_length (xs : List V) (lo hi : Option Int) : (cutV xs lo hi).length ≤ xs.length := by
  unfold cutV
  rw [List.length_take, List.length_drop]
  omega
/-- t[lo:hi], not the whole of it (the whole would be t itself) -/
def rSlT (K : PySem.W.Frag) : V → Option Int → Option Int → Hp → VK → Prop := fun x lo hi H Q => ∃ a xs, x = .ref a ∧ SqT K H a xs ∧
  ¬ (HT.sIx xs.length 0 lo = 0 ∧ HT.sIx xs.length xs.length hi = xs.length) ∧ ∀ p, H p = none → Q (.ref p) (upd H p (.tup (cutV xs lo hi)))
theorem sl_tup : SlR X (rSlT X.K) := by
  intro pins s σ H x v vl vu lo hi sl Q I rx hs pl pu h
  obtain ⟨a, xs, rfl, hx, hw, q⟩ := h
  cases rx
  obtain ⟨its, r, ht, hz⟩ := I.tuple hx
  have hlen : its.toArray.size = xs.length := by rw [List.size_toArray]; exact r.length.symm
  refine ⟨"tuple", _, PyProof.Rows.slot_tuple_getitem.lookup, ht.typeIs, ?_⟩
  refine HT.getItem_tuple_cut ht hs pl pu (by rw [hlen]; exact hw) ?_ (by rw [hlen]; exact hz)
  rw [hlen]
  refine ⟨.ref s.heap.objs.size, _, I.laid (t' := s.toks) (o := .tup (cutV xs lo hi)) (fun b ob q => Heap.get?_push_of_some _ q) (Nat.le_refl _) ?_, rfl, q _ (I.hok.fresh (Nat.le_refl _))⟩
  exact ⟨Nat.le_trans (cutV_length xs lo hi) hz, _, (r.drop (HT.sIx xs.length 0 lo)).take (HT.sIx xs.length xs.length hi - HT.sIx xs.length 0 lo), IsTup.new _ _⟩
/-! ### t < u, t + u -/
/-- t + u, t not empty: u empty gives t itself -/
def rCatT (K : PySem.W.Frag) : R2 := fun x y H Q => ∃ a b xs ys, x = .ref a ∧ y = .ref b ∧ SqT K H a xs ∧ SqT K H b ys ∧ xs ≠ [] ∧ xs.length + ys.length ≤ sizeLine ∧
  (ys = [] → Q (.ref a) H) ∧ (ys ≠ [] → ∀ p, H p = none → Q (.ref p) (upd H p (.tup (xs ++ ys))))
theorem Vals.nil_iff {xs : List V} {us : List Value} (r : Vals xs us) : us = [] ↔ xs = [] := by
  cases r with
  | nil => simp
  | cons _ _ => simp
theorem op_catT : OpR X (binaryOp .Add) (rCatT X.K) := by
  intro pins s σ H x y v u Q I rx ry h
  obtain ⟨a, b, xs, ys, rfl, rfl, ha, hb, hx, hz, q1, q2⟩ := h
  cases rx
  cases ry
  obtain ⟨its, r1, p1, _⟩ := I.tuple ha
  obtain ⟨its2, r2, p2, _⟩ := I.tuple hb
  refine HT.cat_tup p1 p2 (fun z => hx (r1.nil_iff.mp z)) (fun z => ⟨.ref a, H, I, rfl, q1 (r2.nil_iff.mp z)⟩) (fun z => ?_) (by rw [← r1.length, ← r2.length]; exact hz)
  refine ⟨.ref s.heap.objs.size, _, I.laid (t' := s.toks) (o := .tup (xs ++ ys)) (fun b ob q => Heap.get?_push_of_some _ q) (Nat.le_refl _) ?_, rfl, q2 (fun w => z (r2.nil_iff.mpr w)) _ (I.hok.fresh (Nat.le_refl _))⟩
  exact ⟨by rw [List.length_append]; exact hz, _, r1.append r2, IsTup.new _ _⟩
end
end L2
namespace L2
open PySem PySem.Spec PyProof.Rows
/-! ### places -/
/-- the place that an index of any sign means -/
def ixN (n : Nat) (i : Int) : Option Nat := if 0 ≤ i then (if i < n then some i.toNat else none) else if -(n : Int) ≤ i then some (i + n).toNat else none
def atI {α : Type} (xs : List α) (i : Int) : Option α := (ixN xs.length i).bind fun j => xs[j]?
theorem ixN_seq {n : Nat} {i : Int} {j : Nat} (h : ixN n i = some j) : seqIndex? i n = some j ∧ j < n ∧ -(n : Int) ≤ i ∧ i < n := by
  unfold ixN at h
  by_cases h0 : 0 ≤ i
  · rw [if_pos h0] at h
    by_cases h1 : i < n
    · rw [if_pos h1] at h
      have e : i.toNat = j := Option.some.inj h
      exact ⟨by rw [seqIndex_of h0 h1, e], by omega, by omega, h1⟩
    · rw [if_neg h1] at h; cases h
  · rw [if_neg h0] at h
    by_cases h1 : -(n : Int) ≤ i
    · rw [if_pos h1] at h
      have e : (i + n).toNat = j := Option.some.inj h
      exact ⟨by rw [seqIndex_neg (by omega) h1, e], by omega, h1, by omega⟩
    · rw [if_neg h1] at h; cases h
theorem atI_get {α : Type} {xs : List α} {i : Int} {v : α} (h : atI xs i = some v) : ∃ j, seqIndex? i xs.length = some j ∧ xs[j]? = some v ∧ j < xs.length ∧ -(xs.length : Int) ≤ i ∧ i < xs.length := by
  unfold atI at h
  cases e : ixN xs.length i with
  | none => rw [e] at h; cases h
  | some j =>
    rw [e] at h
    obtain ⟨h1, h2, h3, h4⟩ := ixN_seq e
    exact ⟨j, h1, h, h2, h3, h4⟩
theorem atI_nat {α : Type} {xs : List α} {j : Nat} {v : α} (h : xs[j]? = some v) : atI xs (j : Int) = some v := by
  have hj : j < xs.length := (List.getElem?_eq_some_iff.mp h).1
  have e : ixN xs.length (j : Int) = some j := by
    unfold ixN
    rw [if_pos (by omega), if_pos (by omega)]; simp
  unfold atI; rw [e]; exact h
/-! ### what may be subscripted -/
/-- what stands as an index of a plain subscript -/
def PlainIx (b : Expr) : Prop := ∀ o i, subscripted b false o i = operate [o, i] (getItem o i)
/-- a subscript by values -/
def IxR (X : Cx) (r : R2) : Prop :=
  ∀ (value slice : Expr) (pins : List (Addr × Obj)) (s : Shared) (σ : St) (H : Hp) (x y : V) (v u : Value) (Q : VK), Inv X pins σ H s → RelV x v → RelV y u → r x y H Q →
    subscripted slice false v u = operate [v, u] (getItem v u) → wpAny (model X.prog X.w) X.A (subscriptTail value slice v u) (EP X pins σ Q) X.xe s
/-- a call of a builtin's method by values: the receiver, the arguments -/
def MtR (X : Cx) (id : String) (r : V → List V → Hp → VK → Prop) : Prop :=
  ∀ (pins : List (Addr × Obj)) (s : Shared) (σ : St) (H : Hp) (x : V) (xs : List V) (v : Value) (us : List Value) (Q : VK), Inv X pins σ H s → RelV x v → Vals xs us → r x xs H Q →
    wpAny (model X.prog X.w) X.A (call (.builtin id) (v :: us)) (EP X pins σ Q) X.xe s
section
variable {X : Cx} {a b : Expr} {ta tb : TE} {pos : Pos}
theorem IxR.or {r r' : R2} (h : IxR X r) (h' : IxR X r') : IxR X (fun x y H Q => r x y H Q ∨ r' x y H Q) := by
  intro value slice pins s σ H x y v u Q I rx ry q hs
  rcases q with q | q
  · exact h value slice pins s σ H x y v u Q I rx ry q hs
  · exact h' value slice pins s σ H x y v u Q I rx ry q hs
theorem MtR.or {id : String} {r r' : V → List V → Hp → VK → Prop} (h : MtR X id r) (h' : MtR X id r') : MtR X id (fun x xs H Q => r x xs H Q ∨ r' x xs H Q) := by
  intro pins s σ H x xs v us Q I rx rs q
  rcases q with q | q
  · exact h pins s σ H x xs v us Q I rx rs q
  · exact h' pins s σ H x xs v us Q I rx rs q
/-- a[b] -/
theorem pe_ix {r : R2} (hr : IxR X r) (ha : PE X a ta) (hb : PE X b tb) (hs : PlainIx b) : PE X (.Subscript a b pos) (tOp r ta tb) := by
  intro pins s σ H Q I h
  exact Subscript_ (binT ha hb I h fun v u s2 x y H2 I2 rx ry q => hr a b pins s2 σ H2 x y v u Q I2 rx ry q (hs _ _))
def rIxL (K : PySem.W.Frag) : R2 := fun x y H Q => ∃ p xs i v, x = .ref p ∧ y = .int i ∧ SqL K H p xs ∧ atI xs i = some v ∧ Q v H
def rIxT (K : PySem.W.Frag) : R2 := fun x y H Q => ∃ p xs i v, x = .ref p ∧ y = .int i ∧ SqT K H p xs ∧ atI xs i = some v ∧ Q v H
def rIxS : R2 := fun x y H Q => ∃ z i c, x = .str z ∧ y = .int i ∧ z.length ≤ sizeLine ∧ atI z.cps.toList i = some c ∧ Q (.str ⟨#[c]⟩) H
theorem ix_list : IxR X (rIxL X.K) := by
  intro value slice pins s σ H x y v u Q I rx ry h hs
  obtain ⟨p, xs, i, z, rfl, rfl, hq, he, q⟩ := h
  cases rx
  obtain ⟨t, rfl⟩ := ry
  obtain ⟨its, r, pl, hz⟩ := I.list hq
  obtain ⟨j, h1, h2, h3, h4, h5⟩ := atI_get he
  obtain ⟨w, ew, rw'⟩ := r.get h2
  have hl := r.length
  have hn := line63
  have fin : EP X pins σ Q w s := ⟨z, H, I, rw', q⟩
  by_cases h0 : 0 ≤ i
  · have hj : i.toNat = j := by
      rw [seqIndex_of h0 h5] at h1
      exact Option.some.inj h1
    exact item_listR pl.isList h0 (by omega) (by rw [hj]; simpa using ew) fin hs
  · have hj : (i + (its.toArray.size : Int)).toNat = j := by
      rw [seqIndex_neg (by omega) h4] at h1
      rw [List.size_toArray, ← hl]
      exact Option.some.inj h1
    exact subscriptTail_builtinR (x := w) pl.isList.typeIs slot_list_getitem.lookup
      (wpAny_getItem_list_neg (Q := fun r s' => r = w ∧ EP X pins σ Q r s') pl.isList (by omega) (by rw [List.size_toArray] <;> omega) (by omega) (by rw [hj]; simpa using ew) ⟨rfl, fin⟩) hs
theorem ix_tup : IxR X (rIxT X.K) := by
  intro value slice pins s σ H x y v u Q I rx ry h hs
  obtain ⟨p, xs, i, z, rfl, rfl, hq, he, q⟩ := h
  cases rx
  obtain ⟨t, rfl⟩ := ry
  obtain ⟨its, r, pl, hz⟩ := I.tuple hq
  obtain ⟨j, h1, h2, h3, h4, h5⟩ := atI_get he
  obtain ⟨w, ew, rw'⟩ := r.get h2
  have hl := r.length
  have hn := line63
  have fin : EP X pins σ Q w s := ⟨z, H, I, rw', q⟩
  exact subscriptTail_builtinR (x := w) pl.typeIs slot_tuple_getitem.lookup
    (getItem_tuple (j := j) (Q := fun r s' => r = w ∧ EP X pins σ Q r s') pl (by omega) (by omega) (by rw [List.size_toArray, ← hl]; exact h1) (by simpa using ew) ⟨rfl, fin⟩) hs
theorem ix_str : IxR X rIxS := by
  intro value slice pins s σ H x y v u Q I rx ry h hs
  obtain ⟨z, i, c, rfl, rfl, hz, he, q⟩ := h
  obtain ⟨t, rfl⟩ := rx
  obtain ⟨t', rfl⟩ := ry
  obtain ⟨j, h1, h2, h3, h4, h5⟩ := atI_get he
  have hl : z.cps.toList.length = z.length := by simp [Str.length]
  rw [hl] at h1 h4 h5
  have hn := line63
  exact tail_any (typeIs_str s z t) slot_str_getitem.lookup (getItem_str (c := c) (by
    have e1 : decide (i < -(2 ^ 63 : Int)) = false := decide_eq_false (by omega)
    have e2 : decide (i ≥ 2 ^ 63) = false := decide_eq_false (by omega)
    rw [e1, e2, Bool.or_false]) (by rw [h1]; simpa using h2) ⟨.str ⟨#[c]⟩, H, I.tok _, ⟨_, rfl⟩, q⟩) hs
/-- list, tuple or str -/
def rIx (K : PySem.W.Frag) : R2 := fun x y H Q => rIxL K x y H Q ∨ rIxT K x y H Q ∨ rIxS x y H Q
theorem ix_seq : IxR X (rIx X.K) := ix_list.or (ix_tup.or ix_str)
/-! ### xs[i] = v, any sign -/
/-- the list's object behind a store -/
theorem mapSeq_set (its : List Value) (n j : Nat) (u : Value) : Obj.mapSeq (·.setIfInBounds j u) { cls := .type "list", data := .seq its.toArray n } = { cls := .type "list", data := .seq (its.set j u).toArray n } := by
  simp [Obj.mapSeq]
theorem Inv.lst {pins : List (Addr × Obj)} {σ : St} {H : Hp} {s : Shared} {p : Addr} {xs : List V} (I : Inv X pins σ H s) (h : H p = some (.lst xs)) :
    ∃ (its : List Value) (n : Nat), Vals xs its ∧ s.heap.get? p = some { cls := .type "list", data := .seq its.toArray n } ∧ xs.length ≤ sizeLine := by
  obtain ⟨z, its, n, r, e⟩ := I.hok p _ h
  exact ⟨its, n, r, e, z⟩
/-- the list at p is written by an update of its object -/
theorem Inv.lstUpd {pins : List (Addr × Obj)} {σ : St} {H : Hp} {s : Shared} {p : Addr} {xs ys : List V} {its its' : List Value} {n n' : Nat} {f : Obj → Obj} (I : Inv X pins σ H s) (h : H p = some (.lst xs))
    (ho : s.heap.get? p = some { cls := .type "list", data := .seq its.toArray n }) (hf : f { cls := .type "list", data := .seq its.toArray n } = { cls := .type "list", data := .seq its'.toArray n' }) (r : Vals ys its') (hz : ys.length ≤ sizeLine) (t : Nat) :
    Inv X pins σ (upd H p (.lst ys)) { s with heap := s.heap.update p f, toks := t } := by
  have e : (s.heap.update p f).get? p = some { cls := .type "list", data := .seq its'.toArray n' } := by
    rw [Heap.get?_update_self f ho (by rw [hf] <;> rfl), hf]
  refine I.write (x := p) (e := p) (by rw [h]; trivial) (.inl rfl) (fun b u hb q => (Heap.get?_update_other _ _ (Ne.symm hb)).trans q) ⟨_, e⟩ ?_
  exact ⟨hz, its', n', r, e⟩
def rSetL : V → V → V → Hp → (Hp → Prop) → Prop := fun o i v H Q => ∃ p xs k j, o = .ref p ∧ i = .int k ∧ H p = some (.lst xs) ∧ ixN xs.length k = some j ∧ Q (upd H p (.lst (xs.set j v)))
theorem set_list : PSet X rSetL := by
  intro pins s σ H o i v ov iv u Q I ro ri rv h
  obtain ⟨p, xs, k, j, rfl, rfl, hp, hj, q⟩ := h
  cases ro
  obtain ⟨t, rfl⟩ := ri
  obtain ⟨its, n, r, ho, hz⟩ := I.lst hp
  obtain ⟨h1, h2, h3, h4⟩ := ixN_seq hj
  have hl := r.length
  have hn := line63
  have I' : Inv X pins σ (upd H p (.lst (xs.set j v))) { s with heap := s.heap.update p (Obj.mapSeq (·.setIfInBounds j u)) } :=
    I.lstUpd hp ho (mapSeq_set its n j u) (r.set rv j) (by rw [List.length_set]; exact hz) s.toks
  by_cases h0 : 0 ≤ k
  · have hk : k.toNat = j := by
      rw [seqIndex_of h0 h4] at h1
      exact Option.some.inj h1
    exact PySem.W.ki_setAt ho h0 (by omega) (by rw [List.size_toArray, ← hl]; exact h4) (by rw [hk]; exact ⟨_, I', q⟩)
  · have hk : (k + (its.toArray.size : Int)).toNat = j := by
      rw [seqIndex_neg (by omega) h3] at h1
      rw [List.size_toArray, ← hl]
      exact Option.some.inj h1
    exact PySem.W.ki_setBack ho (by omega) (by rw [List.size_toArray, ← hl]; exact h3) (by omega) (by rw [hk]; exact ⟨_, I', q⟩)
/-! ### slices -/
theorem slice_bounds (lo hi : Option Int) (n : Nat) : (sliceBounds lo hi none n).1 = ((HT.sIx n 0 lo : Nat) : Int) ∧ (sliceBounds lo hi none n).2.1 = ((HT.sIx n n hi : Nat) : Int) ∧ (sliceBounds lo hi none n).2.2 = 1 := by
  refine ⟨?_, ?_, rfl⟩
  · cases lo with
    | none => simp [sliceBounds, HT.sIx]
    | some i =>
      simp only [sliceBounds, HT.sIx, Option.getD_none, show (1 : Int) > 0 by decide, if_true]
      by_cases h : i < 0
      · simp only [h, if_true] <;> omega
      · simp only [h, if_false] <;> omega
  · cases hi with
    | none => simp [sliceBounds, HT.sIx]
    | some i =>
      simp only [sliceBounds, HT.sIx, Option.getD_none, show (1 : Int) > 0 by decide, if_true]
      by_cases h : i < 0
      · simp only [h, if_true] <;> omega
      · simp only [h, if_false] <;> omega
theorem slicePick_cut (its : List Value) (lo hi : Option Int) : slicePick its.toArray lo hi none = ((its.drop (HT.sIx its.length 0 lo)).take (HT.sIx its.length its.length hi - HT.sIx its.length 0 lo)).toArray := by
  obtain ⟨h1, h2, h3⟩ := slice_bounds lo hi its.toArray.size
  unfold slicePick
  rw [h1, h2, h3]
  simp only [sliceRange_one, pick_run, List.size_toArray] <;> rfl
/-- xs[lo:hi] of a list: a new list -/
def rSlL (K : PySem.W.Frag) : V → Option Int → Option Int → Hp → VK → Prop := fun x lo hi H Q => ∃ a xs, x = .ref a ∧ SqL K H a xs ∧ ∀ p, H p = none → Q (.ref p) (upd H p (.lst (cutV xs lo hi)))
theorem sl_list : SlR X (rSlL X.K) := by
  intro pins s σ H x v vl vu lo hi sl Q I rx hs pl pu h
  obtain ⟨a, xs, rfl, hx, q⟩ := h
  cases rx
  obtain ⟨its, r, ht, hz⟩ := I.list hx
  have hlen := r.length
  refine ⟨"list", _, slot_list_getitem.lookup, ht.isList.typeIs, ?_⟩
  refine wpAny_getItem_list_slice ht.isList hs pl pu .none (by simp) ?_ (by rw [List.size_toArray] <;> omega)
  rw [slicePick_cut, ← hlen]
  refine ⟨.ref s.heap.objs.size, _, I.laid (t' := s.toks) (o := .lst (cutV xs lo hi)) (fun b ob q => Heap.get?_push_of_some _ q) (Nat.le_refl _) ?_, rfl, q _ (I.hok.fresh (Nat.le_refl _))⟩
  exact ⟨Nat.le_trans (cutV_length xs lo hi) hz, _, 0, (r.drop (HT.sIx xs.length 0 lo)).take (HT.sIx xs.length xs.length hi - HT.sIx xs.length 0 lo), Heap.get?_push_size _ rfl⟩
/-! ### in, not in: flat items -/
/-! ### len, list(x), tuple(x) of any list or tuple that is read -/
theorem call_len_seq : CallR X (.builtin "len") (fun xs H Q => ∃ p ys, xs = [.ref p] ∧ (SqL X.K H p ys ∨ SqT X.K H p ys) ∧ Q (.int ys.length) H) := by
  intro pins s σ H xs us Q I r h
  obtain ⟨p, ys, rfl, hq, q⟩ := h
  obtain ⟨u, rfl, rx⟩ := vals1 r
  cases rx
  have hn := line63
  rcases hq with hq | hq
  · obtain ⟨its, r', pl, hz⟩ := I.list hq
    have hlen := r'.length
    exact Calls.call_len_list pl.isList (by simp only [List.size_toArray] <;> omega) ⟨.int ys.length, H, I.tok _, ⟨s.toks + 1, by rw [List.size_toArray, hlen]⟩, q⟩
  · obtain ⟨its, r', pl, hz⟩ := I.tuple hq
    have hlen := r'.length
    exact len_tuple pl (by simp only [List.size_toArray] <;> omega) ⟨.int ys.length, H, I.tok _, ⟨s.toks + 1, by rw [List.size_toArray, hlen]⟩, q⟩
theorem CallR.or {f : Value} {r r' : List V → Hp → VK → Prop} (h : CallR X f r) (h' : CallR X f r') : CallR X f (fun xs H Q => r xs H Q ∨ r' xs H Q) := by
  intro pins s σ H xs us Q I rs q
  rcases q with q | q
  · exact h pins s σ H xs us Q I rs q
  · exact h' pins s σ H xs us Q I rs q
theorem call_list_of : CallR X (.type "list") (fun xs H Q => ∃ p ys, xs = [.ref p] ∧ (SqL X.K H p ys ∨ SqT X.K H p ys) ∧ ∀ l, H l = none → Q (.ref l) (upd H l (.lst ys))) := by
  intro pins s σ H xs us Q I r h
  obtain ⟨p, ys, rfl, hq, q⟩ := h
  obtain ⟨u, rfl, rx⟩ := vals1 r
  cases rx
  have fin : ∀ (its : List Value), Vals ys its → ys.length ≤ sizeLine → ∀ (h' : Heap) (c' : Nat), (∀ b o', s.heap.get? b = some o' → h'.get? b = some o') →
      h'.get? s.heap.objs.size = some { cls := .type "list", dict := none, data := .seq its.toArray c', slots := #[] } → EP X pins σ Q (.ref s.heap.objs.size) { s with heap := h' } := fun its r' hz h' c' kp e =>
    ⟨.ref s.heap.objs.size, _, I.laid (t' := s.toks) kp (Nat.le_refl _) (show ObjOk X.prog X.w _ h' _ (.lst ys) from ⟨hz, its, c', r', e⟩), rfl, q _ (I.hok.fresh (Nat.le_refl _))⟩
  rcases hq with hq | hq
  · obtain ⟨its, r', pl, hz⟩ := I.list hq
    have hlen := r'.length
    obtain ⟨o, ho, hc, n, hd⟩ := pl.isList
    exact call_list_seq p (.inl rfl) ho hc hd (fun h' c' kp e => fin its r' hz h' c' kp e) (by simp only [List.size_toArray] <;> omega)
  · obtain ⟨its, r', pl, hz⟩ := I.tuple hq
    have hlen := r'.length
    obtain ⟨o, ho, hc, n, hd⟩ := pl
    exact call_list_seq p (.inr rfl) ho hc hd (fun h' c' kp e => fin its r' hz h' c' kp e) (by simp only [List.size_toArray] <;> omega)
theorem call_tuple_of : CallR X (.type "tuple") (fun xs H Q => ∃ p ys, xs = [.ref p] ∧ ((SqL X.K H p ys ∧ ∀ l, H l = none → Q (.ref l) (upd H l (.tup ys))) ∨ (SqT X.K H p ys ∧ Q (.ref p) H))) := by
  intro pins s σ H xs us Q I r h
  obtain ⟨p, ys, rfl, h⟩ := h
  obtain ⟨u, rfl, rx⟩ := vals1 r
  cases rx
  rcases h with ⟨hq, q⟩ | ⟨hq, q⟩
  · obtain ⟨its, r', pl, hz⟩ := I.list hq
    have hlen := r'.length
    refine call_tuple_list pl.isList (fun h' kp => ?_) (by simp only [List.size_toArray] <;> omega)
    have I1 : Inv X pins σ H { s with heap := h' } := I.kept (t' := s.toks) kp
    have I2 : Inv X pins σ (upd H h'.objs.size (.tup ys)) { s with heap := h'.push { cls := .type "tuple", data := .seq its.toArray } } :=
      I1.laid (t' := s.toks) (fun b o e => Heap.get?_push_of_some _ e) (Nat.le_refl _) (show ObjOk X.prog X.w _ _ _ (.tup ys) from ⟨hz, its, r', IsTup.new _ _⟩)
    exact ⟨.ref h'.objs.size, _, I2, rfl, q _ (I1.hok.fresh (Nat.le_refl _))⟩
  · obtain ⟨its, r', pl, hz⟩ := I.tuple hq
    exact call_tuple_same pl ⟨.ref p, H, I, rfl, q⟩
/-! ### the call of a builtin's method: o.m(..) -/
variable {o e : Expr} {es : List Expr} {to : TE} {t : TA} {name : Str} {apos cpos : Pos} {T id : String} {r : V → List V → Hp → VK → Prop}
/- xs.append(e), list.index on a module's tuple .. are MtR facts of 06m -/
end
end L2
namespace L2
open PySem PySem.Spec PyProof.Rows
def MtM (X : Cx) (id : String) (r : V → List V → Hp → VK → Prop) : Prop :=
  ∀ (pins : List (Addr × Obj)) (s : Shared) (σ : St) (H : Hp) (x : V) (xs : List V) (v : Value) (us : List Value) (Q : VK), Inv X pins σ H s → RelV x v → Vals xs us → r x xs H Q →
    wpAny (model X.prog X.w) X.A (call (.builtin id) (v :: us)) (EP X pins σ Q) X.xe s
/-! ### lists of values -/
theorem Vals.one : ∀ {x : V} {us : List Value}, Vals [x] us → ∃ u, us = [u] ∧ RelV x u
  | _, _, .cons r .nil => ⟨_, rfl, r⟩
theorem Vals.two : ∀ {x y : V} {us : List Value}, Vals [x, y] us → ∃ u v, us = [u, v] ∧ RelV x u ∧ RelV y v
  | _, _, _, .cons r (.cons q .nil) => ⟨_, _, rfl, r, q⟩
theorem Vals.zero : ∀ {us : List Value}, Vals [] us → us = []
  | _, .nil => rfl
theorem Vals.reverse {xs : List V} {us : List Value} (h : Vals xs us) : Vals xs.reverse us.reverse := by
  induction h with
  | nil => exact .nil
  | cons r t ih => rw [List.reverse_cons, List.reverse_cons]; exact Vals.append ih (.cons r .nil)
theorem Vals.rep {xs : List V} {us : List Value} (h : Vals xs us) : ∀ k : Nat, Vals (List.replicate k xs).flatten (List.replicate k us).flatten
  | 0 => .nil
  | k + 1 => by
    rw [List.replicate_succ, List.replicate_succ, List.flatten_cons, List.flatten_cons]
    exact Vals.append h (Vals.rep h k)
theorem foldl_rep (its : List Value) : ∀ (k : Nat) (acc : List Value),
    List.foldl (fun x1 x2 => x1 ++ x2) acc.toArray (List.replicate k its.toArray) = (acc ++ (List.replicate k its).flatten).toArray
  | 0, acc => by simp
  | k + 1, acc => by
    have e : acc.toArray ++ its.toArray = (acc ++ its).toArray := by simp
    have e2 : (acc ++ its) ++ (List.replicate k its).flatten = acc ++ (List.replicate (k + 1) its).flatten := by
      rw [List.replicate_succ, List.flatten_cons, List.append_assoc]
    rw [← e2, ← foldl_rep its k (acc ++ its), ← e, List.replicate_succ, List.foldl_cons]
section
variable {X : Cx} {pins : List (Addr × Obj)} {σ : St} {H : Hp} {s : Shared} {l b : Addr} {xs ys zs : List V}
/-! ### the two steps: a tracked list is rewritten, a new list is laid -/
theorem Inv.lset {its its' : List Value} {n : Nat} {f : Array Value → Array Value} {t' : Nat} (I : Inv X pins σ H s) (hH : H l = some (.lst xs))
    (e : s.heap.get? l = some { cls := .type "list", data := .seq its.toArray n }) (hf : f its.toArray = its'.toArray) (hv : Vals ys its') (hz : ys.length ≤ sizeLine) :
    Inv X pins σ (upd H l (.lst ys)) { s with heap := s.heap.update l (Obj.mapSeq f), toks := t' } := by
  have q := PySem.IsL.update e f
  rw [hf] at q
  refine I.write (x := l) (e := l) (by rw [hH]; exact trivial) (.inl rfl) (fun b' u hb hu => (Heap.get?_update_other s.heap (Obj.mapSeq f) (Ne.symm hb)).trans hu) ⟨_, q⟩ ?_
  exact ⟨hz, its', _, hv, q⟩
theorem Inv.lnew {its : List Value} {t' : Nat} (I : Inv X pins σ H s) (hv : Vals ys its) (hz : ys.length ≤ sizeLine) :
    Inv X pins σ (upd H s.heap.objs.size (.lst ys)) { s with heap := s.heap.push { cls := .type "list", data := .seq its.toArray }, toks := t' } :=
  I.laid (fun _ _ q => Heap.get?_push_of_some _ q) (Nat.le_refl _) ⟨hz, its, 0, hv, Heap.get?_push_size _ rfl⟩
theorem Inv.fresh (I : Inv X pins σ H s) : H s.heap.objs.size = none := I.hok.fresh (Nat.le_refl _)
theorem Inv.lstM (I : Inv X pins σ H s) (hH : H l = some (.lst xs)) : xs.length ≤ sizeLine ∧ ∃ (its : List Value) (n : Nat), Vals xs its ∧ xs.length = its.length ∧ s.heap.get? l = some { cls := .type "list", data := .seq its.toArray n } := by
  obtain ⟨z, its, n, r, e⟩ := I.hok l _ hH
  exact ⟨z, its, n, r, r.length, e⟩
theorem notLongL {n : Nat} (h : n ≤ sizeLine) : Builtin.List.listTooLong n = false := by
  unfold Builtin.List.listTooLong
  exact decide_eq_false (by omega)
end
section
variable {X : Cx}
/-! ### methods -/
def rAppend : V → List V → Hp → VK → Prop := fun x vs H Q => ∃ l xs y, x = .ref l ∧ vs = [y] ∧ H l = some (.lst xs) ∧ xs.length < sizeLine ∧ Q .non (upd H l (.lst (xs ++ [y])))
theorem mt_append : MtM X "list.append" rAppend := by
  intro pins s σ H x vs v us Q I rx rv h
  obtain ⟨l, xs, y, rfl, rfl, hH, hz, q⟩ := h
  cases rx
  obtain ⟨u, rfl, ru⟩ := rv.one
  obtain ⟨z, its, n, r, hl, e⟩ := I.lstM hH
  refine call_meets F.slot_list_append ⟨_, e, rfl⟩ F.entry_list_append (F.args_list_append_2 _ _) (PySem.list_append l its.toArray n u (by rw [List.size_toArray]; omega)) ⟨e, ?_⟩
  refine ⟨.non, _, I.lset (its' := its ++ [u]) hH e (by simp) (r.append (.cons ru .nil)) ?_, rfl, q⟩
  rw [List.length_append, List.length_singleton]
  omega
/-! ### list + list, list += list, list * int -/
def rCat : R2 := fun x y H Q => ∃ l b xs zs, x = .ref l ∧ y = .ref b ∧ H l = some (.lst xs) ∧ H b = some (.lst zs) ∧ xs.length + zs.length ≤ sizeLine ∧ ∀ p, H p = none → Q (.ref p) (upd H p (.lst (xs ++ zs)))
theorem op_cat : OpR X (binaryOp .Add) rCat := by
  intro pins s σ H x y v u Q I rx ry h
  obtain ⟨l, b, xs, zs, rfl, rfl, hH, hB, hz, q⟩ := h
  cases rx
  cases ry
  obtain ⟨z, its, n, r, hl, e⟩ := I.lstM hH
  obtain ⟨z2, its2, n2, r2, hl2, e2⟩ := I.lstM hB
  refine PySem.P.add_list e e2 ?_ (by rw [List.size_toArray, List.size_toArray]; omega)
  have ea : its.toArray ++ its2.toArray = (its ++ its2).toArray := by simp
  rw [ea]
  exact ⟨.ref _, _, I.lnew (t' := s.toks) (r.append r2) (by rw [List.length_append]; omega), rfl, q _ I.fresh⟩
/-- a list times an int (a negative one is nothing) -/
def rRep : R2 := fun x y H Q => ∃ l k xs, x = .ref l ∧ y = .int k ∧ H l = some (.lst xs) ∧ -(2 ^ 63) ≤ k ∧ k < 2 ^ 63 ∧ xs.length * k.toNat ≤ sizeLine ∧
  ∀ p, H p = none → Q (.ref p) (upd H p (.lst (List.replicate k.toNat xs).flatten))
theorem len_rep {α : Type} (xs : List α) (k : Nat) : (List.replicate k xs).flatten.length = k * xs.length := by
  induction k with
  | zero => simp
  | succ k ih => rw [List.replicate_succ, List.flatten_cons, List.length_append, ih, Nat.succ_mul, Nat.add_comm]
theorem op_rep : OpR X (binaryOp .Mult) rRep := by
  intro pins s σ H x y v u Q I rx ry h
  obtain ⟨l, k, xs, rfl, rfl, hH, h1, h2, hz, q⟩ := h
  cases rx
  obtain ⟨t, rfl⟩ := ry
  obtain ⟨z, its, n, r, hl, e⟩ := I.lstM hH
  have hlen : its.toArray.size * k.toNat ≤ sizeLine := by rw [List.size_toArray, ← hl]; exact hz
  have hcap : ¬ its.toArray.size * k.toNat > (2 ^ 63 - 1) / 8 := by
    have : (sizeLine : Nat) ≤ (2 ^ 63 - 1) / 8 := by decide
    omega
  have hfit : ¬ (!Builtin.List.listFitsIndex k) = true := by
    rw [fitsIndex_both h1 h2]
    exact Bool.false_ne_true
  have hlong : ¬ Builtin.List.listTooLong (its.toArray.size * k.toNat) = true := by
    rw [notLongL hlen]
    exact Bool.false_ne_true
  have hnew : List.foldl (fun x1 x2 => x1 ++ x2) #[] (List.replicate (if its.toArray.isEmpty = true then 0 else k.toNat) its.toArray) = (List.replicate k.toNat its).flatten.toArray := by
    have f0 : ∀ m : Nat, List.foldl (fun x1 x2 => x1 ++ x2) #[] (List.replicate m its.toArray) = (List.replicate m its).flatten.toArray := fun m => by
      have := foldl_rep its m []
      rw [List.nil_append] at this
      exact this
    rw [f0]
    cases its with
    | nil => simp
    | cons a r' => rw [if_neg (by simp)]
  refine wpAny_binaryOp_repeat_ref (T := "list") (U := "int") (by decide) ⟨_, e, rfl⟩ (fun s' => typeIs_int s' k t) noFill_list_mul F.fills_int_mul F.slot_int_rmul repeat_list F.slot_int_index.lookup
    (call_meets F.slot_int_rmul (typeIs_int s k t) F.entry_int_rmul (F.args_int_rmul_2 _ _) (int___rmul___int_list k t l its.toArray n)
      ⟨e, rfl, ⟨_, e, rfl⟩, call_meets F.slot_list_mul ⟨_, e, rfl⟩ F.entry_list_mul (F.args_list_mul_2 _ _) (AutoListH.list___mul___list_int_3 l its.toArray n k t hfit hcap hlong) ⟨e, ?_⟩⟩)
  rw [hnew]
  exact ⟨.ref _, _, I.lnew (t' := s.toks) (r.rep k.toNat) (by rw [len_rep, Nat.mul_comm]; exact hz), rfl, q _ I.fresh⟩
/-! ### del xs[i] -/
end
/-! ### xs[a:b] = ys -/
section
variable {prog : Program} {w : World} {A : Around} {E : Value → Shared → Prop} {s : Shared}
end
section
variable {X : Cx}
end
end L2
namespace Att
open PySem PySem.W PySem.Calls PyProof.Rows
/-! ### the script -/
theorem ints_of_wellAll {P : Params} {h : Heap} : ∀ (ns : List Int) (vs : List Value), WellAll P h vs (ns.map WData.int) → IntsAre vs ns := by
  intro ns
  induction ns with
  | nil =>
    intro vs w
    rw [List.map_nil] at w
    cases w
    exact .nil
  | cons n ns ih =>
    intro vs w
    rw [List.map_cons] at w
    cases w with
    | cons a b =>
      cases a
      exact .cons _ _ (ih _ b)
theorem script_of {l : OpenLaw} {n : Nat} (hn : l.most = some n) {P : Params} {h : Heap} {args : List WData} {vals : List Value}
    (hpre : l.row.toRowW.claim.pre args = true) (hwl : WellAll P h vals args) :
    ∃ a vs ns, vals = [Value.ref a] ∧ args = [WData.list (ns.map WData.int)] ∧ h.get? a = some { cls := .type "list", data := .seq vs.toArray } ∧ IntsAre vs ns ∧ ns.length ≤ n := by
  have hsh : WShape.hasAll [] args [.list .int] = true := (pre_splitW hpre).1
  have hc : l.pre.holds [] { args := args } = true := (pre_splitW hpre).2
  obtain ⟨d, r, rfl, h1, h2⟩ := hasAllW_cons hsh
  obtain rfl := hasAllW_nil h2
  obtain ⟨xs, rfl, h3⟩ := hasW_list h1
  obtain ⟨ns, rfl⟩ := items_int h3
  have hlen : ns.length ≤ n := by
    unfold OpenLaw.pre at hc
    have h4 : (WTm.not (.lt (.lit (.int (n : Int))) (.len (.arg 0)))).holds [] { args := [.list (ns.map .int)] } = true := by
      have h4 := (holds_andW hc).1
      rw [hn] at h4
      exact h4
    have h5 := condW_of h4 (w_not (w_lt w_lit (w_len_list (w_arg rfl))))
    rw [List.length_map] at h5
    refine Nat.le_of_not_lt fun q => ?_
    have q' : (n : Int) < ((ns.length : Nat) : Int) := by omega
    first
      | (rw [decide_eq_true q'] at h5; exact absurd h5 (by decide))
      | (simp at h5; omega)
  cases hwl with
  | cons w1 w2 =>
    cases w2
    cases w1 with
    | list ho hall => exact ⟨_, _, ns, rfl, rfl, ho, ints_of_wellAll ns _ hall, hlen⟩
theorem post_true (l : OpenLaw) (args : List WData) : l.row.toRowW.claim.post args (.bool true) args = true :=
  postW_of (r := l.row.toRowW) (X := (true == true))
    (show WShape.has [] (.bool true) .bool = true by first | rfl | decide | simp [WShape.has, WShape.arms, WShape.armsAll])
    (show (WTm.eq .res (.lit (.bool true))).value [] { args := args, res := some (.bool true), after := args } = some (.bool (true == true)) from w_eq_bool (w_res rfl) w_lit) rfl
/-! ### the attachment: holds_open's last premise (the goal 'hc' behind k_head) from a wpAny of the law's body -/
/-- the same from a codeAny of the CALL (for a layer whose function contracts speak of calls) -/
theorem attach_call {l : OpenLaw} {n : Nat} {q : Program} {loose : List Str} {XP : (Str → Option Value) → Heap → Prop} {YP : World → Heap → Prop} {d : DefRec}
    (hn : l.most = some n) (hdf : d.params.defaults = [])
    (call : ∀ (w : World) (s₀ s₁ : Shared) (mg mb : Str → Option Value) (fa : Addr) (o : Obj) (pm cd doc : Value) (a : Addr) (vs : List Value) (ns : List Int),
      Ground q loose [] XP w s₀ mg mb s₁.heap → YP w s₁.heap →
      s₁.heap.get? fa = some o → o.data = .func (docDef d.name d.params d.body d.scope pm cd doc) → s₁.heap.CodeRec cd d.name → mg d.name = some (.ref fa) →
      s₁.heap.get? a = some { cls := .type "list", data := .seq vs.toArray } → IntsAre vs ns → ns.length ≤ n → s₁.gens = #[] →
      codeAny (model l.prog w) callerA (.call (.ref fa) ⟨[.ref a], []⟩) (fun r s' => r = .ok (.ret (.bool true)) ∧ OldK s₁.heap s'.heap ∧ s'.os = s₁.os ∧ AllBare s'.gens) s₁) :
    WalkO q loose XP YP l.row.toRowW d [] (fun f vs => PySem.call f vs) := by
  intro w s₀ s₁ mg mb G Y fa o pm cd doc dV kV ho hd hcd hD hmg hg args vals as hpre hlay hrd hwl hlo
  obtain rfl : dV = .none := Dflts.none hD hdf
  obtain rfl : kV = .none := Dflts.noKw hD
  obtain ⟨a, vs, ns, rfl, rfl, hobj, hints, hlen⟩ := script_of hn hpre hwl
  refine enter_call (codeAny_mono (call w s₀ s₁ mg mb fa o pm cd doc a vs ns G Y ho (fd_plain hd) hcd hmg hobj hints hlen hg) fun r s' hq => ?_)
  obtain ⟨rfl, h2, h3, h4⟩ := hq
  exact ⟨.inl ⟨.bool true, .bool true, [], rfl, fun _ => rfl, .bool true, post_true l _, fun _ => ⟨List.Pairwise.nil, fun _ hm => (nomatch hm)⟩⟩, h2, h3, h4⟩
/-! ### rules over ANY heap (no ledger) from facts about the written part K: the library's own take a ledger (News) for what they write -/
section
variable {prog : Program} {w : World} {A : Around} {E : Value → Shared → Prop} {s : Shared} {K : Frag}
/-! the whole heap as the ledger: makes every rule that writes through a ledger a rule over any heap -/
def ledger (h : Heap) (L d : Addr) : List (Addr × Obj) := (List.range h.objs.size).filterMap fun a => if a = L ∨ a = d then none else (h.get? a).map fun o => (a, o)
end
end Att
namespace L2
open PySem PySem.Spec PyProof.Rows
theorem vals_ints : ∀ {vs : List Value} {ns : List Int}, IntsAre vs ns → Vals (ns.map V.int) vs
  | _, _, .nil => .nil
  | _, _, .cons n t h => .cons ⟨t, rfl⟩ (vals_ints h)
/-- nothing is tracked but the script, known to the object (or it is an object of the module) -/
def Only (H : Hp) : Prop := ∀ b, H b = none ∨ ∃ o xs, H b = some (.frz o (.lst xs))
/-- THE HEAD: the law's promise, at the heap behind the top. F, the promise of the law's def, may use that base is part of the heap (so K.In base, base.Ns mainGlobals mg stand in Mod) -/
theorem law_call {P : Program} {w : World} {K : PySem.W.Frag} {mg mb : Str → Option Value} {CX : CXT} {k : Nat} {fa a : Addr} {fd : FuncData} {x : Str} {sp : Sp} {s₁ : Shared} {vs : List Value} {ns : List Int}
    (KX : K.In s₁.heap) (hns : s₁.heap.Ns mainGlobals mg) (hb : s₁.heap.Ns builtinsNs mb) (hbb : ∀ x : Str, x ≠ "__name__" → mb x = bootBuiltins x) (hlim : s₁.heap.NoLimit) (hg : s₁.gens = #[])
    (ha : s₁.heap.get? a = some { cls := .type "list", data := .seq vs.toArray }) (hi : IntsAre vs ns) (hl : ns.length ≤ sizeLine) (hr : Room k callerA)
    (F : ∀ base : Heap, K.In base → base.Ns mainGlobals mg → FnOk P w K mg base CX k fa fd [x] sp) (hbind : ∀ (s : Shared) (u : Value), BindsTo s fd ⟨[u], []⟩ [(x, u)])
    (hsp : ∀ H : Hp, Only H → SqL K H a (ns.map V.int) → sp [.ref a] H (fun v _ => v = .bl true) fun _ _ _ => False)
    (hCX : ∀ H e s', CX [] H s₁ (fun _ _ _ => False) e s' → False) :
    codeAny (model P w) callerA (.call (.ref fa) ⟨[.ref a], []⟩) (fun r s' => r = .ok (.ret (.bool true)) ∧ OldK s₁.heap s'.heap ∧ s'.os = s₁.os ∧ AllBare s'.gens) s₁ := by
  have rv := vals_ints hi
  have lenV := hi.length
  -- from an abstract heap in which nothing but the script may be tracked
  have core : ∀ H : Hp, Only H → SqL K H a (ns.map V.int) → HOk P w H s₁.heap → (∀ b, H b ≠ none → b = a) → (H a ≠ none → K.lookup a = none) →
      codeAny (model P w) callerA (.call (.ref fa) ⟨[.ref a], []⟩) (fun r s' => r = .ok (.ret (.bool true)) ∧ OldK s₁.heap s'.heap ∧ s'.os = s₁.os ∧ AllBare s'.gens) s₁ := by
    intro H hO hS hok hA hK
    have base_of : ∀ {b : Addr} {o : Obj}, s₁.heap.get? b = some o → H b = none → (hidT s₁.heap H).get? b = some o := fun e n => hidT_get e n
    have noA : ∀ {b : Addr} {o : Obj} {es : Array DictEntry} {ep : Nat}, s₁.heap.get? b = some o → o.data = .dict es ep → H b = none := fun {b o es ep} e d => by
      cases q : H b with
      | none => rfl
      | some u =>
        have e' : b = a := hA b (by rw [q]; simp)
        subst e'
        rw [ha] at e; cases e
        have d' : Data.seq vs.toArray _ = Data.dict es ep := d
        cases d'
    have nsK : ∀ {b : Addr} {m : Str → Option Value}, s₁.heap.Ns b m → (hidT s₁.heap H).Ns b m := fun {b m} ⟨o, es, ep, e, d, r⟩ => ⟨o, es, ep, base_of e (noA e d), d, r⟩
    have hKb : K.In (hidT s₁.heap H) := fun b o e => base_of (KX b o e) (by
      cases q : H b with
      | none => rfl
      | some u =>
        have e' : b = a := hA b (by rw [q]; simp)
        subst e'
        rw [hK (by rw [q]; simp)] at e; cases e)
    have hM : Mod K mg (hidT s₁.heap H) := ⟨hKb, nsK hns, ⟨mb, nsK hb, hbb⟩, let ⟨mc, h1, h2⟩ := hlim; ⟨mc, nsK h1, h2⟩⟩
    have e0 : Env0 P w K mg (hidT s₁.heap H) callerA [] s₁ H := ⟨rfl, hM, fun b o e => of_hidT e, Nat.le_of_eq (hidT_size _ _), trivial, fun b hb => absurd (show b ∈ ([] : List Addr) from hb) (by simp), hok, .of_eq hg⟩
    refine codeAny_mono ((F _ hKb (nsK hns)).run callerA [] s₁ H ⟨[.ref a], []⟩ [.ref a] [.ref a] _ _ hr e0 (hbind s₁ (.ref a)) (.cons rfl .nil) (hsp H hO hS)) fun r s' h => ?_
    cases r with
    | error e => exact (hCX H e s' h).elim
    | ok fl =>
      cases fl with
      | next => exact False.elim h
      | brk => exact False.elim h
      | cont => exact False.elim h
      | ret u =>
        obtain ⟨v, H', os, bare, un, hok', r', q⟩ := h
        have q' : v = .bl true := q
        subst q'
        obtain rfl : u = Value.bool true := r'
        refine ⟨rfl, OldK.of_keep fun b o e => ?_, os, bare⟩
        cases q : H b with
        | none => exact un.keep b o e q (by intro z; exact absurd (show b ∈ ([] : List Addr) from z) (by simp)) (by simp)
        | some u =>
          rcases hO b with z | ⟨ob, xs, z⟩
          · rw [q] at z; cases z
          · have z2 := un.frzs b ob _ z
            obtain ⟨e1, _⟩ := hok b _ z
            obtain ⟨e2, _⟩ := hok' b _ z2
            rw [e] at e1; cases e1
            exact e2
  cases hk : K.lookup a with
  | some o =>
    -- the script is one of the module's own objects
    have e := KX a o hk
    rw [ha] at e
    cases e
    refine core (fun _ => none) (fun _ => .inl rfl) (.inr ⟨_, vs.toArray, _, hk, rfl, rfl, rfl, by rw [List.size_toArray, lenV]; exact hl, by simpa using rv⟩) (fun b u z => by have z' : (none : Option HO) = some u := z; cases z') (fun b z => absurd rfl z) fun z => absurd rfl z
  | none =>
    refine core (fun b => if b = a then some (.frz { cls := .type "list", data := .seq vs.toArray } (.lst (ns.map V.int))) else none) (fun b => ?_) (.inl (.inr ⟨{ cls := .type "list", data := .seq vs.toArray }, if_pos rfl⟩)) (fun b u z => ?_) (fun b z => ?_) fun _ => hk
    · by_cases hb : b = a
      · exact .inr ⟨_, _, if_pos hb⟩
      · exact .inl (if_neg hb)
    · by_cases hb : b = a
      · have z' := (if_pos hb).symm.trans z
        cases z'
        subst hb
        exact ⟨ha, by rw [List.length_map]; exact hl, vs, _, rv, ha⟩
      · have z' := (if_neg hb).symm.trans z
        cases z'
    · by_cases hb : b = a
      · exact hb
      · exact absurd (if_neg hb) z
end L2
namespace L2
open PySem PySem.Spec PyProof.Rows
abbrev KOf {K : PySem.W.Frag} {h : Heap} (_ : K.In h) : PySem.W.Frag := K
/-- the goal that k_head leaves (case hc), from the law's promise. F gives the function object fd (K's own) once, then the promise over every base -/
theorem walk_of {l : PySem.W.OpenLaw} {n k : Nat} {q : Program} {loose : List Str} {XP : (Str → Option Value) → Heap → Prop} {YP : World → Heap → Prop} {d : DefRec} {K : Params → PySem.W.Frag} {CX : World → CXT} {sp : World → Sp} {x : Str}
    (hn : l.most = some n) (hn2 : n ≤ sizeLine) (hdf : d.params.defaults = []) (hr : Room k callerA)
    (hY : ∀ (w : World) (h : Heap), YP w h → (K w.params).In h)
    (F : ∀ (w : World) (mg : Str → Option Value) (fa : Addr) (h : Heap), (K w.params).In h → h.Ns mainGlobals mg → mg d.name = some (.ref fa) →
      ∃ fd : FuncData, (∀ (s : Shared) (u : Value), BindsTo s fd ⟨[u], []⟩ [(x, u)]) ∧
        ∀ base : Heap, (K w.params).In base → base.Ns mainGlobals mg → FnOk l.prog w (K w.params) mg base (CX w) k fa fd [x] (sp w))
    (hsp : ∀ (w : World) (H : Hp) (a : Addr) (ns : List Int), ns.length ≤ n → Only H → SqL (K w.params) H a (ns.map V.int) → sp w [.ref a] H (fun v _ => v = .bl true) fun _ _ _ => False)
    (hCX : ∀ (w : World) (H : Hp) (s : Shared) (e : Value) (s' : Shared), CX w [] H s (fun _ _ _ => False) e s' → False) :
    PySem.W.WalkO q loose XP YP l.row.toRowW d [] (fun f vs => PySem.call f vs) := by
  refine Att.attach_call hn hdf fun w s₀ s₁ mg mb fa o pm cd doc a vs ns G Y ho hd hcd hmg hobj hints hlen hg => ?_
  have KX := hY w _ Y
  obtain ⟨fd, hb, hF⟩ := F w mg fa _ KX G.T.g hmg
  exact law_call KX G.T.g G.T.b G.T.builtins G.T.nolimit hg hobj hints (Nat.le_trans hlen hn2) hr hF hb (fun H hO hS => hsp w H a ns hlen hO hS) fun H e s' => hCX w H s₁ e s'
end L2
/- THE LAST THEOREM (shape; LID, My.* are yours):
   My.Adr: a structure of the addresses that your layer names (classes, functions); My.Txt K t: a structure (Prop) of the equations over K;
   My.txt_mk : {K} {implicit addresses ..} (e1 : nsIn K mainGlobals "law" = some (some (.ref f))) (e2 : K.lookup f = some ⟨oc, od, .func (fnOf "law" "law" params body scope dV kV doc pm an cdv ct), sl⟩) (e3 : codeIn K cdv "law" = true) .. : ∃ t, My.Txt K t

set_option maxRecDepth 100000 in
set_option maxHeartbeats 0 in
theorem PySem.Challenge.cw_LID_holds : PySem.Challenge.rw_LID.Holds := by
  w_on; o_law; k_head; (case hw => w_witness2)
  k_fill
  refine L2.walk_of (l := PySem.Challenge.rw_LID) (n := 63) (k := 40) (x := "script") (CX := fun w => ..) (sp := fun _ => My.sp_law) rfl (by decide) rfl ⟨rfl, by decide, by decide⟩ (fun w h Y => PySem.W.kIn_of Y) ?F ?S ?C
  case F =>
    intro w mg fa h KX G hmg
    have T : ∃ t, My.Txt (L2.KOf KX) t := by
      dsimp only [L2.KOf]                          -- K must stand as «<heap const> w.params» for k_is
      refine' My.txt_mk ?e1 ?e2 ?e3 ..
      (case e1 => PySem.W.k_is)                    -- in the order: a name -> its address -> its object -> its parts
      (case e2 => PySem.W.k_is)
      ..
    obtain ⟨t, T⟩ := T
    have e0 := hmg.symm.trans (PySem.W.mg_of KX G T.law)
    cases e0                                       -- fa is the law's own address
    exact ⟨_, fun s u => .of_eq rfl, fun base kb nb => My.law_fn T kb nb⟩     -- if «.of_eq rfl» comes too early: refine' ⟨_, ?b, fun base kb nb => My.law_fn T kb nb⟩; exact fun s u => .of_eq rfl
  case S => exact fun w H a ns hl hO hS => ..
  case C => exact ..
(the tactic k_is has no namespace: write k_is) -/
/-! SHORT WORDS over the layer: a def of the text, its body, what a loop and a test want. -/
namespace L2
open PySem PySem.Spec PyProof.Rows
/-! ### the text by places -/
/-- the j-th statement of a class's body -/
def inClass (s : Stmt) (j : Nat) : Stmt := match s with
  | .ClassDef _ _ _ body _ _ _ _ _ _ _ => body.getD j (.Pass ⟨0, 0, 0, 0⟩)
  | _ => .Pass ⟨0, 0, 0, 0⟩
def defArgs (s : Stmt) : Arguments := match s with
  | .FunctionDef _ a _ _ _ _ _ _ _ _ => a
  | _ => { posonlyargs := [], args := [], vararg := none, kwonlyargs := [], kw_defaults := [], kwarg := none, defaults := [] }
def defBody (s : Stmt) : List Stmt := match s with
  | .FunctionDef _ _ b _ _ _ _ _ _ _ => b
  | _ => []
def defScope (s : Stmt) : Scope := match s with
  | .FunctionDef _ _ _ _ _ _ sc _ _ _ => sc
  | _ => { kind := .function, names := [], isGenerator := false, isCoroutine := false }
/-! ### no exception leaves a def -/
abbrev CX0 : CXT := fun _ _ _ _ _ _ => False
abbrev E0 : XK := fun _ _ _ => False
/-! ### a def (or method) of the text as it stands behind the top -/
structure Fun (K : PySem.W.Frag) (x qual : Str) (st : Stmt) (f : Addr) (fd : FuncData) : Prop where
  ex : ∃ (oc : Value) (od : Option Addr) (kV doc pm : Value) (an : Option Addr) (cdv ct : Value) (osl : Array (Option Value)),
    fd = PySem.W.fnOf x qual (defArgs st) (defBody st) (defScope st) .none kV doc pm an cdv ct ∧ K.lookup f = some ⟨oc, od, .func fd, osl⟩ ∧ PySem.W.codeIn K cdv qual = true
  kp : PySem.W.keepIn K (.ref f) = true
section
variable {P : Program} {w : World} {K : PySem.W.Frag} {mg : Str → Option Value} {base : Heap}
/-- THE RULE for a def: its body as a term of rules, and the reading of that term -/
theorem Fun.ok {x qual : Str} {st : Stmt} {f : Addr} {fd : FuncData} {N ps : List Str} {k : Nat} {sp : Sp} (F : Fun K x qual st f fd) (S : FnScope N ps (defScope st)) (len : ∀ vs H Q E, sp vs H Q E → vs.length = ps.length)
    (hbody : ∀ (cdv : Value) (A : Around) (outer : List Env) (s : Shared) (H : Hp) (vs : List V) (Q : VK) (E : XK), Room k (A.deeper (envOfC qual (defScope st) s.heap.objs.size f cdv)) → sp vs H Q E →
      ∃ t, PSs (cxOf CX0 P w K mg base N qual (defScope st) f cdv A outer s H E).nox (defBody st) t ∧ t { nx := fun _ H' => Q .non H', rt := Q } (start N vs) H) : FnOk P w K mg base CX0 (k + 1) f fd ps sp := by
  obtain ⟨oc, od, kV, doc, pm, an, cdv, ct, osl, rfl, lk, hcd⟩ := F.ex
  refine fn_of lk hcd S len fun A outer s H vs Q E hr hsp => ?_
  obtain ⟨t, h, q⟩ := hbody cdv A outer s H vs Q E hr hsp
  exact ⟨t, h.nox, q⟩
/-- how its arguments bind (no defaults): h is «fun _ _ _ _ _ _ us hl => match us, hl with | [_, _], _ => rfl», one _ a parameter -/
theorem Fun.binds {x qual : Str} {st : Stmt} {f : Addr} {fd : FuncData} {ps : List Str} (F : Fun K x qual st f fd)
    (h : ∀ (kV doc pm : Value) (an : Option Addr) (cdv ct : Value) (us : List Value), us.length = ps.length → bindArgs (PySem.W.fnOf x qual (defArgs st) (defBody st) (defScope st) .none kV doc pm an cdv ct) ⟨us, []⟩ = pure (ps.zip us)) : Binds K fd ps [] := by
  obtain ⟨oc, od, kV, doc, pm, an, cdv, ct, osl, rfl, lk, hcd⟩ := F.ex
  exact .all (h kV doc pm an cdv ct)
end
/-! ### expressions in short: the name that stands in the i-th slot -/
section
variable {X : Cx}
theorem pv (i : Nat) {x : Str} {pos : Pos} (hN : X.N[i]? = some x := by rfl) (hv : Vis X.env.scope x := by first | exact Or.inl rfl | exact Or.inr (Or.inl rfl) | exact Or.inr (Or.inr rfl)) (hd : (x == ("__debug__" : Str)) = false := by decide)
    (hcd : (x == ("__classdict__" : Str)) = false := by decide) : PE X (.Name x pos) (tVar i) := pe_var hN hv hd hcd
end
/-! ### tests -/
/-! ### heaps -/
/-- all that was tracked is as it was -/
def Same (H H' : Hp) : Prop := ∀ b o, H b = some o → H' b = some o
theorem Same.refl (H : Hp) : Same H H := fun _ _ h => h
theorem Same.trans {H H1 H2 : Hp} (a : Same H H1) (b : Same H1 H2) : Same H H2 := fun c o h => b c o (a c o h)
theorem Same.free {H H' : Hp} (e : Same H H') {l : Addr} (h : H' l = Option.none) : H l = Option.none := by
  cases q : H l with
  | none => rfl
  | some o =>
    rw [e l o q] at h
    cases h
theorem Same.seq {K : PySem.W.Frag} {H H' : Hp} {a : Addr} {xs : List V} (e : Same H H') (h : SqL K H a xs) : SqL K H' a xs := by
  rcases h with (h | ⟨o, h⟩) | h
  · exact .inl (.inl (e _ _ h))
  · exact .inl (.inr ⟨o, e _ _ h⟩)
  · exact .inr h
end L2
set_option Elab.async false
set_option linter.all false
set_option maxRecDepth 100000
set_option maxHeartbeats 4000000
/-! OWN RULES over the layer: exceptions of own classes, raised, passed on, caught. -/
namespace L2
open PySem PySem.Spec PyProof.Rows
theorem ObjOk.there {P : Program} {w : World} {H : Hp} {h : Heap} {a : Addr} {o : HO} (x : ObjOk P w H h a o) : ∃ ob, h.get? a = some ob := by
  cases o with
  | lst xs => obtain ⟨_, _, _, _, e⟩ := x; exact ⟨_, e⟩
  | tup xs => obtain ⟨_, _, _, ob, e, _⟩ := x; exact ⟨_, e⟩
  | dK kvs => obtain ⟨_, _, _, _, o, _, _, e, _⟩ := x; exact ⟨_, e⟩
  | dT kvs => obtain ⟨_, _, _, _, o, _, _, e, _⟩ := x; exact ⟨_, e⟩
  | set S n => obtain ⟨o, _, _, _, e, _⟩ := x; exact ⟨_, e⟩
  | ins C dx fs => obtain ⟨_, _, _, e, _⟩ := x; exact ⟨_, e⟩
  | own y => exact x
  | xd fs => obtain ⟨_, ⟨_, _, _, e, _⟩, _⟩ := x; exact ⟨_, e⟩
  | rng lo hi => obtain ⟨_, _, _, e⟩ := x; exact ⟨_, e⟩
  | frz ob u => obtain ⟨e, _⟩ := x; exact ⟨_, e⟩
  | tbl ps => exact ⟨_, (show h.get? a = some _ from x)⟩
  | met f y => exact ⟨_, (show h.get? a = some _ from x)⟩
  | ext φ => obtain ⟨_, e, _⟩ := x; exact e
/-- an exception flies behind a call: B bears all that is tracked, and what stood ahead of the call -/
def Flown (H : Hp) (s : Shared) (l : List Env) (H' : Hp) (e : Addr) (C : Value) (s' : Shared) : Prop :=
  s.heap.get? e = none ∧ ∃ (B : Heap) (a0 : Value), Heap.FlyingW B l e C a0 s'.heap ∧ (∀ b o, H' b = some o → ∃ ob, B.get? b = some ob) ∧
    (∀ b o, s.heap.get? b = some o → H b = none → b ∉ frs l → B.get? b = some o) ∧ ∀ b o, s.heap.get? b = some o → b ∉ frs l → ∃ ob, B.get? b = some ob
/-- how an exception lies behind a call -/
def CX1 (P : Program) (w : World) : CXT := fun outer H s E ev s' =>
  ∃ (e : Addr) (C : Value) (H' : Hp), ev = .ref e ∧ s'.os = s.os ∧ AllBare s'.gens ∧ Un (frs outer) [] H H' s.heap s'.heap ∧ HOk P w H' s'.heap ∧ Flown H s outer H' e C s' ∧ E C none H'
theorem flown_un {H H' : Hp} {s : Shared} {l : List Env} {h1 h' B : Heap} {e : Addr} {C a0 : Value} (un : Un (frs l) [] H H' s.heap h1) (fl : Heap.FlyingW B l e C a0 h1)
    (b2 : ∀ b o, s.heap.get? b = some o → H b = none → b ∉ frs l → B.get? b = some o) (b3 : ∀ b o, s.heap.get? b = some o → b ∉ frs l → ∃ ob, B.get? b = some ob) (st : B.StaysIn h') (us : h1.UpToSlots h') :
    Un (frs l) [] H H' s.heap h' where
  keep := fun b o q n nf _ => st b o (b2 b o q n nf)
  slot := fun b o q n hf _ => by
    obtain ⟨sl, g⟩ := un.slot b o q n hf (by simp)
    obtain ⟨_, o', ho', hd⟩ := fl.2.2.1.mem hf
    rw [g] at ho'; cases ho'
    obtain ⟨sl', g'⟩ := us b _ g hd
    exact ⟨sl', g'⟩
  free := un.free
  there := fun b o q _ => by
    by_cases hf : b ∈ frs l
    · obtain ⟨_, o', ho', hd⟩ := fl.2.2.1.mem hf
      obtain ⟨sl', g'⟩ := us b o' ho' hd
      exact ⟨_, g'⟩
    · obtain ⟨ob, z⟩ := b3 b o q hf
      exact ⟨ob, st b ob z⟩
  tups := un.tups
  frzs := un.frzs
  tbls := un.tbls
theorem flown_hok {P : Program} {w : World} {H' : Hp} {h1 h' B : Heap} (hok : HOk P w H' h1) (b1 : ∀ b o, H' b = some o → ∃ ob, B.get? b = some ob) (st0 : B.StaysIn h1) (st : B.StaysIn h') : HOk P w H' h' := fun a o ea =>
  (hok a o ea).stay (fun b u hb q => by
    have t : ∃ o', H' b = some o' := by
      rcases hb with e | z
      · exact ⟨_, by rw [e]; exact ea⟩
      · exact ⟨_, z⟩
    obtain ⟨o', eo⟩ := t
    obtain ⟨ob, z⟩ := b1 b o' eo
    have z2 := st0 b ob z
    rw [q] at z2; cases z2
    exact st b u z) (fun _ q => q) fun _ _ q => q
/-- where a raise in this body leads -/
def RaisesTo (X : Cx) (E : XK) : Prop :=
  ∀ (pins : List (Addr × Obj)) (σ : St) (H : Hp) (s : Shared) (h' : Heap) (e C : Addr) (args : List Value), Inv X pins σ H s → Heap.MadeExcOf s.heap h' e (.ref C) args → E (.ref C) none H → X.xe (.ref e) { s with heap := h' }
section
variable {P : Program} {w : World} {K : PySem.W.Frag} {mg : Str → Option Value} {base : Heap} {N : List Str} {qual : Str} {scope : Scope} {f : Addr} {cd : Value} {A : Around} {outer : List Env} {s₀ : Shared} {H₀ : Hp} {E : XK}
theorem cx_nst {pins : List (Addr × Obj)} {σ : St} {H : Hp} {s : Shared} {X : Cx} (I : Inv X pins σ H s) : ∀ b o, X.s₀.heap.get? b = some o → b ∉ frs X.outer → b ∉ frs X.stack := fun b o q1 q3 z => by
  rcases List.mem_cons.mp (I.stkSub b z) with e1 | e1
  · have l1 := Nat.lt_of_lt_of_le (Heap.lt_size q1) I.ok.above
    rw [e1] at l1
    exact Nat.lt_irrefl _ l1
  · exact q3 e1
theorem cx_passes : Passes (CX1 P w) (cxOf (CX1 P w) P w K mg base N qual scope f cd A outer s₀ H₀ E) E := by
  intro pins σ H s ev s' I h
  obtain ⟨e, C, H', rfl, ho, hg, un, hok, ⟨new, B, a0, fl, b1, b2, b3⟩, q⟩ := h
  show wpAny (model P w) _ (leaving (envOfC qual scope s₀.heap.objs.size f cd) (.ref e)) _ _ s'
  refine wpAny_leaves_onW (outer := outer) I.ok.frames rfl fl fun h' fl' us => ?_
  have un' := flown_un un fl b2 b3 fl'.1 us
  have hok' : HOk P w H' h' := flown_hok hok b1 fl.1 fl'.1
  have I' := I.call' (s' := { s' with heap := h' }) ho un' hok' hg (fun _ z => nomatch z)
  have nst := cx_nst I
  refine ⟨e, C, H', rfl, I'.os, hg, I'.base, hok', ⟨?_, B, a0, fl', b1, fun b o q1 q2 q3 => ?_, fun b o q1 q3 => ?_⟩, q⟩
  · cases z : s₀.heap.get? e with
    | none => rfl
    | some o =>
      obtain ⟨o', z'⟩ := I.base.there e o z List.not_mem_nil
      rw [new] at z'; cases z'
  · exact b2 b o (I.base.keep b o q1 q2 q3 List.not_mem_nil) (I.base.free b o q1 q2 List.not_mem_nil) (nst b o q1 q3)
  · obtain ⟨o', z'⟩ := I.base.there b o q1 List.not_mem_nil
    exact b3 b o' z' (nst b o q1 q3)
theorem cx_raises : RaisesTo (cxOf (CX1 P w) P w K mg base N qual scope f cd A outer s₀ H₀ E) E := by
  intro pins σ H s h' e C args I mk q
  show wpAny (model P w) _ (leaving (envOfC qual scope s₀.heap.objs.size f cd) (.ref e)) _ _ _
  have hin : ∀ env ∈ (envOfC qual scope s₀.heap.objs.size f cd :: outer), ∀ b, env.frame = some b → b ∈ frs (envOfC qual scope s₀.heap.objs.size f cd :: outer) := fun env he b hb => List.mem_filterMap.mpr ⟨env, he, hb⟩
  refine wpAny_leaves_madeW (outer := outer) (base := PySem.W.hideAll s.heap (frs (envOfC qual scope s₀.heap.objs.size f cd :: outer))) I.ok.frames rfl (fun b o z => PySem.W.of_hideAll _ z) (PySem.W.funFrames_hide I.stack hin) mk fun h'' t fl tup bt us => ?_
  have b2 : ∀ b o, s.heap.get? b = some o → b ∉ frs (envOfC qual scope s₀.heap.objs.size f cd :: outer) → (PySem.W.hideAll s.heap (frs (envOfC qual scope s₀.heap.objs.size f cd :: outer))).get? b = some o := fun b o z nf => PySem.W.hideAll_get _ z nf
  have b1 : ∀ b o, H b = some o → ∃ ob, (PySem.W.hideAll s.heap (frs (envOfC qual scope s₀.heap.objs.size f cd :: outer))).get? b = some ob := fun b o z => by
    obtain ⟨ob, g⟩ := (I.hok b o z).there
    exact ⟨ob, b2 b ob g fun zz => by rw [I.stkFree b zz] at z; cases z⟩
  have un : Un (frs (envOfC qual scope s₀.heap.objs.size f cd :: outer)) [] H H s.heap h'' :=
    { keep := fun b o q1 _ nf _ => fl.1 b o (b2 b o q1 nf)
      slot := fun b o q1 _ hf _ => by
        obtain ⟨_, o', ho', hd⟩ := I.stack.mem hf
        rw [q1] at ho'; cases ho'
        exact us b o (mk.keeps b o q1) hd
      free := fun _ _ _ n _ => n
      there := fun b o q1 _ => by
        by_cases hf : b ∈ frs (envOfC qual scope s₀.heap.objs.size f cd :: outer)
        · obtain ⟨_, o', ho', hd⟩ := I.stack.mem hf
          rw [q1] at ho'; cases ho'
          obtain ⟨sl, g⟩ := us b o (mk.keeps b o q1) hd
          exact ⟨_, g⟩
        · exact ⟨o, fl.1 b o (b2 b o q1 hf)⟩
      tups := fun _ _ z => z
      frzs := fun _ _ _ z => z
      tbls := fun b ps z => ⟨#[], by rw [z]; simp⟩ }
  have hok' : HOk P w H h'' := flown_hok I.hok b1 (fun b o z => PySem.W.of_hideAll _ z) fl.1
  have I' := I.call' (s' := { s with heap := h'' }) rfl un hok' I.bare (fun _ z => nomatch z)
  have nst := cx_nst I
  refine ⟨e, .ref C, H, rfl, I'.os, I.bare, I'.base, hok', ⟨?_, _, _, fl, b1, fun b o q1 q2 q3 => ?_, fun b o q1 q3 => ?_⟩, q⟩
  · cases z : s₀.heap.get? e with
    | none => rfl
    | some o =>
      obtain ⟨o', z'⟩ := I.base.there e o z List.not_mem_nil
      have n := mk.new
      rw [z'] at n; cases n
  · exact b2 b o (I.base.keep b o q1 q2 q3 List.not_mem_nil) (nst b o q1 q3)
  · obtain ⟨o', z'⟩ := I.base.there b o q1 List.not_mem_nil
    exact ⟨o', b2 b o' z' (nst b o q1 q3)⟩
end
/-- no exception is wanted -/
theorem passE0 {P : Program} {w : World} {X : Cx} : Passes (CX1 P w) X E0 := fun _ _ _ _ _ _ _ ⟨_, _, _, _, _, _, _, _, _, q⟩ => q.elim
/-! ### raise -/
abbrev vErr : List Value := [.type "ValueError", .type "Exception", .type "BaseException", .type "object"]
/-- an own error class under ValueError, without an __init__ -/
def ExcCls (K : PySem.W.Frag) (C : Addr) : Prop := PySem.W.excIn K C vErr "ValueError.__new__" = true
theorem exc_obj {K : PySem.W.Frag} {h : Heap} {C : Addr} (X : K.In h) (q : ExcCls K C) :
    ∃ bm N nm qn bs hdct sn sub ab col dd k0 k1 k2 k3 k5 mN, h.get? C = some (excClassObj nm qn C N bs bm hdct sn sub ab col dd k0 k1 k2 k3 k5 "ValueError.__new__") ∧ h.Ns N mN ∧ mN "__init__" = none ∧ OwnTail h vErr bm := by
  unfold ExcCls PySem.W.excIn at q
  split at q
  · rename_i dd cd sl ho
    split at q
    · rename_i C' bm k0 k1 k2 k3 n k5 hm hs
      simp only [Bool.and_eq_true, beq_iff_eq, Bool.not_eq_true'] at q
      obtain ⟨⟨⟨⟨⟨rfl, rfl⟩, hdel⟩, ht⟩, hok⟩, hni⟩ := q
      obtain ⟨nm, bs, mro, ns, qn, hd, sn, sub, ab, col, del⟩ := cd
      dsimp only at hm hdel hok hni
      subst hm hdel
      have hsl : sl = #[k0, k1, k2, k3, some (.builtin "ValueError.__new__"), k5] := by
        obtain ⟨l⟩ := sl
        simp only at hs
        rw [hs]
      subst hsl
      exact ⟨bm, ns, nm, qn, bs, hd, sn, sub, ab, col, dd, k0, k1, k2, k3, k5, _, X _ _ ho, .of_isNs (PySem.W.isNs_of_in X hok), PySem.W.nsMap_none_of_in X hok hni, PySem.W.tail_of_in X ht⟩
    · cases q
  · cases q
section
variable {X : Cx} {a : Expr} {te : TE}
def tRaise (C : Addr) (E : XK) (te : TE) : TS := fun _ σ H => te σ H fun x H1 => ([x] : List V).length = 1 ∧ E (.ref C) none H1
theorem ps_raise {x : Str} {C : Addr} {np cpos pos : Pos} {E : XK} (hg : Gl X x) (hm : X.mg x = some (.ref C)) (hC : ExcCls X.K C) (hc : X.calm = true) (hr : RaisesTo X E) (ha : PE X a te)
    (hdb : (x == ("__debug__" : Str)) = false := by decide) (he : starEach [a] X.env = [(false, eval a X.env)] := by rfl) :
    PS X (.Raise (some (.Call (.Name x np) [a] [] cpos)) none pos) (tRaise C E te) := by
  intro pins s σ H D I h
  obtain ⟨bm, N, nm, qn, bs, hdct, sn, sub, ab, col, dd, k0, k1, k2, k3, k5, mN, oC, hN, hni, T⟩ := exc_obj I.ok.mod.kin hC
  refine wpAny_Raise_call_subT (C := C) (nm := nm) (q := qn) (N := N) (bs := bs) (bm := bm) (hdct := hdct) (sn := sn) (sub := sub) (ab := ab) (col := col) (dd := dd) (k0 := k0) (k1 := k1) (k2 := k2) (k3 := k3) (k5 := k5)
    PySem.F.excBase_ValueError (mN := mN) (T.hasType PySem.F.excBase_ValueError.hasBase) (I.ok.hd hc) (by rw [he]; rfl) hni (ld_glob I hg hm ⟨rfl, ?_⟩ hdb)
  have hP := pa_cons ha pa_nil he cpos pins s σ H (fun vs H1 => vs.length = 1 ∧ E (.ref C) none H1) I h
  rw [he] at hP ⊢
  refine Calls.evalArgs_plain (wpAny_mono hP (fun vs s2 ⟨us, H1, I1, r, hl, q⟩ => ?_) fun _ _ y => y)
  refine ⟨rfl, ?_, I1.bk _ _ oC, hN.keeps I1.bk, T.keeps I1.bk, fun h' e mk => hr pins σ H1 s2 h' e C vs I1 mk q⟩
  show vs.length ≤ sizeLine
  rw [← r.length, hl]
  decide
end
/-! ### f-strings: some text -/
section
variable {X : Cx}
abbrev TJ := St → Hp → (Hp → Prop) → Prop
def PJ (X : Cx) (es : List Expr) (t : TJ) : Prop :=
  ∀ (out : Str) (pins : List (Addr × Obj)) (s : Shared) (σ : St) (H : Hp) (Q : Hp → Prop), out.length + 2000 * es.length ≤ 1000000 → Inv X pins σ H s → t σ H Q →
    wpAny (model X.prog X.w) X.A (joinParts out (evalEach es X.env)) (EP X pins σ fun v H' => (∃ z, v = .str z) ∧ Q H') X.xe s
theorem pj_nil : PJ X [] (fun _ H Q => Q H) := fun out pins s σ H Q hl I h =>
  joinParts_nil ⟨.str out, H, I.tok _, ⟨_, rfl⟩, ⟨_, rfl⟩, h⟩ (by have : (sizeLine : Nat) = 16777216 := rfl; simp at hl; omega)
theorem pj_str {c : Str} {k : Nat} {p : Pos} {es : List Expr} {t : TJ} (hr : PJ X es t) (hc : c.length ≤ 2000 := by decide) : PJ X (.Constant (.str c) k p :: es) t := fun out pins s σ H Q hl I h => by
  have hz : (out ++ c).length = out.length + c.length := strLen_append _ _
  have hl' : out.length + 2000 * (es.length + 1) ≤ 1000000 := by simpa using hl
  show wpAny _ _ (joinParts out (eval (.Constant (.str c) k p) X.env :: evalEach es X.env)) _ _ s
  refine joinParts_cons (Calls.Constant_str ⟨?_, hr (out ++ c) pins _ σ H Q (by rw [hz]; omega) (I.tok _) h⟩)
  have : (sizeLine : Nat) = 16777216 := rfl
  rw [hz]; omega
theorem pj_int {e : Expr} {p : Pos} {es : List Expr} {te : TE} {t : TJ} (he : PE X e te) (hr : PJ X es t) :
    PJ X (.FormattedValue e (-1) none p :: es) (fun σ H Q => te σ H fun x H1 => ∃ i, x = .int i ∧ i.natAbs.log2 < 1920 ∧ t σ H1 Q) := fun out pins s σ H Q hl I h => by
  have hl' : out.length + 2000 * (es.length + 1) ≤ 1000000 := by simpa using hl
  show wpAny _ _ (joinParts out (eval (.FormattedValue e (-1) none p) X.env :: evalEach es X.env)) _ _ s
  refine joinParts_cons (FormattedValue_plain (thn (he pins s σ H _ I h) fun v s1 ⟨x, H1, I1, r, q⟩ => ?_))
  obtain ⟨i, rfl, hi, q⟩ := q
  obtain ⟨tk, rfl⟩ := r
  have hlen : (Str.ofString (toString i)).length ≤ 1921 := by
    have := int_text_length_le (a := i) (k := 1920) (by decide) hi
    rw [PySem.ofString_length]; exact this
  have hz : (out ++ Str.ofString (toString i)).length = out.length + (Str.ofString (toString i)).length := strLen_append _ _
  refine formatField_int_small hi ⟨?_, hr (out ++ Str.ofString (toString i)) pins _ σ H1 Q (by rw [hz]; omega) (I1.tok _) q⟩
  have : (sizeLine : Nat) = 16777216 := rfl
  rw [hz]; omega
def tFstr (t : TJ) : TE := fun σ H Q => t σ H fun H1 => ∀ z, Q (.str z) H1
theorem pe_fstr {v1 v2 : Expr} {rest : List Expr} {pos : Pos} {t : TJ} (h : PJ X (v1 :: v2 :: rest) t) (hl : 2000 * (v1 :: v2 :: rest).length ≤ 1000000 := by decide) : PE X (.JoinedStr (v1 :: v2 :: rest) pos) (tFstr t) := fun pins s σ H Q I hw => by
  refine JoinedStr_many (thn (h Str.empty pins s σ H _ (by simpa [Str.empty, Str.length] using hl) I hw) fun v s' ⟨x, H', I', r, ⟨z, hz⟩, q⟩ => ⟨x, H', I', r, ?_⟩)
  rw [hz]
  exact q z
end
end L2
set_option Elab.async false
set_option linter.all false
set_option maxRecDepth 100000
set_option maxHeartbeats 4000000
namespace L2
open PySem PySem.Spec PyProof.Rows
/-! ### isinstance of an exception of one's own -/
/-- what of the text an own error class must have to be asked for -/
structure ExcK (K : PySem.W.Frag) (C : Addr) : Prop where
  cls : PySem.W.isClsIn K C = true
  ga : PySem.W.findIn K (.ref C) "__getattribute__" = some (some (.builtin "BaseException.__getattribute__"))
  gn : PySem.W.findIn K (.ref C) "__getattr__" = some none
  gc : PySem.W.findIn K (.ref C) "__class__" = some (some (.builtin "object.__class__"))
  ob : PySem.W.mroIn K C (.type "object") = some true
  be : PySem.W.mroIn K C (.type "BaseException") = some true
def ExcAt (e C : Addr) (h : Heap) : Prop := ∃ o vs, h.get? e = some o ∧ o.cls = .ref C ∧ o.data = .fields vs
section
variable {prog : Program} {w : World} {A : Around} {E : Value → Shared → Prop} {h : Heap} {g : Array GenState} {d : Drawn} {t : Nat} {os : OsState} {K : PySem.W.Frag} {e C : Addr}
theorem exc_ty {M : Model} (p : ExcAt e C h) : PySem.W.Looks M h (typeOf (.ref e)) (.ref C) := by
  obtain ⟨o, vs, ho, hc, _⟩ := p
  exact hc ▸ (PySem.W.Looks.ld ho).andThen .now
theorem exc_get {R : Result → Shared → Prop} (X : K.In h) (F : ExcK K C) (p : ExcAt e C h) (hq : R (.ok (.ret (.ref C))) ⟨h, g, d, t, os⟩) :
    codeAny (model prog w) A (.call (.builtin "getset_descriptor.__get__") ⟨[.builtin "object.__class__", .ref e, .ref C], []⟩) R ⟨h, g, d, t, os⟩ := by
  have L0 := exc_ty (M := model prog w) p
  have L1 := PySem.W.looks_mroIn (M := model prog w) X F.ob
  refine codeAny_call_builtin PySem.W.KF.slot_gs.plain PySem.W.KF.entry_gs (PySem.W.KF.slot_gs.check _ _ _ _ _ _ _ _ PySem.W.KF.type_class (PySem.W.KF.args_gs _ _ _) ?_)
  unfold Builtin.«getset_descriptor.__get__» Builtin.Getset_descriptor.descrGet
  rw [PySem.W.dga_obj]
  refine wpAny_bind (wpAny_pure ?_)
  unfold Builtin.Getset_descriptor.descrGetter Builtin.Getset_descriptor.descrCheckInstance Builtin.Getset_descriptor.descrNameAndClass isInstance
  simp only [PySem.W.KF.owner_class]
  repeat lk
  refine ⟨Code.quiet_builtin _ (by decide +kernel), codeAny_builtin PySem.W.KF.entry_class ?_⟩
  unfold Builtin.«object.__class__» shownTypeOf
  repeat lk
  exact hq
theorem exc_check {M : Model} {nameV : Value} {Q : Unit → Shared → Prop} (X : K.In h) (F : ExcK K C) (p : ExcAt e C h) (hq : Q () ⟨h, g, d, t, os⟩) :
    wpAny M A (checkBuiltinCall "BaseException.__getattribute__" ⟨[.ref e, nameV], []⟩) Q E ⟨h, g, d, t, os⟩ := by
  have hk : builtinKind "BaseException.__getattribute__" = some .slot := by decide +kernel
  have hsplit : splitId "BaseException.__getattribute__" = some ("BaseException", "__getattribute__") := by decide +kernel
  have L0 := exc_ty (M := M) p
  have L1 := PySem.W.looks_mroIn (M := M) X F.be
  have ha := PySem.F.args_bexc_ga (.ref e) nameV
  simp only [checkBuiltinCall, hk, hsplit]
  refine wpAny_bind ?_
  · unfold isInstance
    repeat (first | with_reducible refine PySem.W.Looks.at (by assumption) ?_ | wp_step)
    exact hq
theorem exc_entry {tk : Tok} {Q : Fin → Shared → Prop} (X : K.In h) (F : ExcK K C) (p : ExcAt e C h) (hq : Q (.done (.ret (.ref C))) ⟨h, g, d, t, os⟩) :
    wpAny (model prog w) A (Builtin.«object.__getattribute__» ⟨[.ref e, .str "__class__" tk], []⟩) Q E ⟨h, g, d, t, os⟩ := by
  have hT5 : (⟨h, g, d, t, os⟩ : Shared).TypeIs (.builtin "object.__class__") "getset_descriptor" := PySem.F.typeOf_object_class
  have f5 := PySem.F.typeOf_object_class
  have f6 := PySem.F.slot_gs_get.lookup
  have f7 := PySem.F.slot_gs_set.lookup
  have L0 := exc_ty (M := model prog w) p
  have L1 := PySem.W.looks_findIn (M := model prog w) X F.gc
  repeat (any_goals (first | assumption | with_reducible refine PySem.W.Looks.at (by assumption) ?_ | wp_step))
  refine exc_get X F p ?_
  repeat (any_goals (first | assumption | wp_step))
theorem exc_by {tk : Tok} {Q : Value → Shared → Prop} (X : K.In h) (F : ExcK K C) (p : ExcAt e C h) (hq : Q (.ref C) ⟨h, g, d, t, os⟩) :
    wpAny (model prog w) A (getAttrBy (.ref e) (.str "__class__" tk) false) Q E ⟨h, g, d, t, os⟩ := by
  have f3 := PySem.F.attrBase_ValueError.ga.bind (.ref e)
  have hx2 : (Value.builtin "BaseException.__getattribute__" == Value.builtin "object.__getattribute__") = false := by decide +kernel
  have hx1 : (onTheHeap (Value.ref C) && Value.builtin "BaseException.__getattribute__" == Value.builtin "object.__getattribute__") = false := by rw [hx2]; rfl
  have L0 := exc_ty (M := model prog w) p
  have L1 := PySem.W.looks_findIn (M := model prog w) X F.ga
  have L2 := PySem.W.looks_findIn (M := model prog w) X F.gn
  repeat (any_goals (first | assumption | with_reducible refine PySem.W.Looks.at (by assumption) ?_ | wp_step))
  refine codeAny_call_builtin PySem.F.attrBase_ValueError.ga.plain PySem.F.entry_bexc_ga (exc_check X F p (exc_entry X F p ?_))
  repeat (any_goals (first | assumption | wp_step))
theorem exc_class {Q : Option Value → Shared → Prop} (X : K.In h) (F : ExcK K C) (p : ExcAt e C h) (hq : Q (some (.ref C)) ⟨h, g, d, t + 1, os⟩) :
    wpAny (model prog w) A (getAttr? (.ref e) "__class__") Q E ⟨h, g, d, t, os⟩ := by
  unfold getAttr? getAttrBy?
  repeat (any_goals (first | assumption | with_reducible apply exc_by X F p | wp_step))
theorem looks_isType {M : Model} (X : K.In h) (c : PySem.W.isClsIn K C = true) : PySem.W.Looks M h (isType (.ref C)) true := by
  unfold PySem.W.isClsIn PySem.W.clsIn at c
  split at c
  · rename_i c' d' cd' sl' ho
    intro A' Q' E' s' k q
    unfold isType loadHead
    exact wpAny_bind (wpAny_loadPart (k _ _ (X _ _ ho)) (wpAny_pure q))
  · cases c
theorem kitx_exc (F : ExcK K C) : PySem.W.KitX K (.ref e) (.ref C) (ExcAt e C) where
  ty := fun _ _ _ p => exc_ty p
  it := fun _ _ X _ => looks_isType X F.cls
  ne := fun h tp dd its n sl X htp => by
    have c := F.cls
    refine Bool.eq_false_iff.mpr fun q => ?_
    have e : C = tp := Value.ref.inj (beq_iff_eq.mp q)
    subst e
    unfold PySem.W.isClsIn PySem.W.clsIn at c
    split at c
    · rename_i c' d' cd' sl' ho
      have z := (X _ _ ho).symm.trans htp
      cases z
    · cases c
  ca := fun {_ _ _ _ _ s} X p k => by obtain ⟨h, g, d, t, os⟩ := s; exact exc_class X F p k
/-- does the class C0 take an exception of the class C -/
theorem exc_match {M : Model} {C0 : Addr} {Q : Bool → Shared → Prop} (X : K.In h) (p : ExcAt e C h) (c0 : PySem.W.isClsIn K C0 = true) (t0 : PySem.W.typeIn K (.ref C0) = some (.type "type"))
    (b0 : PySem.W.mroIn K C0 (.type "BaseException") = some true) (m0 : PySem.W.mroIn K C (.ref C0) = some true) (hq : Q true ⟨h, g, d, t, os⟩) : wpAny M A (excMatches (.ref e) (.ref C0)) Q E ⟨h, g, d, t, os⟩ := by
  have L0 := exc_ty (M := M) p
  have l1 := PySem.W.looks_typeIn (M := M) X t0
  have l2 := looks_isType (M := M) X c0
  have l3 := PySem.W.looks_mroIn (M := M) X b0
  have l4 := PySem.W.looks_mroIn (M := M) X m0
  have f := tc_notTuple
  unfold excMatches isInstance isExcClass
  repeat (first | with_reducible refine PySem.W.Looks.at (by assumption) ?_ | wp_step)
  exact hq
end
/-- an exception that was caught, tracked -/
def excO (e C : Addr) : HO := .ext (ExcAt e C)
theorem excO_ok {P : Program} {w : World} {H : Hp} {h : Heap} {e C : Addr} (p : ExcAt e C h) : ObjOk P w H h e (excO e C) :=
  ⟨p, ⟨_, p.choose_spec.choose_spec.1⟩, fun _ _ ⟨o, vs, ho, r⟩ k => ⟨o, vs, k o ho, r⟩⟩
/-- the kinds that isinstance asks -/
inductive TyX (K : PySem.W.Frag) (H : Hp) : V → Value → Prop where
  | of {x : V} {t : Value} (h : TyOf K H x t) : TyX K H x t
  | exc {e C : Addr} (h : H e = some (excO e C)) (F : ExcK K C) : TyX K H (.ref e) (.ref C)
def clsV : V → Option Value
  | .ref a => some (.ref a)
  | .ty n => some (.type n)
  | _ => none
theorem clsV_rel {c : V} {cv u : Value} (h : clsV c = some cv) (r : RelV c u) : u = cv := by
  cases c with
  | ref a => cases h; exact r
  | ty n => cases h; exact r
  | _ => cases h
section
variable {X : Cx}
theorem call_isi : CallR X (.builtin "isinstance") (fun xs H Q => ∃ x c t cv b, xs = [x, c] ∧ TyX X.K H x t ∧ clsV c = some cv ∧ PySem.W.kitOne X.K t cv = some b ∧ Q (.bl b) H) := by
  intro pins s σ H xs us Q I r h
  obtain ⟨x, c, t, cv, b, rfl, ty, hc, e, q⟩ := h
  obtain ⟨u, cu, rfl, rx, rc⟩ := vals2 r
  obtain rfl := clsV_rel hc rc
  cases ty with
  | of ty => exact isinst_ok I rx ty e fun tk => ⟨.bl b, H, I.tok _, rfl, q⟩
  | @exc ea C hH F =>
    cases (show u = Value.ref ea from rx)
    obtain ⟨p, _, _⟩ := (show ObjOk X.prog X.w H s.heap ea (.ext (ExcAt ea C)) from I.hok ea _ hH)
    exact PySem.W.kia_one (kitx_exc F) I.kIn p e (fun z => nomatch z) fun tk => ⟨.bl b, H, I.tok _, rfl, q⟩
end
/-! ### try -/
def noσ (X : Cx) : St := List.replicate X.N.length none
theorem noσ_get {X : Cx} {i : Nat} {v : V} (e : (noσ X)[i]? = some (some v)) : False := by
  unfold noσ at e
  rw [List.getElem?_replicate] at e
  split at e <;> cases e
theorem Inv.noσ {X : Cx} {pins : List (Addr × Obj)} {σ : St} {H : Hp} {s : Shared} (I : Inv X pins σ H s) : Inv X pins (L2.noσ X) H s :=
  I.weak (by unfold L2.noσ; rw [List.length_replicate, I.len]) fun i v e => (noσ_get e).elim
/-- the context of an except suite -/
abbrev Cx.hand (X : Cx) (pn : List (Addr × Obj)) (e : Addr) : Cx := { X with A := X.A.mark (some (.ref e)), calm := false, pn := pn, xe := fun _ _ => False }
abbrev Cx.tried (X : Cx) (pn : List (Addr × Obj)) (W : Value → Shared → Prop) : Cx := { X with pn := pn, xe := W }
theorem Cx.Ok.hand {X : Cx} (ok : X.Ok) (pn : List (Addr × Obj)) (e : Addr) : (X.hand pn e).Ok :=
  ⟨ok.mod, ok.kind, ok.glob, ok.blt, ok.above, ok.inj, ok.has, ok.cab, (fun z => nomatch z), ok.frames, ok.stk, ok.exf, ok.bs, ok.bsz, ok.noex, ok.exfs, ok.funs, ok.frf⟩
theorem Cx.Ok.unhand {X : Cx} (ok : X.Ok) (pn : List (Addr × Obj)) (W : Value → Shared → Prop) : (X.tried pn W).Ok :=
  ⟨ok.mod, ok.kind, ok.glob, ok.blt, ok.above, ok.inj, ok.has, ok.cab, ok.hd, ok.frames, ok.stk, ok.exf, ok.bs, ok.bsz, ok.noex, ok.exfs, ok.funs, ok.frf⟩
section
variable {X : Cx} {pins pn : List (Addr × Obj)} {σ : St} {H : Hp} {s : Shared} {W : Value → Shared → Prop} {e : Addr}
theorem Inv.tried (I : Inv X pins σ H s) : Inv (X.tried (X.pn ++ pins) W) [] σ H s :=
  ⟨I.ok.unhand _ _, I.os, I.bare, I.base, I.loc, I.cell, I.free, I.freeC, fun p hp => I.pin p (by simpa using hp), I.hok, I.len⟩
theorem Inv.untried (ok : X.Ok) (I : Inv (X.tried (X.pn ++ pins) W) [] σ H s) : Inv X pins σ H s :=
  ⟨ok, I.os, I.bare, I.base, I.loc, I.cell, I.free, I.freeC, fun p hp => I.pin p (by simpa using hp), I.hok, I.len⟩
theorem Inv.hand {pins' : List (Addr × Obj)} (I : Inv (X.tried pn W) pins' σ H s) (ok : X.Ok) : Inv (X.hand pn e) [] σ H s :=
  ⟨ok.hand _ _, I.os, I.bare, I.base, I.loc, I.cell, I.free, I.freeC, fun p hp => I.pin p (List.mem_append_left _ (by simpa using hp)), I.hok, I.len⟩
theorem Inv.unhand (ok : X.Ok) (I : Inv (X.hand (X.pn ++ pins) e) [] σ H s) : Inv X pins σ H s :=
  ⟨ok, I.os, I.bare, I.base, I.loc, I.cell, I.free, I.freeC, fun p hp => I.pin p (by simpa using hp), I.hok, I.len⟩
theorem SP.unhand {D D' : Ends} {f : Flow} {s' : Shared} (ok : X.Ok) (hn : ∀ σ H, D'.nx σ H → D.nx (noσ X) H) (hb : ∀ σ H, D'.bk σ H → D.bk (noσ X) H) (hc : ∀ σ H, D'.ct σ H → D.ct (noσ X) H) (hr : ∀ v H, D'.rt v H → D.rt v H)
    (h : SP (X.hand (X.pn ++ pins) e) [] D' f s') : ∃ H', Inv X pins (noσ X) H' s' ∧ ∀ s'', Inv X pins (noσ X) H' s'' → SP X pins D f s'' := by
  cases f with
  | next => obtain ⟨σ', H', I', q⟩ := h; exact ⟨H', (I'.unhand ok).noσ, fun s'' I'' => ⟨_, H', I'', hn _ _ q⟩⟩
  | brk => obtain ⟨σ', H', I', q⟩ := h; exact ⟨H', (I'.unhand ok).noσ, fun s'' I'' => ⟨_, H', I'', hb _ _ q⟩⟩
  | cont => obtain ⟨σ', H', I', q⟩ := h; exact ⟨H', (I'.unhand ok).noσ, fun s'' I'' => ⟨_, H', I'', hc _ _ q⟩⟩
  | ret u => obtain ⟨v, σ', H', I', r, q⟩ := h; exact ⟨H', (I'.unhand ok).noσ, fun s'' I'' => ⟨v, _, H', I'', r, hr _ _ q⟩⟩
theorem SP.untried {D : Ends} {f : Flow} {s' : Shared} (ok : X.Ok) (h : SP (X.tried (X.pn ++ pins) W) [] D f s') : SP X pins D f s' := by
  cases f with
  | next => obtain ⟨σ', H', I', q⟩ := h; exact ⟨σ', H', I'.untried ok, q⟩
  | brk => obtain ⟨σ', H', I', q⟩ := h; exact ⟨σ', H', I'.untried ok, q⟩
  | cont => obtain ⟨σ', H', I', q⟩ := h; exact ⟨σ', H', I'.untried ok, q⟩
  | ret u => obtain ⟨v, σ', H', I', r, q⟩ := h; exact ⟨v, σ', H', I'.untried ok, r, q⟩
end
/-- an own error class by which one catches -/
structure CatchK (K : PySem.W.Frag) (C0 : Addr) : Prop where
  c0 : PySem.W.isClsIn K C0 = true
  t0 : PySem.W.typeIn K (.ref C0) = some (.type "type")
  b0 : PySem.W.mroIn K C0 (.type "BaseException") = some true
/-- the ends of an except suite: all names are forgotten behind it -/
def hEnds (X : Cx) (D : Ends) : Ends := { nx := fun _ H => D.nx (noσ X) H, rt := D.rt, bk := fun _ H => D.bk (noσ X) H, ct := fun _ H => D.ct (noσ X) H }
/-- try: body; except C0: suite. tb: the body's reading for each wish about exceptions -/
def tTry (X : Cx) (C0 : Addr) (tb : XK → TS) (st : Addr → St) (th : Addr → TS) : TS := fun D σ H => ∃ E : XK, tb E D σ H ∧
  ∀ (Cv : Value) (od : Option Addr) (H' : Hp), E Cv od H' → ∃ C : Addr, Cv = .ref C ∧ PySem.W.mroIn X.K C (.ref C0) = some true ∧ ∀ e, H' e = none → th e (hEnds X D) (st e) (upd H' e (excO e C))
section
variable {X : Cx}
/-- what is true where the suite begins: from the exception in flight -/
theorem caught {pins : List (Addr × Obj)} {σ : St} {H1 H' : Hp} {s1 s2 : Shared} {W : Value → Shared → Prop} {e C : Addr} {h6 : Heap} {B : Heap} {a0 : Value}
    (I : Inv (X.tried pins W) [] σ H1 s1) (un : Un (frs X.stack) [] H1 H' s1.heap s2.heap) (hok : HOk X.prog X.w H' s2.heap) (ho : s2.os = s1.os) (hg : AllBare s2.gens) (new : s1.heap.get? e = none)
    (fl : Heap.FlyingW B X.stack e (.ref C) a0 s2.heap) (b1 : ∀ b o, H' b = some o → ∃ ob, B.get? b = some ob) (b2 : ∀ b o, s1.heap.get? b = some o → H1 b = none → b ∉ frs X.stack → B.get? b = some o)
    (b3 : ∀ b o, s1.heap.get? b = some o → b ∉ frs X.stack → ∃ ob, B.get? b = some ob) (fl6 : Heap.FlyingW B X.stack e (.ref C) a0 h6) (us : s2.heap.UpToSlots h6) :
    H' e = none ∧ ExcAt e C h6 ∧ Inv (X.tried pins W) [] σ H' { s2 with heap := h6 } ∧ Inv (X.tried pins W) [] σ (upd H' e (excO e C)) { s2 with heap := h6 } := by
  have un' := flown_un un fl b2 b3 fl6.1 us
  have hok' : HOk X.prog X.w H' h6 := flown_hok hok b1 fl.1 fl6.1
  have hn : H' e = none := by
    cases z : H' e with
    | none => rfl
    | some o => obtain ⟨ob, zb⟩ := b1 e o z; have := fl.2.1; rw [zb] at this; cases this
  have hE : ExcAt e C h6 := by
    obtain ⟨oe, ws, g1, g2, g3, _⟩ := fl6.first
    exact ⟨oe, ws, g1, g2, g3⟩
  refine ⟨hn, hE, I.call' (s' := { s2 with heap := h6 }) ho un' hok' hg (fun _ z => nomatch z), ?_⟩
  have ne1 : ∀ b o, s1.heap.get? b = some o → b ≠ e := fun b o z q => by rw [q, new] at z; cases z
  have neH : ∀ b o, H1 b = some o → b ≠ e := fun b o z => by
    obtain ⟨ob, g⟩ := (I.hok b o z).there
    exact ne1 b ob g
  have neH' : ∀ b o, H' b = some o → b ≠ e := fun b o z q => by rw [q, hn] at z; cases z
  refine I.call' (s' := { s2 with heap := h6 }) (ch := []) ho ?_ ?_ hg (fun _ z => nomatch z)
  · exact { keep := un'.keep
            slot := un'.slot
            free := fun b o q n x => by rw [upd_ne (ne1 b o q)]; exact un'.free b o q n x
            there := un'.there
            tups := fun b xs z => by rw [upd_ne (neH b _ z)]; exact un'.tups b xs z
            frzs := fun b o u z => by rw [upd_ne (neH b _ z)]; exact un'.frzs b o u z
            tbls := fun b ps z => by rw [upd_ne (neH b _ z)]; exact un'.tbls b ps z }
  · intro b o z
    by_cases hb : b = e
    · subst hb
      rw [upd_same] at z; cases z
      exact excO_ok hE
    · rw [upd_ne hb] at z
      exact (hok' b o z).stay (fun c u _ q => q) (fun c q => by rw [upd_ne (neH' c _ q)]; exact q) fun c xs q => by rw [upd_ne (neH' c _ q)]; exact q
theorem Inv.localsGone {pins : List (Addr × Obj)} {H : Hp} {s : Shared} {h' : Heap} {m' : Str → Option Value} {t' : Nat} (I : Inv X pins (L2.noσ X) H s) (hn : h'.Ns X.env.locals m') (sb : Heap.SameBut X.env.locals s.heap h') :
    Inv X pins (L2.noσ X) H { s with heap := h', toks := t' } := by
  have neL : ∀ b o, X.s₀.heap.get? b = some o → b ≠ X.env.locals := fun b o e => Nat.ne_of_lt (Nat.lt_of_lt_of_le (Heap.lt_size e) I.ok.above)
  have k : ∀ b o, b ≠ X.env.locals → s.heap.get? b = some o → h'.get? b = some o := fun b o n e => sb.extBut b o n e
  have kc : ∀ x c, X.env.cells.lookup x = some c → ∀ v, s.heap.IsCell c v → h'.IsCell c v := fun x c e v ⟨o, ho, hd⟩ => ⟨o, k c o (I.cne x c e) ho, hd⟩
  refine ⟨I.ok, I.os, I.bare, ⟨fun b o e n hb hx => k b o (neL b o e) (I.base.keep b o e n hb hx), fun b o e n hb hx => ?_, I.base.free, fun b o e hx => ?_, I.base.tups, I.base.frzs, I.base.tbls⟩, ⟨m', hn, fun i x v e1 e2 => (noσ_get e2).elim⟩,
    fun x c e => let ⟨v, z⟩ := I.cell x c e; ⟨v, kc x c e v z⟩, I.free, I.freeC, fun p hp => ?_, fun b o z => ?_, I.len⟩
  · obtain ⟨sl, e1⟩ := I.base.slot b o e n hb hx
    exact ⟨sl, k b _ (neL b o e) e1⟩
  · obtain ⟨o', e1⟩ := I.base.there b o e hx
    exact ⟨o', k b _ (neL b o e) e1⟩
  · obtain ⟨e, n, ne, nf, d⟩ := I.pin p hp
    exact ⟨k p.1 p.2 ne e, n, ne, nf, d⟩
  · have nt : ∀ c u, H c = some u → c ≠ X.env.locals := fun c u e q => by rw [q, I.free] at e; cases e
    refine (I.hok b o z).stay (fun c u hc q => k c u ?_ q) (fun _ q => q) fun _ _ q => q
    rcases hc with e | e
    · rw [e]; exact nt b o z
    · exact nt c _ e
/-- try: body; except C0 as n: suite -/
theorem ps_tryAs {x n : Str} {i : Nat} {C0 : Addr} {np hpos pos : Pos} {body : List Stmt} {b₀ : Stmt} {suite : List Stmt} {tb : XK → TS} {th : Addr → TS} (hs : X.stack = X.env :: X.outer ∧ X.env.frame = some X.env.locals)
    (hb : ∀ (pn : List (Addr × Obj)) (W : Value → Shared → Prop) (E : XK), Passes (CX1 X.prog X.w) (X.tried pn W) E → PSs (X.tried pn W) body (tb E))
    (hg : Gl X x) (hm : X.mg x = some (.ref C0)) (hk : CatchK X.K C0) (hh : ∀ pn e, PSs (X.hand pn e) (b₀ :: suite) (th e))
    (hN : X.N.Nodup) (hi : X.N[i]? = some n) (hl : X.env.scope.names.lookup n = some .local) (hdb : (x == ("__debug__" : Str)) = false := by decide) :
    PS X (.Try body [.ExceptHandler (some (.Name x np)) (some n) (b₀ :: suite) hpos] [] [] pos) (tTry X C0 tb (fun e => (noσ X).set i (some (.ref e))) th) := by
  intro pins s σ H D I h
  obtain ⟨E, hw, hE⟩ := h
  have ok := I.ok
  refine wpAny_Try_except (wpAny_mono (hb (X.pn ++ pins) (fun ev s2 => ∃ σ1 H1 s1, Inv (X.tried (X.pn ++ pins) (fun _ _ => True)) [] σ1 H1 s1 ∧ CX1 X.prog X.w X.stack H1 s1 E ev s2) E ?_ [] s σ H D I.tried hw) (fun f s1 q => ?_) fun ev s2 q => ?_)
  · intro pins' σ1 H1 s1 ev s2 I1 q
    exact ⟨σ1, H1, s1, ⟨ok.unhand _ _, I1.os, I1.bare, I1.base, I1.loc, I1.cell, I1.free, I1.freeC, fun p hp => I1.pin p (List.mem_append_left _ (by simpa using hp)), I1.hok, I1.len⟩, q⟩
  · have q' := q.untried ok
    cases f with
    | next => exact wpAny_execs_nil q'
    | brk => exact q'
    | cont => exact q'
    | ret u => exact q'
  · obtain ⟨σ1, H1, s1, I1, e, Cv, H', rfl, ho, hg2, un, hok, ⟨new, B, a0, fl, b1, b2, b3⟩, qE⟩ := q
    obtain ⟨C, rfl, hmro, hth⟩ := hE Cv _ H' qE
    refine wpAny_looks_onW (outer := X.outer) (by rw [ok.frames, hs.1]) hs.2 (hs.1 ▸ fl) fun h4 held4 us4 => ?_
    refine wpAny_landsW held4 fun h5 fl5 us5 => ?_
    have us45 : s2.heap.UpToSlots h5 := us4.trans us5
    obtain ⟨hn, hE5, I5, _⟩ := caught I1 un hok ho hg2 new fl b1 b2 b3 (hs.1.symm ▸ fl5) us45
    refine wpAny_handleBy_cons (codeAny_handlers_test ?_) (by intro q; cases q)
    refine ld_glob (X := X.hand (X.pn ++ pins) e) (I5.hand ok) hg hm ?_ hdb
    refine exc_match I5.kIn hE5 hk.c0 hk.t0 hk.b0 hmro ?_
    refine codeAny_handlers_suite_as ?_
    refine lands_againW fl5 fun h6 fl6 us6 => ?_
    obtain ⟨_, _, _, I6⟩ := caught I1 un hok ho hg2 new fl b1 b2 b3 (hs.1.symm ▸ fl6) (us45.trans us6)
    refine store_ok (X := X.hand (X.pn ++ pins) e) (v := .ref e) (I6.hand ok).noσ hN hi (Or.inl hl) rfl (fun s7 I7 => ?_) (Or.inr hl)
    refine wpAny_mono (hh (X.pn ++ pins) e [] _ _ (upd H' e (excO e C)) (hEnds X D) I7 (hth e hn)) (fun f s8 q8 => ?_) fun _ _ z => z.elim
    obtain ⟨H8, I8, k⟩ := SP.unhand (D := D) (D' := hEnds X D) ok (fun _ _ z => z) (fun _ _ z => z) (fun _ _ z => z) (fun _ _ z => z) q8
    obtain ⟨m8, hm8, _⟩ := I8.loc
    exact wpAny_nameGoes hl hm8 (by rw [ok.kind]; rfl) fun h' m' hn' sb => k _ (I8.localsGone hn' sb)
end
end L2
set_option Elab.async false
set_option linter.all false
set_option maxRecDepth 100000
set_option maxHeartbeats 4000000
/-! OWN RULES: list comprehensions over one name, with at most one test -/
namespace L2
open PySem PySem.Spec PyProof.Rows
def clOf (cells : List (Str × Addr)) : List (Str × NameKind) → List (Str × Addr) → List (Str × Addr)
  | [], acc => acc
  | (n, k) :: r, acc => clOf cells r (if k = .free then (n, (cells.lookup n).getD 0) :: acc else acc)
theorem clOf_mem {cells : List (Str × Addr)} : ∀ {names : List (Str × NameKind)} {acc : List (Str × Addr)}, (∀ y ∈ names, y.2 = .free → (cells.lookup y.1).isSome = true) → (∀ y c, acc.lookup y = some c → cells.lookup y = some c) →
    ∀ y c, (clOf cells names acc).lookup y = some c → cells.lookup y = some c
  | [], _, _, ha, y, c, e => ha y c e
  | (n, k) :: r, acc, hf, ha, y, c, e => by
    unfold clOf at e
    refine clOf_mem (fun z hz => hf z (List.mem_cons_of_mem _ hz)) (fun z d hz => ?_) y c e
    by_cases hk : k = .free
    · rw [if_pos hk] at hz
      rw [List.lookup_cons] at hz
      split at hz
      · rename_i hq
        have hn := hf (n, k) List.mem_cons_self hk
        obtain ⟨d', hd⟩ := Option.isSome_iff_exists.mp hn
        dsimp only at hd
        rw [hd] at hz
        rw [beq_iff_eq.mp hq, hd]
        exact hz
      · exact ha z d hz
    · rw [if_neg hk] at hz
      exact ha z d hz
theorem clOf_keep {cells : List (Str × Addr)} : ∀ {names : List (Str × NameKind)} {acc : List (Str × Addr)} {y : Str}, (acc.lookup y).isSome = true → ((clOf cells names acc).lookup y).isSome = true
  | [], _, _, h => h
  | (n, k) :: r, acc, y, h => by
    unfold clOf
    refine clOf_keep ?_
    by_cases hk : k = .free
    · rw [if_pos hk, List.lookup_cons]
      split
      · rfl
      · exact h
    · rw [if_neg hk]; exact h
theorem clOf_has {cells : List (Str × Addr)} : ∀ {names : List (Str × NameKind)} {acc : List (Str × Addr)} {y : Str}, (y, NameKind.free) ∈ names → ((clOf cells names acc).lookup y).isSome = true
  | (n, k) :: r, acc, y, h => by
    unfold clOf
    rcases List.mem_cons.mp h with e | h
    · cases e
      refine clOf_keep ?_
      rw [if_pos rfl, List.lookup_cons]
      simp
    · exact clOf_has h
theorem closure_eq {scope : Scope} {env : Env} (hf : ∀ y ∈ scope.names, y.2 = .free → (env.cells.lookup y.1).isSome = true) : closureFor scope env = pure (clOf env.cells scope.names []) := by
  have gen : ∀ (names : List (Str × NameKind)) (acc : List (Str × Addr)), (∀ y ∈ names, y.2 = .free → (env.cells.lookup y.1).isSome = true) →
      (forIn names acc fun (x : Str × NameKind) (r : List (Str × Addr)) => (if (x.2 == NameKind.free) = true then do let c ← cellOf env x.1; pure (ForInStep.yield ((x.1, c) :: r)) else pure (ForInStep.yield r) : Sem (ForInStep (List (Str × Addr))))) = pure (clOf env.cells names acc) := by
    intro names
    induction names with
    | nil => intro acc _; rfl
    | cons x r ih =>
      intro acc h
      obtain ⟨n, k⟩ := x
      rw [List.forIn_cons]
      by_cases hk : k = .free
      · subst hk
        obtain ⟨c, hc⟩ := Option.isSome_iff_exists.mp (h (n, .free) List.mem_cons_self rfl)
        dsimp only at hc
        have e : cellOf env n = pure c := by unfold cellOf; rw [hc]
        simp only [beq_self_eq_true, if_true, e]
        show (forIn r ((n, c) :: acc) _ : Sem _) = _
        rw [ih _ fun y hy => h y (List.mem_cons_of_mem _ hy)]
        simp [clOf, hc]
      · have hb : (k == NameKind.free) = false := by simpa using hk
        simp only [hb, Bool.false_eq_true, if_false]
        show (forIn r acc _ : Sem _) = _
        rw [ih _ fun y hy => h y (List.mem_cons_of_mem _ hy)]
        simp [clOf, hk]
  have g := gen scope.names [] hf
  simp only [closureFor]
  first
    | (refine Eq.trans (congrArg (fun t => t >>= fun r => pure r) (Eq.trans ?_ g)) rfl; congr; done)
    | (rw [g]; rfl)
theorem comp_loop {prog : Program} {w : World} {A : Around} {R : Result → Shared → Prop} {s : Shared} {elt target iter : Expr} {ifs : List Expr} {scope : Scope} {pos : Pos} {it acc : Value} {env : Env} (I : Nat → Shared → Prop)
    (turn : ∀ n s, I n s → wpAny (model prog w) A (pyNext it) (fun r s₁ => match r with
      | none => R (.ok .next) s₁
      | some v => wpAny (model prog w) A (letOwnedTupleGo target it v) (fun _ s₁' => wpAny (model prog w) A (assign target env v) (fun _ s₂ =>
          wpAny (model prog w) A (forIn ifs true fun c r => if r = true then do let ok ← isTrue c env (eval c env); pure (ForInStep.yield ok) else pure (ForInStep.yield r)) (fun ok s₃ =>
            if ok = true then wpAny (model prog w) A (eval elt env) (fun x s₄ =>
              wpAny (model prog w) A (call (.builtin "list.append") [acc, x]) (fun _ s₅ => ∃ m, m < n ∧ I m s₅) (fun _ _ => False) s₄) (fun _ _ => False) s₃
            else ∃ m, m < n ∧ I m s₃) (fun _ _ => False) s₂) (fun _ _ => False) s₁') (fun _ _ => False) s₁) (fun _ _ => False) s)
    (n : Nat) (h : I n s) : codeAny (model prog w) A (.compLoop (.ListComp elt [⟨target, iter, ifs, 0⟩] scope pos) 0 it acc env) R s := by
  refine codeAny_loop rfl I (fun n s hI => ?_) n h
  show wpAny _ A ((compTurn (.ListComp elt [⟨target, iter, ifs, 0⟩] scope pos) 0 it acc env).onRaise (fun x => do noteFrame x env; theTreesLotGoes x)) _ _ s
  refine wpAny_noted ?_
  rw [compTurn_list]
  refine wpAny_bind (wpAny_standAt (wpAny_bind (wpAny_mono (turn n s hI) (fun r s₁ h₁ => ?_) fun _ _ h' => h'.elim)))
  cases r with
  | none => exact wpAny_pure h₁
  | some v =>
    refine wpAny_bind (wpAny_mono h₁ (fun _ s₁' h₁' => ?_) fun _ _ h' => h'.elim)
    refine wpAny_bind (wpAny_mono h₁' (fun _ s₂ h₂ => wpAny_bind (wpAny_mono h₂ (fun ok s₃ h₃ => ?_) fun _ _ h' => h'.elim)) fun _ _ h' => h'.elim)
    cases ok with
    | false => exact wpAny_pure ⟨rfl, h₃⟩
    | true =>
      exact wpAny_bind (wpAny_bind (wpAny_mono h₃ (fun x s₄ h₄ => wpAny_bind (wpAny_mono h₄ (fun _ s₅ h₅ => wpAny_pure (wpAny_pure ⟨rfl, h₅⟩)) fun _ _ h' => h'.elim)) fun _ _ h' => h'.elim))
theorem rl_lookup (env : Env) (y : Str) : ∀ names : List (Str × NameKind), (names.map fun (n, k) => if (k == NameKind.free && env.scope.kind == .function && env.kindOf n == some .cell) then (n, NameKind.cell) else (n, k)).lookup y =
    (names.lookup y).map fun k => if (k == NameKind.free && env.scope.kind == .function && env.kindOf y == some .cell) then NameKind.cell else k
  | [] => rfl
  | (n, k) :: r => by
    have ih := rl_lookup env y r
    show List.lookup y ((if (k == NameKind.free && env.scope.kind == .function && env.kindOf n == some .cell) = true then (n, NameKind.cell) else (n, k)) :: _) = _
    cases hx : y == n with
    | true =>
      have e : y = n := beq_iff_eq.mp hx
      subst e
      by_cases hc : (k == NameKind.free && env.scope.kind == .function && env.kindOf y == some .cell) = true
      · rw [if_pos hc]; simp only [List.lookup_cons, beq_self_eq_true, Option.map_some]; rw [if_pos hc]
      · rw [if_neg hc]; simp only [List.lookup_cons, beq_self_eq_true, Option.map_some]; rw [if_neg hc]
    | false =>
      by_cases hc : (k == NameKind.free && env.scope.kind == .function && env.kindOf n == some .cell) = true
      · rw [if_pos hc]; simp only [List.lookup_cons, hx]; exact ih
      · rw [if_neg hc]; simp only [List.lookup_cons, hx]; exact ih
/-- what of a comprehension's scope is asked -/
structure CompSc (X : Cx) (scope : Scope) (x : Str) : Prop where
  kind : scope.kind = .function
  at_ : scope.names.lookup x = some .local
  nocell : ∀ y ∈ scope.names, y.2 ≠ .cell
  names : ∀ y ∈ scope.names, y.2 = .local → scope.names.lookup y.1 = some .local
  free : ∀ y ∈ scope.names, y.2 = .free → (X.env.cells.lookup y.1).isSome = true ∧ (X.env.scope.names.lookup y.1 = some .cell ∨ X.env.scope.names.lookup y.1 = some .free)
  out : ∀ y ∈ X.N, scope.names.lookup y ≠ some .local
  nd : X.N.Nodup
def compScB (N : List Str) (cells : List (Str × Addr)) (osc scope : Scope) (x : Str) : Bool :=
  scope.kind == .function && (scope.names.lookup x == some .local && (scope.names.all (fun y => !(y.2 == .cell)) && (scope.names.all (fun y => !(y.2 == .local) || scope.names.lookup y.1 == some .local) &&
    (scope.names.all (fun y => !(y.2 == .free) || ((cells.lookup y.1).isSome && (osc.names.lookup y.1 == some .cell || osc.names.lookup y.1 == some .free))) && N.all fun y => !(scope.names.lookup y == some .local)))))
theorem CompSc.of {X : Cx} {scope : Scope} {x : Str} (nd : X.N.Nodup) (h : compScB X.N X.env.cells X.env.scope scope x = true) : CompSc X scope x := by
  unfold compScB at h
  simp only [Bool.and_eq_true, List.all_eq_true, beq_iff_eq] at h
  obtain ⟨h1, h2, h3, h4, h5, h6⟩ := h
  refine ⟨h1, h2, fun y hy z => ?_, fun y hy z => ?_, fun y hy z => ?_, fun y hy z => ?_, nd⟩
  · have := h3 y hy; simp [z] at this
  · have := h4 y hy; simpa [z] using this
  · have := h5 y hy; simpa [z] using this
  · have := h6 y hy; simp [z] at this
section
variable {X : Cx} {scope : Scope} {x : Str}
/-- the context of a comprehension's block -/
abbrev Cx.block (X : Cx) (scope : Scope) (x : Str) (s₀ : Shared) (H₀ : Hp) (fp : List Addr) : Cx :=
  { prog := X.prog, w := X.w, K := X.K, mg := X.mg, base := X.base, A := X.A, N := x :: X.N, s₀ := s₀, H₀ := H₀, env := compEnvC scope (clOf X.env.cells scope.names []) s₀.heap.objs.size X.env, outer := X.stack, stack := X.stack, ex := fp, fn := fun _ => false, calm := X.calm, pn := [], xe := fun _ _ => False }
theorem mem_of_lookup {α : Type} {y : Str} {k : α} : ∀ {l : List (Str × α)}, l.lookup y = some k → (y, k) ∈ l
  | [], h => by simp at h
  | (n, v) :: r, h => by
    rw [List.lookup_cons] at h
    split at h
    · rename_i hq
      cases h
      rw [beq_iff_eq.mp hq]
      exact List.mem_cons_self
    · exact List.mem_cons_of_mem _ (mem_of_lookup h)
/-- a name that the block sees from outside: it is free there -/
theorem CompSc.seen (S : CompSc X scope x) {y : Str} (h : (relabel scope X.env).names.lookup y = some .cell ∨ (relabel scope X.env).names.lookup y = some .free) : (y, NameKind.free) ∈ scope.names := by
  have e := rl_lookup X.env y scope.names
  change (relabel scope X.env).names.lookup y = _ at e
  cases q : scope.names.lookup y with
  | none => rw [e, q] at h; rcases h with h | h <;> cases h
  | some k =>
    have m := mem_of_lookup q
    cases k with
    | free => exact m
    | cell => exact absurd rfl (S.nocell _ m)
    | «local» => rw [e, q] at h; rcases h with h | h <;> simp at h
    | _ => rw [e, q] at h; rcases h with h | h <;> simp at h
theorem CompSc.loc (S : CompSc X scope x) {y : Str} (h : (relabel scope X.env).names.lookup y = some .local) : scope.names.lookup y = some .local := by
  have e := rl_lookup X.env y scope.names
  change (relabel scope X.env).names.lookup y = _ at e
  cases q : scope.names.lookup y with
  | none => rw [e, q] at h; cases h
  | some k =>
    rw [e, q] at h
    simp only [Option.map_some, Option.some.injEq] at h
    split at h
    · cases h
    · rw [h]
theorem CompSc.cl (S : CompSc X scope x) {y : Str} {c : Addr} (h : (clOf X.env.cells scope.names []).lookup y = some c) : X.env.cells.lookup y = some c :=
  clOf_mem (fun z hz hk => (S.free z hz hk).1) (fun _ _ z => by simp at z) y c h
variable {pins : List (Addr × Obj)} {σ : St} {H : Hp} {s : Shared} {fp : List Addr}
theorem block_ok (I : Inv X pins σ H s) (S : CompSc X scope x) (hfp : ∀ b ∈ fp, FpOk X pins H b) (hobj : ∀ b ∈ fp, ∃ o, s.heap.get? b = some o) : (X.block scope x s H fp).Ok where
  mod := I.ok.mod
  kind := S.kind
  glob := I.ok.glob
  blt := I.ok.blt
  above := Nat.le_refl _
  inj := fun y z c h1 h2 => I.ok.inj y z c (S.cl h1) (S.cl h2)
  has := fun y h => Option.isSome_iff_exists.mp (clOf_has (S.seen h))
  cab := fun _ _ z => nomatch z
  hd := I.ok.hd
  frames := I.ok.frames
  stk := Or.inl rfl
  exf := fun b hb => ⟨fun e => by
    obtain ⟨o, ho⟩ := hobj b hb
    have l := Heap.lt_size ho
    rw [e] at l
    exact Nat.lt_irrefl _ l, fun y c hc => (hfp b hb).2.2.2.2.1 y c (S.cl hc)⟩
  bs := I.bs
  bsz := Nat.le_trans I.ok.bsz I.sz
  noex := fun b o e hb => by
    rcases (hfp b hb).2.2.2.1 with z | z
    · exact I.ok.noex b o e z
    · exact absurd (Nat.lt_of_lt_of_le (Heap.lt_size e) (Nat.le_trans I.ok.bsz z)) (Nat.lt_irrefl _)
  exfs := fun b hb z => by
    rcases List.mem_cons.mp (I.stkSub b z) with e | e
    · exact (hfp b hb).2.1 e
    · exact (hfp b hb).2.2.1 e
  funs := I.stack
  frf := I.stkFree
theorem block_inv {h' : Heap} {m' : Str → Option Value} {t' : Nat} (I : Inv X pins σ H s) (S : CompSc X scope x) (hfp : ∀ b ∈ fp, FpOk X pins H b) (hobj : ∀ b ∈ fp, ∃ o, s.heap.get? b = some o)
    (hn : h'.Ns s.heap.objs.size m') (k : ∀ b o, s.heap.get? b = some o → h'.get? b = some o) : Inv (X.block scope x s H fp) [] (none :: σ) H { s with heap := h', toks := t' } := by
  have kc : ∀ c v, s.heap.IsCell c v → h'.IsCell c v := fun c v ⟨o, ho, hd⟩ => ⟨o, k c o ho, hd⟩
  refine ⟨block_ok I S hfp hobj, rfl, I.bare, Un.kept k, ⟨m', hn, fun i y v e1 e2 hv => ?_⟩, fun y c hc => ?_, I.hok.fresh (Nat.le_refl _), fun y c hc => I.freeC y c (S.cl hc), fun p hp => by simp at hp, I.hok.kept k, by simp [I.len]⟩
  · cases i with
    | zero => simp at e2
    | succ i =>
      simp only [List.getElem?_cons_succ] at e1 e2
      have hyN : y ∈ X.N := List.mem_of_getElem? e1
      rcases hv with hv | hv
      · exact absurd (S.loc hv) (S.out y hyN)
      · have m := S.seen hv
        obtain ⟨_, hk⟩ := S.free _ m rfl
        obtain ⟨mx, _, hl⟩ := I.loc
        obtain ⟨u, r, l⟩ := hl i y v e1 e2 (Or.inr hk)
        refine ⟨u, r, Or.inr ⟨hv, ?_⟩⟩
        rcases l with ⟨kk, _⟩ | ⟨_, c, hc, ic⟩
        · have kk' : X.env.scope.names.lookup y = some .local := kk
          rw [kk'] at hk
          rcases hk with z | z <;> cases z
        · obtain ⟨c', hc'⟩ := Option.isSome_iff_exists.mp (clOf_has (cells := X.env.cells) (acc := []) m)
          have e := S.cl hc'
          rw [hc] at e; cases e
          exact ⟨c, hc', kc c _ ic⟩
  · obtain ⟨v, ic⟩ := I.cell y c (S.cl hc)
    exact ⟨v, kc c v ic⟩
/-- back from the block -/
theorem block_out {pinsB : List (Addr × Obj)} {σ' : St} {H' : Hp} {s' : Shared} {h'' : Heap} (I : Inv X pins σ H s) (J : Inv (X.block scope x s H fp) pinsB σ' H' s') (hfp : ∀ b ∈ fp, FpOk X pins H b)
    (sb : Heap.SameBut s.heap.objs.size s'.heap h'') : Inv X pins σ H' { s' with heap := h'' } := by
  have ne : ∀ b o, s.heap.get? b = some o → b ≠ s.heap.objs.size := fun b o e => Nat.ne_of_lt (Heap.lt_size e)
  have k : ∀ b o, b ≠ s.heap.objs.size → s'.heap.get? b = some o → h''.get? b = some o := fun b o n e => sb.extBut b o n e
  have un : Un (frs X.stack) fp H H' s.heap h'' :=
    { keep := fun b o e n hb hx => k b o (ne b o e) (J.base.keep b o e n hb hx)
      slot := fun b o e n hb hx => let ⟨sl, g⟩ := J.base.slot b o e n hb hx; ⟨sl, k b _ (ne b o e) g⟩
      free := J.base.free
      there := fun b o e hx => let ⟨o', g⟩ := J.base.there b o e hx; ⟨o', k b _ (ne b o e) g⟩
      tups := J.base.tups
      frzs := J.base.frzs
      tbls := J.base.tbls }
  have nt : ∀ c u, H' c = some u → c ≠ s.heap.objs.size := fun c u e q => by rw [q] at e; have := J.free; rw [show (X.block scope x s H fp).env.locals = s.heap.objs.size from rfl] at this; rw [this] at e; cases e
  have hok : HOk X.prog X.w H' h'' := fun b o z => (J.hok b o z).stay (fun c u hc q => k c u (by
    rcases hc with e | e
    · rw [e]; exact nt b o z
    · exact nt c _ e) q) (fun _ q => q) fun _ _ q => q
  exact I.call' (s' := { s' with heap := h'' }) J.os un hok J.bare fun b hb => ⟨(hfp b hb).2.2.2.1, (hfp b hb).2.1, (hfp b hb).2.2.2.2.1, (hfp b hb).2.2.2.2.2⟩
/-- [e for x in iter] (if c). W: the invariant by the turn, with its measure; D: the new list -/
def tComp (wi : TI) (tc : TT) (te : TE) : TE := fun σ H Q => wi σ H fun J H1 => ∀ D, H1 D = none → ∃ W : Nat → Nat → Hp → Prop, (∃ m, W 0 m (upd H1 D (.lst []))) ∧ ∀ i m H2, W i m H2 →
  (J.stop i H2 ∧ Q (.ref D) H2) ∨ (J.go i H2 ∧ ∃ N : Hp → Prop, (∀ H', N H' → ∃ m', m' < m ∧ W (i + 1) m' H') ∧ ∀ y H3, J.yld i H2 y H3 →
    tc (some y :: σ) H3 fun b H4 => if b = true then te (some y :: σ) H4 fun z H5 => ∃ zs, H5 D = some (.lst zs) ∧ zs.length < sizeLine ∧ N (upd H5 D (.lst (zs ++ [z]))) else N H4)
/-- the tests of a comprehension: none or one -/
def PIfs (Y : Cx) (ifs : List Expr) (t : TT) : Prop :=
  ∀ (pins : List (Addr × Obj)) (s : Shared) (σ : St) (H : Hp) (Q : Bool → Hp → Prop), Inv Y pins σ H s → t σ H Q →
    wpAny (model Y.prog Y.w) Y.A (forIn ifs true fun c r => if r = true then do let ok ← isTrue c Y.env (eval c Y.env); pure (ForInStep.yield ok) else pure (ForInStep.yield r)) (TP Y pins σ Q) Y.xe s
theorem ifs_nil {Y : Cx} : PIfs Y [] (fun _ H Q => Q true H) := fun pins s σ H Q I h => wpAny_tests_nil ⟨H, I, h⟩
theorem ifs_one {Y : Cx} {c : Expr} {t : TT} (h : PT Y c t) : PIfs Y [c] t := fun pins s σ H Q I hw => wpAny_tests_one (h pins s σ H Q I hw)
theorem comp_core {elt iter : Expr} {px : Pos} {ifs : List Expr} {pos : Pos} {tc : TT} {te : TE} {E : Value → Shared → Prop} {RR : Value → Addr → Result → Shared → Prop} {it : Addr} {tn : Nat → Heap → Prop} {J : It} {Q : VK}
    (hc : X.calm = true) (S : CompSc X scope x) (hifs : ∀ s₀ H₀ fp, PIfs (X.block scope x s₀ H₀ fp) ifs tc) (he : ∀ s₀ H₀ fp, PE (X.block scope x s₀ H₀ fp) elt te)
    (I : Inv X pins σ H s) (T : Turn X.prog X.w X.K (.Name x px) J fp it tn) (t0 : tn 0 s.heap) (hfp : ∀ b ∈ fp, FpOk X pins H b)
    (hR : ∀ D, H D = none → ∃ W : Nat → Nat → Hp → Prop, (∃ m, W 0 m (upd H D (.lst []))) ∧ ∀ i m H2, W i m H2 →
      (J.stop i H2 ∧ Q (.ref D) H2) ∨ (J.go i H2 ∧ ∃ N : Hp → Prop, (∀ H', N H' → ∃ m', m' < m ∧ W (i + 1) m' H') ∧ ∀ y H3, J.yld i H2 y H3 →
        tc (some y :: σ) H3 fun b H4 => if b = true then te (some y :: σ) H4 fun z H5 => ∃ zs, H5 D = some (.lst zs) ∧ zs.length < sizeLine ∧ N (upd H5 D (.lst (zs ++ [z]))) else N H4))
    (hend : ∀ D C H' s' m', H D = none → s'.heap.Ns C m' → (∀ h'', Heap.SameBut C s'.heap h'' → Inv X pins σ H' { s' with heap := h'' }) → (C ≠ X.env.locals ∧ (∀ y c, X.env.cells.lookup y = some c → c ≠ C) ∧ H' C = none ∧ X.s₀.heap.objs.size ≤ C ∧ ∀ p ∈ X.pn ++ pins, p.1 ≠ C) → Q (.ref D) H' → RR (.ref D) C (.ok .next) s') :
    wpAny (model X.prog X.w) X.A (newList []) (fun acc s₃ => wpAny (model X.prog X.w) X.A (newFunctionEnv scope X.env.globals (clOf X.env.cells scope.names []) [] X.env.qual none .none (some X.env)) (fun cenv s₄ =>
      codeAny (model X.prog X.w) X.A (.compStart (.ListComp elt [⟨.Name x px, iter, ifs, 0⟩] scope pos) 0 (.ref it) acc { cenv with scope := relabel scope X.env }) (RR acc cenv.locals) s₄) E s₃) E s := by
  have hD := I.hok.fresh (Nat.le_refl s.heap.objs.size)
  obtain ⟨W, ⟨m0, w0⟩, turn⟩ := hR s.heap.objs.size hD
  refine wpAny_newObj_type ?_
  have I3 := I.lnew (ys := []) (its := []) (t' := s.toks) .nil (Nat.zero_le _)
  have hobj0 : ∀ b ∈ fp, ∃ o, s.heap.get? b = some o := fun b hb => let ⟨o, ho, _⟩ := T.obj 0 _ t0 b hb; ⟨o, ho⟩
  have fpD : ∀ b ∈ fp, b ≠ s.heap.objs.size := fun b hb z => by
    obtain ⟨o, ho⟩ := hobj0 b hb
    have := Heap.lt_size ho
    rw [z] at this
    exact Nat.lt_irrefl _ this
  have hfp3 : ∀ b ∈ fp, FpOk X pins (upd H s.heap.objs.size (.lst [])) b := fun b hb => ⟨by rw [upd_ne (fpD b hb)]; exact (hfp b hb).1, (hfp b hb).2⟩
  have t3 : tn 0 (s.heap.push { cls := .type "list", data := .seq ([] : List Value).toArray }) := T.keep 0 _ _ t0 fun b _ o e => Heap.get?_push_of_some _ e
  generalize hs3 : ({ s with heap := s.heap.push { cls := .type "list", data := .seq ([] : List Value).toArray }, toks := s.toks } : Shared) = s3 at I3
  have hs3' : ({ s with heap := s.heap.push { cls := .type "list", dict := none, data := .seq ([] : List Value).toArray } } : Shared) = s3 := hs3
  have t3' : tn 0 s3.heap := by rw [← hs3]; exact t3
  have hobj : ∀ b ∈ fp, ∃ o, s3.heap.get? b = some o := fun b hb => let ⟨o, ho, _⟩ := T.obj 0 _ t3' b hb; ⟨o, ho⟩
  generalize hH3 : upd H s.heap.objs.size (.lst []) = H3 at I3 hfp3 w0
  clear hs3 hs3' t3
  refine wpAny_newFunctionEnv S.nocell (by intro y hy; simp at hy) (fun h₁ hns₁ hsb₁ => ?_) S.kind
  have k3 : ∀ b o, s3.heap.get? b = some o → h₁.get? b = some o := fun b o e => hsb₁.extBut b o (Nat.ne_of_lt (Heap.lt_size e)) (Heap.get?_push_of_some _ e)
  have J0 := block_inv (x := x) (scope := scope) (fp := fp) (t' := s3.toks + ([] : List (Str × Value)).length) I3 S hfp3 hobj hns₁ k3
  have okY := J0.ok
  have statY : ∀ {H' : Hp}, (∀ b ∈ fp, H' b = none) → ∀ b ∈ fp, FpOk (X.block scope x s3 H3 fp) [] H' b := fun hn b hb => ⟨hn b hb, (okY.exf b hb).1, okY.exfs b hb, Or.inl hb, (okY.exf b hb).2, fun p hp => by simp at hp⟩
  have locY : (X.block scope x s3 H3 fp).env.scope.names.lookup x = some .local := lookup_relabel_local S.at_
  have ndY : (x :: X.N).Nodup := List.nodup_cons.mpr ⟨fun hx => S.out x hx S.at_, S.nd⟩
  have cfacts : ∀ {H' : Hp}, H' s3.heap.objs.size = none → (s3.heap.objs.size ≠ X.env.locals ∧ (∀ y c, X.env.cells.lookup y = some c → c ≠ s3.heap.objs.size) ∧ H' s3.heap.objs.size = none ∧ X.s₀.heap.objs.size ≤ s3.heap.objs.size ∧ ∀ p ∈ X.pn ++ pins, p.1 ≠ s3.heap.objs.size) := fun hn =>
    ⟨Nat.ne_of_gt I3.lt, fun y c hc z => by
      obtain ⟨v, o, ho, _⟩ := I3.cell y c hc
      have := Heap.lt_size ho
      rw [z] at this
      exact Nat.lt_irrefl _ this, hn, I3.sz, fun p hp z => by
      have := Heap.lt_size (I3.pin p hp).1
      rw [z] at this
      exact Nat.lt_irrefl _ this⟩
  have loop : ∀ s₄ : Shared, Inv (X.block scope x s3 H3 fp) [] (none :: σ) H3 s₄ → tn 0 s₄.heap →
      codeAny (model X.prog X.w) X.A (.compLoop (.ListComp elt [⟨.Name x px, iter, ifs, 0⟩] scope pos) 0 (.ref it) (.ref s.heap.objs.size) (X.block scope x s3 H3 fp).env) (RR (.ref s.heap.objs.size) s3.heap.objs.size) s₄ := by
    intro s₄ I4 t4
    refine comp_loop (fun n s' => ∃ i v0 H', Inv (X.block scope x s3 H3 fp) [] (v0 :: σ) H' s' ∧ tn i s'.heap ∧ (∀ b ∈ fp, H' b = none) ∧ W i n H') ?_ m0 ⟨0, none, H3, I4, t4, fun b hb => (hfp3 b hb).1, w0⟩
    rintro n s5 ⟨i, v0, H5, I5, st5, fr5, w5⟩
    rcases turn i n H5 w5 with ⟨stop, q⟩ | ⟨go, N, hN, step⟩
    · refine thn (T.done (X.block scope x s3 H3 fp) rfl rfl rfl hc i [] s5 _ H5 (fun _ _ => False) I5 (statY fr5) st5 stop) fun r s6 ⟨hr, I6⟩ => ?_
      subst hr
      obtain ⟨m6, hm6, _⟩ := I6.loc
      exact hend _ _ H5 s6 m6 hD hm6 (fun h'' sb => block_out I3 I6 hfp3 sb) (cfacts I6.free) q
    · refine thn (T.item (X.block scope x s3 H3 fp) rfl rfl rfl hc i [] s5 _ H5 (fun _ _ => False) I5 (statY fr5) st5 go) fun r s6 ⟨u, hr, h6⟩ => ?_
      subst hr
      refine thn h6 fun _ s7 ⟨y, H7, I7, r7, y7, st7, fr7⟩ => ?_
      have I7' := I7.pinned (statY fr7) (T.obj _ _ st7)
      refine thn (pg_name (X := X.block scope x s3 H3 fp) (i := 0) ndY rfl (Or.inl locY) (Or.inr locY) _ s7 (v0 :: σ) H7 y u (fun σ8 H8 => σ8 = some y :: σ ∧ H8 = H7) I7' r7 ⟨rfl, rfl⟩) fun _ s8 ⟨σ8, H8, I8, e8, e8'⟩ => ?_
      subst e8 e8'
      have again : ∀ {s' : Shared} {H' : Hp}, Inv (X.block scope x s3 H3 fp) ([] ++ pinsAt fp s7.heap) (some y :: σ) H' s' → N H' → ∃ m, m < n ∧ ∃ i v0 H', Inv (X.block scope x s3 H3 fp) [] (v0 :: σ) H' s' ∧ tn i s'.heap ∧ (∀ b ∈ fp, H' b = none) ∧ W i m H' := fun {s' H'} I' n' => by
        obtain ⟨m', hm, w'⟩ := hN H' n'
        refine ⟨m', hm, i + 1, some y, H', I'.unpinned, T.keep _ _ _ st7 fun b hb o e => (I'.pin (b, o) (List.mem_append_right _ (List.mem_append_right _ (mem_pinsAt hb e)))).1, fun b hb => ?_, w'⟩
        obtain ⟨o, e, d⟩ := T.obj _ _ st7 b hb
        exact (I'.pin (b, o) (List.mem_append_right _ (List.mem_append_right _ (mem_pinsAt hb e)))).2.1
      refine thn (hifs _ _ _ _ s8 _ H8 _ I8 (step y H8 y7)) fun b s9 ⟨H9, I9, q9⟩ => ?_
      cases b with
      | false => exact again I9 q9
      | true =>
        refine thn (he _ _ _ _ s9 _ H9 _ I9 q9) fun w s10 ⟨z, H10, I10, r10, zs, hz, hl, nn⟩ => ?_
        refine thn (mt_append (X := X.block scope x s3 H3 fp) _ s10 _ H10 (.ref s.heap.objs.size) [z] (.ref s.heap.objs.size) [w] (fun _ H' => N H') I10 rfl (.cons r10 .nil) ⟨_, zs, z, rfl, rfl, hz, hl, nn⟩) fun _ s11 ⟨_, H11, I11, _, n11⟩ => again I11 n11
  have t4 : tn 0 h₁ := T.keep 0 _ _ t3' fun b _ o e => k3 b o e
  exact codeAny_compStart_list (loop _ J0 t4) (T.self X.A 0 _ _ _ t4 (loop _ J0 t4))
theorem pe_comp {elt iter : Expr} {px : Pos} {ifs : List Expr} {pos : Pos} {wi : TI} {tc : TT} {te : TE} (hc : X.calm = true) (S : CompSc X scope x) (hi : PI X (.Name x px) iter wi)
    (hifs : ∀ s₀ H₀ fp, PIfs (X.block scope x s₀ H₀ fp) ifs tc) (he : ∀ s₀ H₀ fp, PE (X.block scope x s₀ H₀ fp) elt te) (hs : ∀ v, foldedSetIterable iter X.env v = pure v := by intro _; rfl) :
    PE X (.ListComp elt [⟨.Name x px, iter, ifs, 0⟩] scope pos) (tComp wi tc te) := by
  intro pins s σ H Q I h
  rw [eval_ListComp]
  refine wpAny_comprehension_free (use := none) rfl hs (closure_eq fun y hy hk => (S.free y hy hk).1) S.kind S.names ?_
  refine thn (hi pins s σ H _ I h) fun v s1 h1 => thn h1 fun itv s2 h2 => ?_
  obtain ⟨it, fp, tn, J, H2, rfl, I2, T, st2, f2, hR⟩ := h2
  refine comp_core (RR := fun acc C => compPost (model X.prog X.w) X.A X.xe none (EP X pins σ Q) acc C) hc S hifs he I2 T st2 f2 hR ?_
  intro D C H' s' m' hD hm hout _ q
  exact ⟨m', hm, fun h'' sb => ⟨.ref D, H', hout h'' sb, rfl, q⟩⟩
/-- y = [e for x in iter] (if c) -/
theorem ps_setComp {elt iter : Expr} {px py : Pos} {ifs : List Expr} {pos spos : Pos} {wi : TI} {tc : TT} {te : TE} {y : Str} {i : Nat} (hc : X.calm = true) (S : CompSc X scope x) (hiN : X.N[i]? = some y) (hy : X.env.scope.names.lookup y = some .local)
    (hi : PI X (.Name x px) iter wi) (hifs : ∀ s₀ H₀ fp, PIfs (X.block scope x s₀ H₀ fp) ifs tc) (he : ∀ s₀ H₀ fp, PE (X.block scope x s₀ H₀ fp) elt te)
    (hsw : swapsWith (.ListComp elt [⟨.Name x px, iter, ifs, 0⟩] scope pos) (some (.Name y py)) spos.line X.env = pure true := by rfl) (hs : ∀ v, foldedSetIterable iter X.env v = pure v := by intro _; rfl) :
    PS X (.Assign [.Name y py] (.ListComp elt [⟨.Name x px, iter, ifs, 0⟩] scope pos) spos) (tAsg (tComp wi tc te) (gName i)) := by
  intro pins s σ H D I h
  rw [exec_Assign_Name_used _ _ _ _ hsw]
  refine wpAny_bind (wpAny_standAt (wpAny_bind ?_))
  show wpAny _ X.A (do let _ ← comprehension (.ListComp elt [⟨.Name x px, iter, ifs, 0⟩] scope pos) scope X.env _ (newList []) false (eval iter X.env) (some (assign (.Name y py) X.env))) _ _ s
  refine wpAny_bind (wpAny_mono (wpAny_comprehension_free (use := some (assign (.Name y py) X.env)) (Q := fun _ s' => SP X pins D .next s') rfl hs (closure_eq fun y hy hk => (S.free y hy hk).1) S.kind S.names
    (thn (hi pins s σ H _ I h) fun v s1 h1 => thn h1 fun itv s2 h2 => ?_)) (fun _ s' hq => wpAny_pure (wpAny_pure hq)) fun _ _ e => e)
  obtain ⟨it, fp, tn, J, H2, rfl, I2, T, st2, f2, hR⟩ := h2
  refine comp_core (RR := fun acc C => compPost (model X.prog X.w) X.A X.xe (some (assign (.Name y py) X.env)) (fun _ s' => SP X pins D .next s') acc C) (Q := fun z H1 => gName i z σ H1 D.nx) hc S hifs he I2 T st2 f2 hR ?_
  intro Da C H' s' m' hD hm hout ⟨c1, c2, c3, c4, c5⟩ q
  show wpAny _ X.A (assign (.Name y py) X.env (.ref Da)) _ _ s'
  have I' : Inv X pins σ H' s' := hout s'.heap (.refl ..)
  refine wpAny_assign_Name (store_ok2 (v := .ref Da) I' S.nd hiN (Or.inl hy) rfl (fun s'' I'' ⟨a, sb, ha⟩ => ?_) (Or.inr hy))
  have hCa : C ≠ a := by
    rcases ha with e | e
    · rw [e]; exact c1
    · exact (c2 y a e).symm
  refine ⟨m', hm.sameBut sb hCa, fun h'' sb'' => ?_⟩
  exact ⟨_, H', I''.turned (t' := s''.toks) (fun b o n e => sb''.extBut b o n e) c3 c1 (Or.inr c4) c2 c5, q⟩
end
end L2
set_option Elab.async false
set_option linter.all false
set_option maxRecDepth 100000
set_option maxHeartbeats 4000000
/-! OWN RULES: == of data, a def by its body with exceptions -/
namespace L2
open PySem PySem.Spec PyProof.Rows
mutual
inductive RdV (K : PySem.W.Frag) (H : Hp) : V → PyData → Prop
  | non : RdV K H .non .none
  | bl (b : Bool) : RdV K H (.bl b) (.bool b)
  | int (i : Int) : RdV K H (.int i) (.int i)
  | str (x : Str) : RdV K H (.str x) (.str x)
  | lst {a : Addr} {xs : List V} {ds : List PyData} (h : SqL K H a xs) (r : RdVs K H xs ds) : RdV K H (.ref a) (.list ds)
  | tup {a : Addr} {xs : List V} {ds : List PyData} (h : SqT K H a xs) (r : RdVs K H xs ds) : RdV K H (.ref a) (.tuple ds)
inductive RdVs (K : PySem.W.Frag) (H : Hp) : List V → List PyData → Prop
  | nil : RdVs K H [] []
  | cons {x : V} {xs : List V} {d : PyData} {ds : List PyData} (h : RdV K H x d) (r : RdVs K H xs ds) : RdVs K H (x :: xs) (d :: ds)
end
section
variable {X : Cx} {pins : List (Addr × Obj)} {σ : St} {H : Hp} {s : Shared}
mutual
theorem RdV.reads (I : Inv X pins σ H s) : ∀ {v : V} {d : PyData}, RdV X.K H v d → ∀ {u : Value}, RelV v u → ∃ as, Reads s.heap u d as
  | _, _, .non, _, r => by cases (show _ = Value.none from r); exact ⟨_, .none⟩
  | _, _, .bl b, _, r => by cases (show _ = Value.bool b from r); exact ⟨_, .bool b⟩
  | _, _, .int i, _, r => by obtain ⟨t, e⟩ := (show ∃ t, _ = Value.int i t from r); cases e; exact ⟨_, .int i t⟩
  | _, _, .str x, _, r => by obtain ⟨t, e⟩ := (show ∃ t, _ = Value.str x t from r); cases e; exact ⟨_, .str x t⟩
  | _, _, .lst h q, _, r => by
    cases (show _ = Value.ref _ from r)
    obtain ⟨its, rv, ⟨o, n, e, c, _, d⟩, _⟩ := I.list h
    obtain ⟨as, ra⟩ := RdVs.reads I q rv
    exact ⟨_, .list e c d (by simpa using ra)⟩
  | _, _, .tup h q, _, r => by
    cases (show _ = Value.ref _ from r)
    obtain ⟨its, rv, ⟨o, e, c, n, d⟩, _⟩ := I.tuple h
    obtain ⟨as, ra⟩ := RdVs.reads I q rv
    exact ⟨_, .tuple e c d (by simpa using ra)⟩
theorem RdVs.reads (I : Inv X pins σ H s) : ∀ {xs : List V} {ds : List PyData}, RdVs X.K H xs ds → ∀ {us : List Value}, Vals xs us → ∃ as, ReadsAll s.heap us ds as
  | _, _, .nil, _, .nil => ⟨_, .nil⟩
  | _, _, .cons h q, _, .cons r rs => by
    obtain ⟨as, ra⟩ := RdV.reads I h r
    obtain ⟨bs, rb⟩ := RdVs.reads I q rs
    exact ⟨_, .cons ra rb⟩
end
end
theorem RdVs.ints {K : PySem.W.Frag} {H : Hp} : ∀ ns : List Int, RdVs K H (ns.map V.int) (ns.map PyData.int)
  | [] => .nil
  | n :: r => .cons (.int n) (RdVs.ints r)
theorem RdVs.bls {K : PySem.W.Frag} {H : Hp} : ∀ ns : List Bool, RdVs K H (ns.map V.bl) (ns.map PyData.bool)
  | [] => .nil
  | n :: r => .cons (.bl n) (RdVs.bls r)
/-- == of data -/
def rEqD (K : PySem.W.Frag) (neg : Bool) : R2 := fun x y H Q => ∃ d e, RdV K H x d ∧ RdV K H y e ∧ SeqAt.shaped d = true ∧ SeqAt.shaped e = true ∧ SeqAt.noMix d e = true ∧ Q (.bl (if neg then !PySem.Spec.same d e else PySem.Spec.same d e)) H
section
variable {X : Cx}
theorem op_eqD (hu : X.A.units + 64 < cLine) : OpR X (compareOp .Eq) (rEqD X.K false) := fun pins s σ H x y v u Q I rx ry ⟨d, e, hd, he, sd, se, nm, q⟩ => by
  obtain ⟨as, ra⟩ := hd.reads I rx
  obtain ⟨bs, rb⟩ := he.reads I ry
  exact eq_dataH_same ra rb sd se hu nm ⟨.bl _, H, I, rfl, q⟩
theorem op_neD (hu : X.A.units + 64 < cLine) : OpR X (compareOp .NotEq) (rEqD X.K true) := fun pins s σ H x y v u Q I rx ry ⟨d, e, hd, he, sd, se, nm, q⟩ => by
  obtain ⟨as, ra⟩ := hd.reads I rx
  obtain ⟨bs, rb⟩ := he.reads I ry
  exact ne_dataH_same ra rb sd se hu nm ⟨.bl _, H, I, rfl, q⟩
/-- two lists of ints -/
theorem eqD_ints {K : PySem.W.Frag} {H : Hp} {a b : Addr} {ns ms : List Int} {neg : Bool} {Q : VK} (ha : SqL K H a (ns.map V.int)) (hb : SqL K H b (ms.map V.int)) (q : Q (.bl (if neg then !decide (ns = ms) else decide (ns = ms))) H) :
    rEqD K neg (.ref a) (.ref b) H Q := by
  refine ⟨_, _, .lst ha (.ints ns), .lst hb (.ints ms), PySem.W.shaped_ints ns, PySem.W.shaped_ints ms, by simp only [SeqAt.noMix]; exact PySem.W.noMix_ints ns ms, ?_⟩
  simp only [PySem.Spec.same, PySem.W.same_ints]
  exact q
end
/-! ### a def of the text by its body, exceptions among its ends -/
/-- as it stands behind the top, with its defaults dV -/
structure FunD (K : PySem.W.Frag) (x qual : Str) (st : Stmt) (dV : Value) (f : Addr) (fd : FuncData) : Prop where
  ex : ∃ (oc : Value) (od : Option Addr) (kV doc pm : Value) (an : Option Addr) (cdv ct : Value) (osl : Array (Option Value)),
    fd = PySem.W.fnOf x qual (defArgs st) (defBody st) (defScope st) dV kV doc pm an cdv ct ∧ K.lookup f = some ⟨oc, od, .func fd, osl⟩ ∧ PySem.W.codeIn K cdv qual = true
  kp : PySem.W.keepIn K (.ref f) = true
section
variable {P : Program} {w : World} {K : PySem.W.Frag} {mg : Str → Option Value} {base : Heap}
abbrev cxD (P : Program) (w : World) (K : PySem.W.Frag) (mg : Str → Option Value) (base : Heap) (N : List Str) (qual : Str) (st : Stmt) (f : Addr) (cdv : Value) (A : Around) (outer : List Env) (s : Shared) (H : Hp) (E : XK) : Cx :=
  cxOf (CX1 P w) P w K mg base N qual (defScope st) f cdv A outer s H E
theorem FunD.ok {x qual : Str} {st : Stmt} {dV : Value} {f : Addr} {fd : FuncData} {N ps : List Str} {k : Nat} {sp : Sp} (F : FunD K x qual st dV f fd) (S : FnScope N ps (defScope st)) (len : ∀ vs H Q E, sp vs H Q E → vs.length = ps.length)
    (hbody : ∀ (cdv : Value) (A : Around) (outer : List Env) (s : Shared) (H : Hp) (vs : List V) (Q : VK) (E : XK), Room k (A.deeper (envOfC qual (defScope st) s.heap.objs.size f cdv)) → sp vs H Q E →
      ∃ t, PSs (cxD P w K mg base N qual st f cdv A outer s H E) (defBody st) t ∧ t { nx := fun _ H' => Q .non H', rt := Q } (start N vs) H) : FnOk P w K mg base (CX1 P w) (k + 1) f fd ps sp := by
  obtain ⟨oc, od, kV, doc, pm, an, cdv, ct, osl, e, hl, hc⟩ := F.ex
  subst e
  exact fn_of (CX := CX1 P w) hl hc S len fun A outer s H vs Q E hr h => hbody cdv A outer s H vs Q E hr h
theorem funD_mk {x qual : Str} {st : Stmt} {f : Addr} {oc dV : Value} {od an : Option Addr} {osl : Array (Option Value)} {kV doc pm cdv ct : Value} (l : K.lookup f = some ⟨oc, od, .func (PySem.W.fnOf x qual (defArgs st) (defBody st) (defScope st) dV kV doc pm an cdv ct), osl⟩)
    (c : PySem.W.codeIn K cdv qual = true) (k : PySem.W.keepIn K (.ref f) = true) : FunD K x qual st dV f (PySem.W.fnOf x qual (defArgs st) (defBody st) (defScope st) dV kV doc pm an cdv ct) := ⟨⟨oc, od, kV, doc, pm, an, cdv, ct, osl, rfl, l, c⟩, k⟩
theorem FunD.binds {x qual : Str} {st : Stmt} {f : Addr} {fd : FuncData} {ps : List Str} (F : FunD K x qual st .none f fd)
    (h : ∀ (kV doc pm : Value) (an : Option Addr) (cdv ct : Value) (us : List Value), us.length = ps.length → bindArgs (PySem.W.fnOf x qual (defArgs st) (defBody st) (defScope st) .none kV doc pm an cdv ct) ⟨us, []⟩ = pure (ps.zip us)) : Binds K fd ps [] := by
  obtain ⟨oc, od, kV, doc, pm, an, cdv, ct, osl, rfl, _, _⟩ := F.ex
  exact Binds.all fun us hl => h kV doc pm an cdv ct us hl
end
end L2
set_option Elab.async false
set_option linter.all false
set_option maxRecDepth 100000
set_option maxHeartbeats 4000000
/-! OWN RULES: one rule an operator, whatever it is used upon; K told by name (a comprehension's block has the same) -/
namespace L2
open PySem PySem.Spec PyProof.Rows
section
variable {X : Cx}
/-- t + u -/
def rCatA (K : PySem.W.Frag) : R2 := fun x y H Q => ∃ a b xs ys, x = .ref a ∧ y = .ref b ∧ SqT K H a xs ∧ SqT K H b ys ∧ xs.length + ys.length ≤ 1000000 ∧
  (xs = [] → Q (.ref b) H) ∧ (xs ≠ [] → ys = [] → Q (.ref a) H) ∧ (xs ≠ [] → ys ≠ [] → ∀ p, H p = none → Q (.ref p) (upd H p (.tup (xs ++ ys))))
theorem cat_nil {prog : Program} {w : World} {A : Around} {E : Value → Shared → Prop} {s : Shared} {t b : Addr} {vs ws : List Value} {Q : Value → Shared → Prop} (ht : IsTup s.heap t vs.toArray) (hb : IsTup s.heap b ws.toArray) (hv : vs = []) (h : Q (.ref b) s) :
    wpAny (model prog w) A (binaryOp .Add (.ref t) (.ref b)) Q E s := by
  obtain ⟨⟨cls, dd, data, sl⟩, ho, hc, n, hd⟩ := id ht
  obtain ⟨⟨cls2, dd2, data2, sl2⟩, ho2, hc2, n2, hd2⟩ := id hb
  simp only at hc hd hc2 hd2
  subst hc hd hc2 hd2
  exact concat_meets ⟨_, ho, rfl⟩ ⟨_, ho2, rfl⟩ noFill_tuple_add seq_tuple_add PySem.F.slot_tuple_add PySem.F.entry_tuple_add (PySem.F.args_tuple_add_2 _ _) (tuple_addW0 t b vs.toArray ws.toArray n n2 dd dd2 sl sl2 (by simp [hv])) ⟨ho, ho2, h⟩
theorem op_catA : OpR X (binaryOp .Add) (rCatA X.K) := by
  intro pins s σ H x y v u Q I rx ry h
  obtain ⟨a, b, xs, ys, rfl, rfl, ha, hb, hz, q0, q1, q2⟩ := h
  by_cases hx : xs = []
  · cases rx
    cases ry
    obtain ⟨its, r1, p1, _⟩ := I.tuple ha
    obtain ⟨its2, r2, p2, _⟩ := I.tuple hb
    exact cat_nil p1 p2 (r1.nil_iff.mpr hx) ⟨.ref b, H, I, rfl, q0 hx⟩
  · exact op_catT pins s σ H (.ref a) (.ref b) v u Q I rx ry ⟨a, b, xs, ys, rfl, rfl, ha, hb, hx, by have : (sizeLine : Nat) = 16777216 := rfl; omega, q1 hx, q2 hx⟩
end
def rAddA (K : PySem.W.Frag) : R2 := fun x y H Q => rI0 (fun i j => .int (i + j)) x y H Q ∨ rCat x y H Q ∨ rCatA K x y H Q
def rMulA : R2 := fun x y H Q => rI CMul (fun i j => .int (i * j)) x y H Q ∨ rRep x y H Q
def rEqA (K : PySem.W.Frag) (neg : Bool) : R2 := fun x y H Q => (scal x y = true ∧ Q (.bl (if neg then !decide (x = y) else decide (x = y))) H) ∨ rEqD K neg x y H Q
def rSlA (K : PySem.W.Frag) : V → Option Int → Option Int → Hp → VK → Prop := fun x lo hi H Q => rSlL K x lo hi H Q ∨ rSlT K x lo hi H Q
theorem rAddA_int {K : PySem.W.Frag} {i j : Int} {H : Hp} {Q : VK} : rAddA K (.int i) (.int j) H Q ↔ Q (.int (i + j)) H := by
  constructor
  · rintro (⟨a, b, e1, e2, q⟩ | ⟨l, b, xs, zs, e, _⟩ | ⟨a, b, xs, ys, e, _⟩)
    · cases e1; cases e2; exact q
    · cases e
    · cases e
  · exact fun q => .inl ⟨i, j, rfl, rfl, q⟩
theorem rEqA_int {K : PySem.W.Frag} {neg : Bool} {i j : Int} {H : Hp} {Q : VK} : rEqA K neg (.int i) (.int j) H Q ↔ Q (.bl (if neg then !decide (i = j) else decide (i = j))) H := by
  have e : decide (V.int i = V.int j) = decide (i = j) := by simp
  constructor
  · rintro (⟨_, q⟩ | ⟨d, d', h1, h2, _, _, _, q⟩)
    · rw [e] at q; exact q
    · cases h1; cases h2
      have e2 : (i == j) = decide (i = j) := by by_cases h : i = j <;> simp [h]
      simp only [PySem.Spec.same, e2] at q
      exact q
  · exact fun q => .inl ⟨rfl, by rw [e]; exact q⟩
theorem rEqA_str {K : PySem.W.Frag} {neg : Bool} {x y : Str} {H : Hp} {Q : VK} : rEqA K neg (.str x) (.str y) H Q ↔ Q (.bl (if neg then !decide (x = y) else decide (x = y))) H := by
  have e : decide (V.str x = V.str y) = decide (x = y) := by simp
  constructor
  · rintro (⟨_, q⟩ | ⟨d, d', h1, h2, _, _, _, q⟩)
    · rw [e] at q; exact q
    · cases h1; cases h2
      have e2 : (x == y) = decide (x = y) := by by_cases h : x = y <;> simp [h]
      simp only [PySem.Spec.same, e2] at q
      exact q
  · exact fun q => .inl ⟨rfl, by rw [e]; exact q⟩
section
variable {X : Cx} {K : PySem.W.Frag}
theorem add_any (hK : X.K = K := by rfl) : OpR X (binaryOp .Add) (rAddA K) := hK ▸ op_add.or (op_cat.or op_catA)
theorem mul_any : OpR X (binaryOp .Mult) rMulA := op_mul.or op_rep
theorem eq_any (hu : X.A.units + 64 < cLine) (hK : X.K = K := by rfl) : OpR X (compareOp .Eq) (rEqA K false) := hK ▸ op_eq.or (op_eqD hu)
theorem ne_any (hu : X.A.units + 64 < cLine) (hK : X.K = K := by rfl) : OpR X (compareOp .NotEq) (rEqA K true) := hK ▸ op_ne.or (op_neD hu)
theorem sl_any (hK : X.K = K := by rfl) : SlR X (rSlA K) := hK ▸ sl_list.or sl_tup
theorem ix_any (hK : X.K = K := by rfl) : IxR X (rIx K) := hK ▸ ix_seq
def rLen (K : PySem.W.Frag) : List V → Hp → VK → Prop := fun xs H Q => ∃ p ys, xs = [.ref p] ∧ (SqL K H p ys ∨ SqT K H p ys) ∧ Q (.int ys.length) H
theorem len_any (hK : X.K = K := by rfl) : CallR X (.builtin "len") (rLen K) := hK ▸ call_len_seq
def rIsi (K : PySem.W.Frag) : List V → Hp → VK → Prop := fun xs H Q => ∃ x c t cv b, xs = [x, c] ∧ TyX K H x t ∧ clsV c = some cv ∧ PySem.W.kitOne K t cv = some b ∧ Q (.bl b) H
theorem isi_any (hK : X.K = K := by rfl) : CallR X (.builtin "isinstance") (rIsi K) := hK ▸ call_isi
def rListOf (K : PySem.W.Frag) : List V → Hp → VK → Prop := fun xs H Q => ∃ p ys, xs = [.ref p] ∧ (SqL K H p ys ∨ SqT K H p ys) ∧ ∀ l, H l = none → Q (.ref l) (upd H l (.lst ys))
theorem list_any (hK : X.K = K := by rfl) : CallR X (.type "list") (rListOf K) := hK ▸ call_list_of
def rTupOf (K : PySem.W.Frag) : List V → Hp → VK → Prop := fun xs H Q => ∃ p ys, xs = [.ref p] ∧ ((SqL K H p ys ∧ ∀ l, H l = none → Q (.ref l) (upd H l (.tup ys))) ∨ (SqT K H p ys ∧ Q (.ref p) H))
theorem tup_any (hK : X.K = K := by rfl) : CallR X (.type "tuple") (rTupOf K) := hK ▸ call_tuple_of
theorem fld_any {e : Expr} {f : Str} {pos : Pos} {ta : TE} (he : PE X e ta) (hb : attributeBase e f X.env (eval e X.env) = eval e X.env) (hK : X.K = K := by rfl) : PE X (.Attribute e f pos) (tFld K ta f) := hK ▸ pe_fld he hb
end
theorem bb_len : bootBuiltins "len" = some (.builtin "len") := PySem.boot_len
theorem bb_isinstance : bootBuiltins "isinstance" = some (.builtin "isinstance") := by decide +kernel
theorem bb_abs : bootBuiltins "abs" = some (.builtin "abs") := by decide +kernel
theorem bb_max : bootBuiltins "max" = some (.builtin "max") := by decide +kernel
theorem bt_list : bootBuiltins "list" = some (.type "list") := by decide +kernel
theorem bt_tuple : bootBuiltins "tuple" = some (.type "tuple") := by decide +kernel
theorem bt_int : bootBuiltins "int" = some (.type "int") := by decide +kernel
theorem bt_bool : bootBuiltins "bool" = some (.type "bool") := by decide +kernel
theorem bt_ValueError : bootBuiltins "ValueError" = some (.type "ValueError") := by decide +kernel
theorem u64_of {A : Around} {k : Nat} (hr : Room k A) : A.units + 64 < cLine := hr.units
end L2
set_option Elab.async false
set_option linter.all false
set_option maxRecDepth 100000
set_option maxHeartbeats 4000000
/-! readings of comprehensions -/
namespace L2
open PySem PySem.Spec PyProof.Rows
theorem Same.new {H : Hp} {l : Addr} (o : HO) (hl : H l = none) : Same H (upd H l o) := fun b u e => by rw [upd_ne (ne_of_none e hl)]; exact e
section
variable {K : PySem.W.Frag} {tc : TT} {te : TE} {σ : St} {H1 : Hp} {D : Addr} {Q : VK}
/-- over a list that stays; Pz: what the new list is so far -/
theorem comp_list {a : Addr} {xs : List V} (Pz : Nat → List V → Prop) (h0 : Pz 0 []) (hl : SqL K H1 a xs) (hlen : xs.length ≤ 1000) (hD : H1 D = none)
    (hs : ∀ i x zs, xs[i]? = some x → Pz i zs → zs.length ≤ i → zs.length < sizeLine → tc (some x :: σ) (upd H1 D (.lst zs)) fun b H4 => if b = true then te (some x :: σ) H4 fun z H5 => ∃ zs', H5 D = some (.lst zs') ∧ zs'.length < sizeLine ∧
      ∃ zs'', upd H5 D (.lst (zs' ++ [z])) = upd H1 D (.lst zs'') ∧ Pz (i + 1) zs'' ∧ zs''.length ≤ i + 1 else ∃ zs'', H4 = upd H1 D (.lst zs'') ∧ Pz (i + 1) zs'' ∧ zs''.length ≤ i + 1)
    (hd : ∀ zs, Pz xs.length zs → zs.length ≤ xs.length → Q (.ref D) (upd H1 D (.lst zs))) :
    ∃ W : Nat → Nat → Hp → Prop, (∃ m, W 0 m (upd H1 D (.lst []))) ∧ ∀ i m H2, W i m H2 →
      ((Itl K a).stop i H2 ∧ Q (.ref D) H2) ∨ ((Itl K a).go i H2 ∧ ∃ N : Hp → Prop, (∀ H', N H' → ∃ m', m' < m ∧ W (i + 1) m' H') ∧ ∀ y H3, (Itl K a).yld i H2 y H3 →
        tc (some y :: σ) H3 fun b H4 => if b = true then te (some y :: σ) H4 fun z H5 => ∃ zs, H5 D = some (.lst zs) ∧ zs.length < sizeLine ∧ N (upd H5 D (.lst (zs ++ [z]))) else N H4) := by
  have st : ∀ zs, SqL K (upd H1 D (.lst zs)) a xs := fun zs => (Same.new _ hD).seq hl
  refine ⟨fun i m H2 => i ≤ xs.length ∧ m = xs.length - i ∧ ∃ zs, H2 = upd H1 D (.lst zs) ∧ Pz i zs ∧ zs.length ≤ i, ⟨xs.length, Nat.zero_le _, by simp, [], rfl, h0, Nat.le_refl _⟩, ?_⟩
  rintro i m H2 ⟨hi, rfl, zs, rfl, hP, hz⟩
  by_cases hlt : i < xs.length
  · obtain ⟨x, hx⟩ : ∃ x, xs[i]? = some x := ⟨_, List.getElem?_eq_getElem hlt⟩
    refine .inr ⟨⟨xs, x, st zs, hx⟩, fun H' => ∃ zs'', H' = upd H1 D (.lst zs'') ∧ Pz (i + 1) zs'' ∧ zs''.length ≤ i + 1, fun H' ⟨zs'', e, p, l⟩ => ⟨xs.length - (i + 1), by omega, hlt, rfl, zs'', e, p, l⟩, fun y H3 ⟨e3, hy⟩ => ?_⟩
    subst e3
    have e := hy xs (st zs)
    rw [hx] at e; cases e
    exact hs i x zs hx hP hz (by have : (sizeLine : Nat) = 16777216 := rfl; omega)
  · have e : i = xs.length := Nat.le_antisymm hi (Nat.not_lt.mp hlt)
    subst e
    exact .inl ⟨⟨xs, st zs, Nat.le_refl _⟩, hd zs hP hz⟩
theorem rd_compL {H : Hp} {i : Nat} {a : Addr} {xs : List V} (Pz : Nat → List V → Prop) (hσ : σ[i]? = some (some (.ref a))) (h0 : Pz 0 []) (hl : SqL K H a xs) (hlen : xs.length ≤ 1000)
    (hs : ∀ D, H D = none → ∀ i x zs, xs[i]? = some x → Pz i zs → zs.length ≤ i → zs.length < sizeLine → tc (some x :: σ) (upd H D (.lst zs)) fun b H4 => if b = true then te (some x :: σ) H4 fun z H5 => ∃ zs', H5 D = some (.lst zs') ∧ zs'.length < sizeLine ∧
      ∃ zs'', upd H5 D (.lst (zs' ++ [z])) = upd H D (.lst zs'') ∧ Pz (i + 1) zs'' ∧ zs''.length ≤ i + 1 else ∃ zs'', H4 = upd H D (.lst zs'') ∧ Pz (i + 1) zs'' ∧ zs''.length ≤ i + 1)
    (hd : ∀ D, H D = none → ∀ zs, Pz xs.length zs → zs.length ≤ xs.length → Q (.ref D) (upd H D (.lst zs))) : tComp (iList K (tVar i)) tc te σ H Q :=
  ⟨_, hσ, a, rfl, ⟨_, hl⟩, fun D hD => comp_list Pz h0 hl hlen hD (hs D hD) (hd D hD)⟩
/-- what is asked where an object is made, the arguments known -/
def mkR (C : Addr) (sp : Sp) (dvs : List V) (E : XK) (Q : VK) : List V → Hp → Prop := fun vs H1 => ∀ x dx, H1 x = none → H1 dx = none → dx ≠ x → sp (.ref x :: (vs ++ dvs)) (upd (upd H1 dx (.own x)) x (.ins C dx [])) (fun v H2 => v = .non ∧ Q (.ref x) H2) E
theorem tMake_mkR {C : Addr} {sp : Sp} {dvs : List V} {E : XK} {t : TA} {σ : St} {H : Hp} {Q : VK} : tMake C sp dvs E t σ H Q = t σ H (mkR C sp dvs E Q) := rfl
/-- for x in range(len(a list that stays)) -/
theorem rd_forLen {H : Hp} {i : Nat} {a : Addr} {xs : List V} {g : TG} {tb : TS} {D : Ends} (hσ : σ[i]? = some (some (.ref a))) (h : SqL K H a xs ∨ SqT K H a xs) (hz : xs.length ≤ 100000) (Pv : Nat → St → Hp → Prop) (h0 : Pv 0 σ H)
    (hs : ∀ j σ H, j < xs.length → Pv j σ H → g (.int (j : Int)) σ H fun σ2 H2 => tb { D with nx := Pv (j + 1), ct := Pv (j + 1), bk := D.nx } σ2 H2) (hd : ∀ σ H, Pv xs.length σ H → D.nx σ H) :
    tFor (iRng1 (tCons (tCB (fun xs H Q => ∃ p ys, xs = [.ref p] ∧ (SqL K H p ys ∨ SqT K H p ys) ∧ Q (.int ys.length) H) (tCons (tVar i) tNil)) tNil)) g tb D σ H := by
  refine ⟨_, hσ, a, xs, rfl, h, (xs.length : Int), rfl, by omega, by omega, ?_⟩
  have e : ((xs.length : Int)).toNat = xs.length := by simp
  rw [e]
  exact for_range Pv h0 (fun j σ H hj hp => by rw [show (0 : Int) + (j : Int) = (j : Int) by omega]; exact hs j σ H hj hp) hd
end
end L2
set_option Elab.async false
set_option linter.all false
set_option maxRecDepth 100000
set_option maxHeartbeats 4000000
/-! OWN RULES: list(reversed(l)), list(range(n)), for i, x in enumerate(l), t[::-1], t + u -/
namespace L2
open PySem PySem.Spec PyProof.Rows
section
variable {prog : Program} {w : World} {A : Around} {E : Value → Shared → Prop} {s : Shared}
end
section
variable {X : Cx} {K : PySem.W.Frag}
def rRevL (K : PySem.W.Frag) (x : V) (H1 : Hp) (Q : VK) : Prop := ∃ a xs, x = .ref a ∧ SqL K H1 a xs ∧ ∀ l, H1 l = none → Q (.ref l) (upd H1 l (.lst xs.reverse))
def tListRev (K : PySem.W.Frag) (te : TE) : TE := fun σ H Q => te σ H fun x H1 => rRevL K x H1 Q
theorem boot_listT : bootBuiltins "list" = some (.type "list") := by decide +kernel
end
end L2
set_option Elab.async false
set_option linter.all false
set_option maxRecDepth 100000
set_option maxHeartbeats 4000000
/-! OWN RULES: list(range(n)); for i, x in enumerate(l); t[::-1]; t + u of any tuples -/
namespace L2
open PySem PySem.Spec PyProof.Rows
theorem vals_of_get : ∀ {xs : List V} {us : List Value}, xs.length = us.length → (∀ (i : Nat) x u, xs[i]? = some x → us[i]? = some u → RelV x u) → Vals xs us
  | [], [], _, _ => .nil
  | [], _ :: _, h, _ => by simp at h
  | _ :: _, [], h, _ => by simp at h
  | x :: xs, u :: us, h, k => .cons (k 0 x u rfl rfl) (vals_of_get (by simpa using h) fun i y v h1 h2 => k (i + 1) y v (by simpa using h1) (by simpa using h2))
/-- 0, 1, .. n - 1 -/
def upN (n : Nat) : List Int := (List.range n).map fun (k : Nat) => (k : Int)
theorem upN_length (n : Nat) : (upN n).length = n := by simp [upN]
theorem upN_get {n i : Nat} (h : i < n) : (upN n)[i]? = some (i : Int) := by simp [upN, h]
section
variable {X : Cx} {K : PySem.W.Frag}
def rRngL (x : V) (H1 : Hp) (Q : VK) : Prop := ∃ j : Int, x = .int j ∧ -(2 ^ 62) ≤ j ∧ j ≤ 1000000 ∧ ∀ l, H1 l = none → Q (.ref l) (upd H1 l (.lst ((upN j.toNat).map V.int)))
def tListRng (te : TE) : TE := fun σ H Q => te σ H fun x H1 => rRngL x H1 Q
theorem pe_list_range {e : Expr} {te : TE} {p p' pos pos' : Pos} (hc : X.calm = true) (hg : Gl X "list") (hm : X.mg "list" = none) (hg' : Gl X "range") (hm' : X.mg "range" = none) (he : PE X e te)
    (h1 : starEach [.Call (.Name "range" p') [e] [] pos'] X.env = [(false, eval (.Call (.Name "range" p') [e] [] pos') X.env)] := by rfl) (h2 : starEach [e] X.env = [(false, eval e X.env)] := by rfl) :
    PE X (.Call (.Name "list" p) [.Call (.Name "range" p') [e] [] pos'] [] pos) (tListRng te) := by
  intro pins s σ H Q I h
  refine wpAny_Call_Name_kw (ld_blt I hg hm boot_listT ?_)
  refine PyProof.Rows.callWith_type1 ?_ h1 rfl
  rw [h1]
  refine Calls.spliced_cons ?_
  refine wpAny_Call_Name_kw (ld_blt I hg' hm' boot_range ?_)
  refine PyProof.Rows.callWith_type1 ?_ h2 rfl
  rw [h2]
  refine Calls.spliced_cons (thn (he pins s σ H _ I h) fun u s1 ⟨x, H1, I1, r1, q1⟩ => ?_)
  obtain ⟨j, rfl, hj1, hj2, q⟩ := q1
  obtain ⟨t, rfl⟩ := r1
  refine Calls.spliced_nil (call_range_1 ?_)
  refine Calls.spliced_nil ?_
  have hn : Builtin.Range.rangeSize 0 j 1 = (j.toNat : Int) := by rw [rangeSize_one]; split <;> omega
  refine call_list_range (n := j.toNat) (I1.ok.hd hc) (IsRange.new ..) (small_one (by omega) (by omega) (by omega) (by omega)) hn (by omega) fun h' tk acc' c' hk hS' hacc => ?_
  have hk' : ∀ b o, s1.heap.get? b = some o → h'.get? b = some o := fun b o z => hk b o (Heap.get?_push_of_some _ z)
  have hz2 : s1.heap.objs.size ≤ (s1.heap.push { cls := .type "range", data := .fields #[.int 0 s1.toks, .int j t, .int 1 (s1.toks + 1)] }).objs.size := by rw [Heap.size_push]; exact Nat.le_succ _
  have hv : Vals ((upN j.toNat).map V.int) acc'.toList := by
    have hsz : acc'.toList.length = j.toNat := by rw [Array.length_toList]; exact hacc.1
    refine vals_of_get (by rw [List.length_map, upN_length, hsz]) fun i x u h1 h2 => ?_
    have hi : i < j.toNat := by
      have := (List.getElem?_eq_some_iff.mp h2).1
      omega
    rw [List.getElem?_map, upN_get hi] at h1
    cases h1
    obtain ⟨tt, ht⟩ := hacc.2 i u (by rw [← Array.getElem?_toList]; exact h2)
    exact ⟨tt, by rw [ht]; congr 1; omega⟩
  exact ⟨.ref _, _, I1.laid (t' := tk) hk' hz2 (show ObjOk X.prog X.w _ h' _ (.lst ((upN j.toNat).map V.int)) from ⟨by rw [List.length_map, upN_length]; have : (sizeLine : Nat) = 16777216 := rfl; omega, acc'.toList, c', hv, by simpa using hS'⟩), rfl, q _ (I1.hok.fresh hz2)⟩
/-- records of ours have turned, a new object was laid -/
theorem Inv.turnedLaid {pins : List (Addr × Obj)} {σ : St} {H : Hp} {s : Shared} {h' : Heap} {ch : List Addr} {a : Addr} {o : HO} {t' : Nat} (I : Inv X pins σ H s) (hf : ∀ b ∈ ch, FpOk X pins H b)
    (k : ∀ b u, b ∉ ch → s.heap.get? b = some u → h'.get? b = some u) (hp : s.heap.objs.size ≤ a) (new : ObjOk X.prog X.w (upd H a o) h' a o) : Inv X pins σ (upd H a o) { s with heap := h', toks := t' } := by
  have hn : H a = none := I.hok.fresh hp
  have nit : ∀ b u, H b = some u → b ∉ ch := fun b u e z => by rw [(hf b z).1] at e; cases e
  have nea : ∀ b u, s.heap.get? b = some u → b ≠ a := fun b u e => Nat.ne_of_lt (Nat.lt_of_lt_of_le (Heap.lt_size e) hp)
  have neH : ∀ b u, H b = some u → b ≠ a := fun b u e => ne_of_none e hn
  refine I.step (g' := s.gens) (d' := s.drawn) (ch := ch) (fun b hb => ⟨(hf b hb).2.2.2.1, (hf b hb).2.1, (hf b hb).2.2.2.2.1, (hf b hb).2.2.2.2.2⟩) (fun b u _ _ hc e _ => k b u hc e) (fun b u _ _ hc e _ => ⟨u.slots, k b u hc e⟩)
    (fun b u _ e n => by rw [upd_ne (nea b u e)]; exact n) (fun b u hc e => ⟨u, k b u hc e⟩) (fun b xs e => by rw [upd_ne (neH b _ e)]; exact e) (fun b u v e => by rw [upd_ne (neH b _ e)]; exact e)
    (fun b ps e => ⟨#[], by rw [upd_ne (neH b _ e), e]; simp⟩) (fun m hm => ?_) (fun b u e => ?_) I.bare
  · obtain ⟨u, es, ep, ho, r⟩ := hm
    exact ⟨u, es, ep, k _ u (fun z => (hf _ z).2.1 rfl) ho, r⟩
  · by_cases hb : b = a
    · subst hb
      rw [upd_same] at e; cases e
      exact new
    · rw [upd_ne hb] at e
      refine (I.hok b u e).stay (fun c v hc q => k c v ?_ q) (fun c q => by rw [upd_ne (neH c _ q)]; exact q) fun c xs q => by rw [upd_ne (neH c _ q)]; exact q
      rcases hc with z | z
      · rw [z]; exact nit b u e
      · exact nit c _ z
/-- the pairs (i, x) of the list at a -/
def Ite (K : PySem.W.Frag) (a : Addr) : It :=
  ⟨fun i H => ∃ xs x, SqL K H a xs ∧ xs[i]? = some x, fun i H y H' => ∃ x t, (∀ xs, SqL K H a xs → xs[i]? = some x) ∧ y = .ref t ∧ H t = none ∧ H' = upd H t (.tup [.int i, x]), fun i H => ∃ xs, SqL K H a xs ∧ xs.length ≤ i⟩
theorem turn_enum {P : Program} {w : World} {K : PySem.W.Frag} {elts : List Expr} {x1} {tpos : Pos} (a e it : Addr) (hei : e ≠ it) : Turn P w K (.Tuple elts x1 tpos) (Ite K a) [e, it] e (fun i h => (∃ old, IsEnum h e it i old) ∧ h.IsListIter it a i) where
  mem := by simp
  obj := fun i h st b hb => by
    obtain ⟨⟨old, he⟩, o, e1, c, d⟩ := st
    rcases List.mem_cons.mp hb with z | hb
    · subst z; exact ⟨_, he, fun v z => by
        have z' : Data.fields _ = Data.cell v := z
        cases z'⟩
    · have z := List.mem_singleton.mp hb
      subst z; exact ⟨o, e1, fun v z => by rw [d] at z; cases z⟩
  keep := fun i h h' st k => ⟨st.1.imp fun old he => k e (by simp) _ he, st.2.at fun o z => k it (by simp) o z⟩
  item := by
    intro X hP hw hK hc i pins s σ H E I hf st hg
    subst hP hw hK
    obtain ⟨xs, x, hq, hx⟩ := hg
    obtain ⟨⟨old, he⟩, hit⟩ := st
    obtain ⟨its, rv, p, hz⟩ := I.list hq
    obtain ⟨u, hu, ru⟩ := rv.get hx
    have helt : e < s.heap.objs.size := Heap.lt_size he
    refine wpAny_pyNext_enum_item he hit p.isList (x := u) (by simpa using hu) hei fun h1 ho hit1 hT hsz hk => ?_
    refine ⟨_, rfl, wpAny_letOwnedTupleGo_enum ho fun h2 he2 sb => ?_⟩
    replace sb : Heap.SameBut e h1 h2 := sb
    have k : ∀ b o, b ∉ [e, it] → s.heap.get? b = some o → h2.get? b = some o := fun b o hb z => sb.extBut b o (fun q => hb (by simp [q])) (hk b o (fun q => hb (by simp [q])) (fun q => hb (by simp [q])) z)
    have hT2 : h2.get? s.heap.objs.size = _ := sb.extBut _ _ (Nat.ne_of_gt helt) hT
    refine ⟨.ref s.heap.objs.size, _, I.turnedLaid (t' := s.toks + 1) (o := .tup [.int i, x]) hf k (Nat.le_refl _) ?_, rfl, ⟨x, _, fun ys hy => by rw [I.list_inj hy hq]; exact hx, rfl, I.hok.fresh (Nat.le_refl _), rfl⟩, ⟨⟨u, by simpa using he2⟩, hit1.at fun o z => sb.extBut it o hei.symm z⟩, fun b hb => ?_⟩
    · exact ⟨(show 2 ≤ sizeLine by decide), [.int i s.toks, u], .cons ⟨_, rfl⟩ (.cons ru .nil), ⟨_, hT2, rfl, _, rfl⟩⟩
    · have hb2 : ∃ o, s.heap.get? b = some o := by
        rcases List.mem_cons.mp hb with z | hb
        · subst z; exact ⟨_, he⟩
        · have z := List.mem_singleton.mp hb
          subst z
          obtain ⟨o, e1, _⟩ := hit
          exact ⟨o, e1⟩
      obtain ⟨o, e1⟩ := hb2
      rw [upd_ne (Nat.ne_of_lt (Heap.lt_size e1))]
      exact (hf b hb).1
  done := by
    intro X hP hw hK hc i pins s σ H E I hf st hg
    subst hP hw hK
    obtain ⟨xs, hq, hx⟩ := hg
    obtain ⟨⟨old, he⟩, hit⟩ := st
    obtain ⟨its, rv, p, hz⟩ := I.list hq
    obtain ⟨f0, f1, f2, f3, f4, f5⟩ := hf it (by simp)
    have hl := rv.length
    exact wpAny_pyNext_enum_end (I.ok.hd hc) he hit p.isList (by simp; omega) fun h' eb => ⟨rfl, I.turned (t' := s.toks) (fun b o hb e => eb b o hb e) f0 f1 f3 f4 f5⟩
  self := fun _ _ _ _ _ st h => wpAny_pyIter_enum st.1.choose_spec h
def iEnum (K : PySem.W.Frag) (tl : TE) : TI := fun σ H R => tl σ H fun x H1 => ∃ a, x = .ref a ∧ (∃ xs, SqL K H1 a xs) ∧ R (Ite K a) H1
theorem pi_enum {l : Expr} {tl : TE} {elts : List Expr} {x1} {tpos p pos : Pos} (hg : Gl X "enumerate") (hm : X.mg "enumerate" = none) (hl : PE X l tl) (hs : starEach [l] X.env = [(false, eval l X.env)] := by rfl) :
    PI X (.Tuple elts x1 tpos) (.Call (.Name "enumerate" p) [l] [] pos) (iEnum X.K tl) := by
  intro pins s σ H R I h
  refine Call_ (ld_blt I hg hm boot_enumerate (PyProof.Rows.callWith_type1 ?_ hs rfl))
  rw [hs]
  refine Calls.spliced_cons (thn (hl pins s σ H _ I h) fun u s1 ⟨x, H1, I1, r1, q1⟩ => ?_)
  obtain ⟨a, e, ⟨xs, hq⟩, q⟩ := q1
  subst e
  cases r1
  obtain ⟨its, rv, p, hz⟩ := I1.list hq
  refine Calls.spliced_nil (call_enumerate_list p.isList fun h' he hit hsz hk => ?_)
  refine wpAny_pyIter_enum he ?_
  refine ⟨s1.heap.objs.size + 1, [s1.heap.objs.size + 1, s1.heap.objs.size], _, _, H1, rfl, I1.kept (t' := s1.toks) hk, turn_enum a _ _ (Nat.ne_of_gt (Nat.lt_succ_self _)), ⟨⟨_, he⟩, hit⟩, fun b hb => ?_, q⟩
  have e : s1.heap.objs.size ≤ b := by
    rcases List.mem_cons.mp hb with z | hb
    · rw [z]; exact Nat.le_succ _
    · have z := List.mem_singleton.mp hb
      rw [z]; exact Nat.le_refl _
  exact I1.fpOk e (I1.hok.fresh e)
/-- for i, x in enumerate(a list that stays) -/
theorem for_enum {a : Addr} {xs : List V} {g : TG} {tb : TS} {D : Ends} {σ : St} {H : Hp} (Pv : Nat → St → Hp → Prop) (h0 : Pv 0 σ H) (hl : ∀ i σ H, i ≤ xs.length → Pv i σ H → SqL K H a xs)
    (hs : ∀ i x σ H t, xs[i]? = some x → Pv i σ H → H t = none → g (.ref t) σ (upd H t (.tup [.int i, x])) fun σ2 H2 => tb { D with nx := Pv (i + 1), ct := Pv (i + 1), bk := D.nx } σ2 H2) (hd : ∀ σ H, Pv xs.length σ H → D.nx σ H) :
    ∃ W : Nat → Nat → St → Hp → Prop, (∃ m, W 0 m σ H) ∧ ∀ i m σ H, W i m σ H →
      ((Ite K a).stop i H ∧ D.nx σ H) ∨ ((Ite K a).go i H ∧ ∃ N : St → Hp → Prop, (∀ σ' H', N σ' H' → ∃ m', m' < m ∧ W (i + 1) m' σ' H') ∧ ∀ x H', (Ite K a).yld i H x H' → g x σ H' fun σ2 H2 => tb { D with nx := N, ct := N, bk := D.nx } σ2 H2) := by
  refine ⟨fun i m σ H => m = xs.length - i ∧ i ≤ xs.length ∧ Pv i σ H, ⟨xs.length, by simp, Nat.zero_le _, h0⟩, ?_⟩
  rintro i m σ H ⟨rfl, hi, p⟩
  have q := hl i σ H hi p
  by_cases hlt : i < xs.length
  · refine .inr ⟨⟨xs, xs[i], q, by simp [hlt]⟩, Pv (i + 1), fun σ' H' p' => ⟨xs.length - (i + 1), by omega, rfl, hlt, p'⟩, fun y H' yy => ?_⟩
    obtain ⟨x, t, hx, rfl, ht, rfl⟩ := yy
    exact hs i x σ H t (hx xs q) p ht
  · have e : i = xs.length := by omega
    subst e
    exact .inl ⟨⟨xs, q, Nat.le_refl _⟩, hd σ H p⟩
/-- t[::-1] -/
def rRevT (K : PySem.W.Frag) (x : V) (H1 : Hp) (Q : VK) : Prop := ∃ a xs, x = .ref a ∧ SqT K H1 a xs ∧ ∀ p, H1 p = none → Q (.ref p) (upd H1 p (.tup xs.reverse))
def tRevT (K : PySem.W.Frag) (te : TE) : TE := fun σ H Q => te σ H fun x H1 => rRevT K x H1 Q
end
end L2
set_option Elab.async false
set_option linter.all false
set_option maxRecDepth 100000
set_option maxHeartbeats 4000000
/-! OWN RULES: the whole of a tuple cut out; texts of tuples; texts compared; comprehensions over range(i, j) that make things -/
namespace HT
open PySem PyProof.Rows
section
variable {prog : Program} {w : World} {A : Around} {E : Value → Shared → Prop} {s : Shared}
theorem getItem_tuple_all {t sl : Addr} {items : Array Value} {vl vu : Value} {lo hi : Option Int} {Q : Value → Shared → Prop} (ht : IsTup s.heap t items) (hs : s.heap.IsSliceOf sl vl vu .none) (pl : IsPart vl lo) (pu : IsPart vu hi)
    (hw : sIx items.size 0 lo = 0 ∧ sIx items.size items.size hi = items.size) (h : Q (.ref t) s) : wpAny (model prog w) A (getItem (.ref t) (.ref sl)) Q E s := by
  obtain ⟨os, hos, hcs, hds⟩ := id hs
  have hTs : s.TypeIs (.ref sl) "slice" := ⟨os, hos, hcs⟩
  unfold getItem
  try with_reducible refine wpAny_holding ?_
  first | refine wpAny_bind (wpAny_pure ?_) | skip
  refine wpAny_bind (wpAny_sequenceKey ht.typeIs (by decide) ?_)
  refine wpAny_bind (wpAny_callSpecial?_slot (name := Str.ofString "__getitem__") ht.typeIs PyProof.Rows.slot_tuple_getitem
    (wpAny_call_entry PyProof.Rows.slot_tuple_getitem ht.typeIs entry_tuple_getitem ?_ (args_tuple_getitem _ _)))
  show wpAny _ _ (Builtin.Tuple.tupleItemsOf (.ref t) >>= _) _ _ s
  refine wpAny_bind (tupleItemsOf_ ht ?_)
  refine wpAny_bind (wpAny_typeOf hTs ?_)
  rw [if_pos (by decide)]
  refine wpAny_bind (sliceApplied_gen hs pl pu ?_)
  have hyes : (((sIx items.size 0 lo : Nat) : Int) == 0 && (1 : Int) == 1 && (sIx items.size items.size hi - sIx items.size 0 lo) == items.size) = true := by
    rw [hw.1, hw.2]; simp
  show wpAny _ _ (if (((sIx items.size 0 lo : Nat) : Int) == 0 && (1 : Int) == 1 && (sIx items.size items.size hi - sIx items.size 0 lo) == items.size) = true then _ else _) _ _ s
  rw [if_pos hyes]
  refine wpAny_bind (m := Builtin.Tuple.tupleIsExact (.ref t)) ?_
  unfold Builtin.Tuple.tupleIsExact
  refine wpAny_bind (wpAny_typeOf ht.typeIs (wpAny_pure ?_))
  rw [if_pos (by decide)]
  exact wpAny_bind (wpAny_rule (wpAny_pure ⟨_, rfl, wpAny_pure h⟩))
end
end HT
namespace L2
open PySem PySem.Spec PyProof.Rows
section
variable {X : Cx} {K : PySem.W.Frag}
/-- t[lo:hi], the whole of it -/
def rSlW (K : PySem.W.Frag) : V → Option Int → Option Int → Hp → VK → Prop := fun x lo hi H Q => ∃ a xs, x = .ref a ∧ SqT K H a xs ∧ (HT.sIx xs.length 0 lo = 0 ∧ HT.sIx xs.length xs.length hi = xs.length) ∧ Q (.ref a) H
theorem sl_tupW : SlR X (rSlW X.K) := by
  intro pins s σ H x v vl vu lo hi sl Q I rx hs pl pu h
  obtain ⟨a, xs, rfl, hx, hw, q⟩ := h
  cases rx
  obtain ⟨its, r, ht, hz⟩ := I.tuple hx
  have hlen : its.toArray.size = xs.length := by rw [List.size_toArray]; exact r.length.symm
  refine ⟨"tuple", _, PyProof.Rows.slot_tuple_getitem.lookup, ht.typeIs, ?_⟩
  exact HT.getItem_tuple_all ht hs pl pu (by rw [hlen]; exact hw) ⟨.ref a, H, I, rfl, q⟩
/-- t[lo:hi]: the parts lie in t -/
def rSlTA (K : PySem.W.Frag) : V → Option Int → Option Int → Hp → VK → Prop := fun x lo hi H Q => rSlW K x lo hi H Q ∨ rSlT K x lo hi H Q
theorem sl_tupA (hK : X.K = K := by rfl) : SlR X (rSlTA K) := hK ▸ sl_tupW.or sl_tup
/-- a part of a tuple, whole or not -/
theorem slT {H : Hp} {a : Addr} {ns : List Int} {lo hi : Option Int} {Q : VK} (h : H a = some (.tup (ns.map V.int))) (q : ∀ p H', Same H H' → H' p = some (.tup (cutV (ns.map V.int) lo hi)) → Q (.ref p) H') : rSlTA K (.ref a) lo hi H Q := by
  by_cases hw : HT.sIx (ns.map V.int).length 0 lo = 0 ∧ HT.sIx (ns.map V.int).length (ns.map V.int).length hi = (ns.map V.int).length
  · refine .inl ⟨a, _, rfl, SqT.of h, hw, q a H (Same.refl _) ?_⟩
    rw [h]; unfold cutV; rw [hw.1, hw.2, List.drop_zero, Nat.sub_zero, List.take_length]
  · exact .inr ⟨a, _, rfl, SqT.of h, hw, fun p hp => q p _ (Same.new _ hp) upd_same⟩
/-! texts -/
theorem pj_repr {e : Expr} {p : Pos} {es : List Expr} {te : TE} {t : TJ} (he : PE X e te) (hr : PJ X es t) :
    PJ X (.FormattedValue e 114 none p :: es) (fun σ H Q => te σ H fun x H1 => ∃ z, x = .str z ∧ (reprText z).length ≤ 2000 ∧ t σ H1 Q) := fun out pins s σ H Q hl I h => by
  have hl' : out.length + 2000 * (es.length + 1) ≤ 1000000 := by simpa using hl
  have hsl : (sizeLine : Nat) = 16777216 := rfl
  show wpAny _ _ (joinParts out (eval (.FormattedValue e 114 none p) X.env :: evalEach es X.env)) _ _ s
  refine joinParts_cons (wpAny_FormattedValue_repr (thn (he pins s σ H _ I h) fun v s1 ⟨x, H1, I1, r, q⟩ => ?_))
  obtain ⟨z, rfl, hz, q⟩ := q
  obtain ⟨tk, rfl⟩ := r
  have hzl : (out ++ reprText z).length = out.length + (reprText z).length := strLen_append _ _
  refine pyReprObj_str (wpAny_formatField_str ⟨?_, hr (out ++ reprText z) pins _ σ H1 Q (by rw [hzl]; omega) (I1.tok _) q⟩ ⟨?_, hr (out ++ reprText z) pins _ σ H1 Q (by rw [hzl]; omega) (I1.tok _) q⟩ (by omega)) (by omega)
  · rw [hzl]; omega
  · rw [hzl]; omega
theorem own_tuple_repr_any {prog : Program} {w : World} {A : Around} {E : Value → Shared → Prop} {s : Shared} {a : Addr} {o : Obj} {items : Array Value} {n : Nat} {ts : List Str} {Q : Fin → Shared → Prop} {c : Code} {b : Nat}
    (ha : s.heap.get? a = some o) (hd : o.data = .seq items n) (hT : ReprAll prog w items.toList ts)
    (h : ∀ z u tk, z.length ≤ (tupleText ts).length + 5 → Q (.done (.ret (.str z u))) { s with toks := tk }) (hsz : b + (tupleText ts).length ≤ sizeLine) :
    wpOwn (model prog w) A c (Builtin.tupleReprAt b ⟨[.ref a], []⟩) Q E s := by
  rw [tuple_repr_tree, tupleReprUnderWay_eq]
  refine wpOwn_bind (wpOwn_bind (wpOwn_stack fun p below _ _ _ => wpOwn_of_wpAny (wpAny_pure ?_)))
  show wpOwn _ _ _ (if (below.any (tupGuardF (.ref a))) = true then _ else _) _ _ _
  cases below.any (tupGuardF (.ref a)) with
  | false =>
    refine wpOwn_of_wpAny ?_
    exact wpAny_tupleReprRest ha hd hT (fun u tk => h _ u tk (by omega)) hsz
  | true =>
    refine wpOwn_of_wpAny ?_
    refine wpAny_bind (wpAny_rule ?_)
    exact wpAny_bind (wpAny_mkStr (wpAny_pure (h _ _ _ (Nat.le_trans (show (Str.ofString "(...)").length ≤ 5 by decide) (Nat.le_add_left _ _)))) (by decide))
theorem pj_tupI {e : Expr} {p : Pos} {es : List Expr} {te : TE} {t : TJ} (hu : X.A.units + 64 < cLine) (he : PE X e te) (hr : PJ X es t) (hK : X.K = K := by rfl) :
    PJ X (.FormattedValue e (-1) none p :: es) (fun σ H Q => te σ H fun x H1 => ∃ (a : Addr) (ns : List Int), x = .ref a ∧ SqT K H1 a (ns.map V.int) ∧ ns.length ≤ 10 ∧ (∀ i ∈ ns, i.natAbs.log2 < 100) ∧ t σ H1 Q) := fun out pins s σ H Q hl I h => by
  subst hK
  have hl' : out.length + 2000 * (es.length + 1) ≤ 1000000 := by simpa using hl
  have hsl : (sizeLine : Nat) = 16777216 := rfl
  show wpAny _ _ (joinParts out (eval (.FormattedValue e (-1) none p) X.env :: evalEach es X.env)) _ _ s
  refine joinParts_cons (FormattedValue_plain (thn (he pins s σ H _ I h) fun v s1 ⟨x, H1, I1, r, q⟩ => ?_))
  obtain ⟨a, ns, rfl, hS, hlen, hns, q⟩ := q
  cases r
  obtain ⟨its, r, ht, hz⟩ := I1.tuple hS
  have hI : IntsAre its.toArray.toList ns := intsAre_of r
  have hT : ∃ ts, ReprAll X.prog X.w its.toArray.toList ts ∧ piled ts ≤ 103 * ns.length := by
    clear hS ht hz q
    generalize its.toArray.toList = l at hI
    clear r hlen
    induction hI with
    | nil => exact ⟨[], .nil, by simp [piled]⟩
    | cons i tk _ ih =>
      obtain ⟨ts, h1, h2⟩ := ih fun j hj => hns j (List.mem_cons_of_mem _ hj)
      have h0 := hns i List.mem_cons_self
      have hlen : (Str.ofString (toString i)).length ≤ 101 := by
        have := int_text_length_le (a := i) (k := 100) (by decide) h0
        rw [PySem.ofString_length]; exact this
      refine ⟨_, .cons (ReprIs.int tk (by omega)) h1, ?_⟩
      rw [piled_cons, List.length_cons]
      have : (Str.ofString (toString i)).length ≤ 101 := hlen
      show (Str.ofString (toString i)).length + 2 + piled ts ≤ _
      omega
  obtain ⟨ts, hT, hp⟩ := hT
  have htl : (tupleText ts).length ≤ 1100 := by
    unfold tupleText
    rw [strLen_append, strLen_append]
    have e1 : ((("(" : String) : Str)).length = 1 := rfl
    have e3 : (((if ts.length == 1 then ",)" else ")" : String) : Str)).length ≤ 2 := by split <;> decide
    rw [e1]
    by_cases h : ts = []
    · subst h
      have : (Str.join ", " []).length = 0 := rfl
      omega
    · have := join_length_add ts h
      omega
  obtain ⟨o, ho, hc, n, hd⟩ := id ht
  have hTy : ∀ tk, ({ s1 with toks := tk } : Shared).TypeIs (.ref a) "tuple" := fun tk => ⟨o, ho, hc⟩
  refine wpAny_formatField_slot (fun _ _ => nofun) (by omega) ht.typeIs F.slot_tuple_format F.slot_tuple_str F.slot_tuple_repr ?_
  refine wpAny_call (codeAny_call_builtin_own (Code.quiet_builtin _ (by decide +kernel)) F.entry_tuple_repr (F.slot_tuple_repr.check _ _ _ _ _ _ _ _ (hTy _) (F.args_tuple_repr_1 _) (own_tuple_repr_any (b := 0) ho hd hT (fun z u tk hzl => ⟨z, u, rfl, ?_⟩) (by omega))))
  have hz2 : (out ++ z).length = out.length + z.length := strLen_append _ _
  refine ⟨?_, hr (out ++ z) pins _ σ H1 Q (by rw [hz2]; omega) (I1.tok _) q⟩
  rw [hz2]; omega
end
/-! comprehensions over range(i, j) that make things -/
section
variable {K : PySem.W.Frag} {tc : TT} {te : TE} {σ : St} {H1 : Hp} {D : Addr} {Q : VK}
theorem comp_rangeG {lo : Int} {n : Nat} (Pz : Nat → Hp → Prop) (h0 : Pz 0 (upd H1 D (.lst [])))
    (hs : ∀ i H, i < n → Pz i H → tc (some (.int (lo + i)) :: σ) H fun b H4 => if b = true then te (some (.int (lo + i)) :: σ) H4 fun z H5 => ∃ zs', H5 D = some (.lst zs') ∧ zs'.length < sizeLine ∧ Pz (i + 1) (upd H5 D (.lst (zs' ++ [z]))) else Pz (i + 1) H4)
    (hd : ∀ H, Pz n H → Q (.ref D) H) :
    ∃ W : Nat → Nat → Hp → Prop, (∃ m, W 0 m (upd H1 D (.lst []))) ∧ ∀ i m H2, W i m H2 →
      ((Itr lo n).stop i H2 ∧ Q (.ref D) H2) ∨ ((Itr lo n).go i H2 ∧ ∃ N : Hp → Prop, (∀ H', N H' → ∃ m', m' < m ∧ W (i + 1) m' H') ∧ ∀ y H3, (Itr lo n).yld i H2 y H3 →
        tc (some y :: σ) H3 fun b H4 => if b = true then te (some y :: σ) H4 fun z H5 => ∃ zs, H5 D = some (.lst zs) ∧ zs.length < sizeLine ∧ N (upd H5 D (.lst (zs ++ [z]))) else N H4) := by
  refine ⟨fun i m H2 => i ≤ n ∧ m = n - i ∧ Pz i H2, ⟨n, Nat.zero_le _, by simp, h0⟩, ?_⟩
  rintro i m H2 ⟨hi, rfl, hP⟩
  by_cases hlt : i < n
  · refine .inr ⟨hlt, fun H' => Pz (i + 1) H', fun H' p => ⟨n - (i + 1), by omega, hlt, rfl, p⟩, fun y H3 hy => ?_⟩
    obtain ⟨rfl, rfl⟩ := hy
    exact hs i _ hlt hP
  · have e : i = n := Nat.le_antisymm hi (Nat.not_lt.mp hlt)
    subst e
    exact .inl ⟨Nat.le_refl _, hd H2 hP⟩
end
theorem cutV_none (xs : List V) (k : Nat) : cutV xs none (some (k : Int)) = xs.take k := by
  unfold cutV
  rw [HT.sIx_none, HT.sIx_nat, List.drop_zero, Nat.sub_zero]
  by_cases h : k ≤ xs.length
  · rw [Nat.min_eq_left h]
  · rw [Nat.min_eq_right (by omega), List.take_length, List.take_of_length_le (by omega)]
theorem cutV_from (xs : List V) (k : Nat) : cutV xs (some (k : Int)) none = xs.drop k := by
  unfold cutV
  rw [HT.sIx_none, HT.sIx_nat]
  by_cases h : k ≤ xs.length
  · rw [Nat.min_eq_left h]; exact List.take_of_length_le (by rw [List.length_drop]; omega)
  · rw [Nat.min_eq_right (by omega), List.drop_length, List.drop_of_length_le (by omega)]; simp
theorem cutV_two (xs : List V) (k j : Nat) (h : j ≤ xs.length) : cutV xs (some (k : Int)) (some (j : Int)) = (xs.drop k).take (j - k) := by
  unfold cutV
  rw [HT.sIx_nat, HT.sIx_nat, Nat.min_eq_left h]
  by_cases hk : k ≤ xs.length
  · rw [Nat.min_eq_left hk]
  · rw [Nat.min_eq_right (by omega), show j - k = 0 by omega, show j - xs.length = 0 by omega]; simp
end L2
set_option Elab.async false
set_option linter.all false
set_option maxRecDepth 100000
set_option maxHeartbeats 4000000
set_option genInjectivity false
set_option genSizeOfSpec false
namespace LL
open PySem L2
/-! ### the text by places -/
def top (i : Nat) : Stmt := PySem.Challenge.pw_ladderlots_k07_a_step.main.body.getD i (.Pass ⟨0, 0, 0, 0⟩)
abbrev s_check_posts : Stmt := top 10
abbrev s_check_rungs : Stmt := top 11
abbrev s_cross : Stmt := top 12
abbrev s_Ladder_init : Stmt := inClass (top 13) 0
abbrev s_Ladder_ends : Stmt := inClass (top 13) 2
abbrev s_Ladder_carried : Stmt := inClass (top 13) 3
abbrev s_Ladder_turned : Stmt := inClass (top 13) 4
abbrev s_changed : Stmt := top 15
abbrev s_done : Stmt := top 16
abbrev s__law_cell_at : Stmt := top 18
abbrev s__law_whole : Stmt := top 19
abbrev s__law_posts_by : Stmt := top 20
abbrev s__law_rungs_by : Stmt := top 21
abbrev s__law_put_in : Stmt := top 22
abbrev s__law_behind : Stmt := top 23
abbrev s__law_at_by : Stmt := top 24
abbrev s__law_is : Stmt := top 25
abbrev s__law_refused : Stmt := top 26
abbrev s_law : Stmt := top 27
abbrev N_check_posts : List Str := ["posts"]
abbrev P_check_posts : List Str := ["posts"]
theorem sc_check_posts : FnScope N_check_posts P_check_posts (defScope s_check_posts) := ⟨rfl, rfl, rfl, by decide +kernel, rfl, by decide +kernel, by decide +kernel⟩
abbrev N_check_rungs : List Str := ["posts", "rungs", "rung"]
abbrev P_check_rungs : List Str := ["posts", "rungs"]
theorem sc_check_rungs : FnScope N_check_rungs P_check_rungs (defScope s_check_rungs) := ⟨rfl, rfl, rfl, by decide +kernel, rfl, by decide +kernel, by decide +kernel⟩
abbrev N_cross : List Str := ["held", "rung", "left"]
abbrev P_cross : List Str := ["held", "rung"]
theorem sc_cross : FnScope N_cross P_cross (defScope s_cross) := ⟨rfl, rfl, rfl, by decide +kernel, rfl, by decide +kernel, by decide +kernel⟩
abbrev N_Ladder_init : List Str := ["self", "posts", "rungs", "own"]
abbrev P_Ladder_init : List Str := ["self", "posts", "rungs"]
theorem sc_Ladder_init : FnScope N_Ladder_init P_Ladder_init (defScope s_Ladder_init) := ⟨rfl, rfl, rfl, by decide +kernel, rfl, by decide +kernel, by decide +kernel⟩
abbrev N_Ladder_ends : List Str := ["self", "walkers", "feet", "foot", "walker"]
abbrev P_Ladder_ends : List Str := ["self"]
theorem sc_Ladder_ends : FnScope N_Ladder_ends P_Ladder_ends (defScope s_Ladder_ends) := ⟨rfl, rfl, rfl, by decide +kernel, rfl, by decide +kernel, by decide +kernel⟩
abbrev N_Ladder_carried : List Str := ["self", "things", "held", "rung"]
abbrev P_Ladder_carried : List Str := ["self", "things"]
theorem sc_Ladder_carried : FnScope N_Ladder_carried P_Ladder_carried (defScope s_Ladder_carried) := ⟨rfl, rfl, rfl, by decide +kernel, rfl, by decide +kernel, by decide +kernel⟩
abbrev P_Ladder_turned : List Str := ["self"]
abbrev N_changed : List Str := ["word", "rungs"]
abbrev P_changed : List Str := ["word", "rungs"]
theorem sc_changed : FnScope N_changed P_changed (defScope s_changed) := ⟨rfl, rfl, rfl, by decide +kernel, rfl, by decide +kernel, by decide +kernel⟩
abbrev N_done : List Str := ["ladder", "step", "word", "at", "behind", "rungs"]
abbrev P_done : List Str := ["ladder", "step"]
theorem sc_done : FnScope N_done P_done (defScope s_done) := ⟨rfl, rfl, rfl, by decide +kernel, rfl, by decide +kernel, by decide +kernel⟩
abbrev N__law_cell_at : List Str := ["_law_script", "_law_k"]
abbrev P__law_cell_at : List Str := ["_law_script", "_law_k"]
theorem sc_law_cell_at : FnScope N__law_cell_at P__law_cell_at (defScope s__law_cell_at) := ⟨rfl, rfl, rfl, by decide +kernel, rfl, by decide +kernel, by decide +kernel⟩
abbrev N__law_whole : List Str := ["_law_found"]
abbrev P__law_whole : List Str := ["_law_found"]
theorem sc_law_whole : FnScope N__law_whole P__law_whole (defScope s__law_whole) := ⟨rfl, rfl, rfl, by decide +kernel, rfl, by decide +kernel, by decide +kernel⟩
abbrev N__law_posts_by : List Str := ["_law_cell", "_law_way"]
abbrev P__law_posts_by : List Str := ["_law_cell"]
theorem sc_law_posts_by : FnScope N__law_posts_by P__law_posts_by (defScope s__law_posts_by) := ⟨rfl, rfl, rfl, by decide +kernel, rfl, by decide +kernel, by decide +kernel⟩
abbrev N__law_rungs_by : List Str := ["_law_cells", "_law_posts", "_law_kind", "_law_base"]
abbrev P__law_rungs_by : List Str := ["_law_cells", "_law_posts", "_law_kind"]
theorem sc_law_rungs_by : FnScope N__law_rungs_by P__law_rungs_by (defScope s__law_rungs_by) := ⟨rfl, rfl, rfl, by decide +kernel, rfl, by decide +kernel, by decide +kernel⟩
abbrev N__law_put_in : List Str := ["_law_rungs", "_law_posts", "_law_cell", "_law_at", "_law_k", "_law_j"]
abbrev P__law_put_in : List Str := ["_law_rungs", "_law_posts", "_law_cell"]
theorem sc_law_put_in : FnScope N__law_put_in P__law_put_in (defScope s__law_put_in) := ⟨rfl, rfl, rfl, by decide +kernel, rfl, by decide +kernel, by decide +kernel⟩
abbrev N__law_behind : List Str := ["_law_rungs", "_law_word", "_law_at", "_law_far"]
abbrev P__law_behind : List Str := ["_law_rungs", "_law_word", "_law_at"]
theorem sc_law_behind : FnScope N__law_behind P__law_behind (defScope s__law_behind) := ⟨rfl, rfl, rfl, by decide +kernel, rfl, by decide +kernel, by decide +kernel⟩
abbrev N__law_at_by : List Str := ["_law_rungs", "_law_word", "_law_cell", "_law_far", "_law_at", "_law_fitting"]
abbrev P__law_at_by : List Str := ["_law_rungs", "_law_word", "_law_cell", "_law_far"]
theorem sc_law_at_by : FnScope N__law_at_by P__law_at_by (defScope s__law_at_by) := ⟨rfl, rfl, rfl, by decide +kernel, rfl, by decide +kernel, by decide +kernel⟩
abbrev N__law_is : List Str := ["_law_found", "_law_posts", "_law_rungs", "_law_k"]
abbrev P__law_is : List Str := ["_law_found", "_law_posts", "_law_rungs"]
theorem sc_law_is : FnScope N__law_is P__law_is (defScope s__law_is) := ⟨rfl, rfl, rfl, by decide +kernel, rfl, by decide +kernel, by decide +kernel⟩
abbrev N__law_refused : List Str := ["_law_ladder", "_law_step", "e", "_law_kinds"]
abbrev P__law_refused : List Str := ["_law_ladder", "_law_step"]
theorem sc_law_refused : FnScope N__law_refused P__law_refused (defScope s__law_refused) := ⟨rfl, rfl, rfl, by decide +kernel, rfl, by decide +kernel, by decide +kernel⟩
abbrev N_law : List Str := ["_law_script", "_law_posts", "_law_rungs", "_law_ladder", "_law_cell", "_law_word", "_law_at", "_law_due", "_law_found"]
abbrev P_law : List Str := ["_law_script"]
theorem sc_law : FnScope N_law P_law (defScope s_law) := ⟨rfl, rfl, rfl, by decide +kernel, rfl, by decide +kernel, by decide +kernel⟩
/-! ### what is asked of the text as it stands behind the top -/
structure TX (K : PySem.W.Frag) (mg : Str → Option Value) where
  a_Ladder : Addr
  m_Ladder : mg "Ladder" = some (.ref a_Ladder)
  a_LotError : Addr
  m_LotError : mg "LotError" = some (.ref a_LotError)
  a_NoPost : Addr
  m_NoPost : mg "NoPost" = some (.ref a_NoPost)
  a_NoRung : Addr
  m_NoRung : mg "NoRung" = some (.ref a_NoRung)
  a_Unlike : Addr
  m_Unlike : mg "Unlike" = some (.ref a_Unlike)
  a_NoOutcome : Addr
  m_NoOutcome : mg "NoOutcome" = some (.ref a_NoOutcome)
  a_NoStep : Addr
  m_NoStep : mg "NoStep" = some (.ref a_NoStep)
  f_check_posts : Addr
  fd_check_posts : FuncData
  F_check_posts : FunD K "check_posts" "check_posts" s_check_posts .none f_check_posts fd_check_posts
  b_check_posts : Binds K fd_check_posts P_check_posts []
  m_check_posts : mg "check_posts" = some (.ref f_check_posts)
  f_check_rungs : Addr
  fd_check_rungs : FuncData
  F_check_rungs : FunD K "check_rungs" "check_rungs" s_check_rungs .none f_check_rungs fd_check_rungs
  b_check_rungs : Binds K fd_check_rungs P_check_rungs []
  m_check_rungs : mg "check_rungs" = some (.ref f_check_rungs)
  f_cross : Addr
  fd_cross : FuncData
  F_cross : FunD K "cross" "cross" s_cross .none f_cross fd_cross
  b_cross : Binds K fd_cross P_cross []
  m_cross : mg "cross" = some (.ref f_cross)
  f_Ladder_init : Addr
  fd_Ladder_init : FuncData
  d_Ladder_init : Value
  F_Ladder_init : FunD K "__init__" "Ladder.__init__" s_Ladder_init d_Ladder_init f_Ladder_init fd_Ladder_init
  b_Ladder_init : Binds K fd_Ladder_init P_Ladder_init []
  b1_Ladder_init : Binds K fd_Ladder_init P_Ladder_init [Value.none]
  mk_Ladder : Mk K a_Ladder f_Ladder_init
  f_Ladder_ends : Addr
  fd_Ladder_ends : FuncData
  F_Ladder_ends : FunD K "ends" "Ladder.ends" s_Ladder_ends .none f_Ladder_ends fd_Ladder_ends
  b_Ladder_ends : Binds K fd_Ladder_ends P_Ladder_ends []
  mt_Ladder_ends : Meth K a_Ladder "ends" f_Ladder_ends
  f_Ladder_carried : Addr
  fd_Ladder_carried : FuncData
  F_Ladder_carried : FunD K "carried" "Ladder.carried" s_Ladder_carried .none f_Ladder_carried fd_Ladder_carried
  b_Ladder_carried : Binds K fd_Ladder_carried P_Ladder_carried []
  mt_Ladder_carried : Meth K a_Ladder "carried" f_Ladder_carried
  f_Ladder_turned : Addr
  fd_Ladder_turned : FuncData
  F_Ladder_turned : FunD K "turned" "Ladder.turned" s_Ladder_turned .none f_Ladder_turned fd_Ladder_turned
  b_Ladder_turned : Binds K fd_Ladder_turned P_Ladder_turned []
  mt_Ladder_turned : Meth K a_Ladder "turned" f_Ladder_turned
  f_changed : Addr
  fd_changed : FuncData
  F_changed : FunD K "changed" "changed" s_changed .none f_changed fd_changed
  b_changed : Binds K fd_changed P_changed []
  m_changed : mg "changed" = some (.ref f_changed)
  f_done : Addr
  fd_done : FuncData
  F_done : FunD K "done" "done" s_done .none f_done fd_done
  b_done : Binds K fd_done P_done []
  m_done : mg "done" = some (.ref f_done)
  f__law_cell_at : Addr
  fd__law_cell_at : FuncData
  F__law_cell_at : FunD K "_law_cell_at" "_law_cell_at" s__law_cell_at .none f__law_cell_at fd__law_cell_at
  b__law_cell_at : Binds K fd__law_cell_at P__law_cell_at []
  m__law_cell_at : mg "_law_cell_at" = some (.ref f__law_cell_at)
  f__law_whole : Addr
  fd__law_whole : FuncData
  F__law_whole : FunD K "_law_whole" "_law_whole" s__law_whole .none f__law_whole fd__law_whole
  b__law_whole : Binds K fd__law_whole P__law_whole []
  m__law_whole : mg "_law_whole" = some (.ref f__law_whole)
  f__law_posts_by : Addr
  fd__law_posts_by : FuncData
  F__law_posts_by : FunD K "_law_posts_by" "_law_posts_by" s__law_posts_by .none f__law_posts_by fd__law_posts_by
  b__law_posts_by : Binds K fd__law_posts_by P__law_posts_by []
  m__law_posts_by : mg "_law_posts_by" = some (.ref f__law_posts_by)
  f__law_rungs_by : Addr
  fd__law_rungs_by : FuncData
  F__law_rungs_by : FunD K "_law_rungs_by" "_law_rungs_by" s__law_rungs_by .none f__law_rungs_by fd__law_rungs_by
  b__law_rungs_by : Binds K fd__law_rungs_by P__law_rungs_by []
  m__law_rungs_by : mg "_law_rungs_by" = some (.ref f__law_rungs_by)
  f__law_put_in : Addr
  fd__law_put_in : FuncData
  F__law_put_in : FunD K "_law_put_in" "_law_put_in" s__law_put_in .none f__law_put_in fd__law_put_in
  b__law_put_in : Binds K fd__law_put_in P__law_put_in []
  m__law_put_in : mg "_law_put_in" = some (.ref f__law_put_in)
  f__law_behind : Addr
  fd__law_behind : FuncData
  F__law_behind : FunD K "_law_behind" "_law_behind" s__law_behind .none f__law_behind fd__law_behind
  b__law_behind : Binds K fd__law_behind P__law_behind []
  m__law_behind : mg "_law_behind" = some (.ref f__law_behind)
  f__law_at_by : Addr
  fd__law_at_by : FuncData
  F__law_at_by : FunD K "_law_at_by" "_law_at_by" s__law_at_by .none f__law_at_by fd__law_at_by
  b__law_at_by : Binds K fd__law_at_by P__law_at_by []
  m__law_at_by : mg "_law_at_by" = some (.ref f__law_at_by)
  f__law_is : Addr
  fd__law_is : FuncData
  F__law_is : FunD K "_law_is" "_law_is" s__law_is .none f__law_is fd__law_is
  b__law_is : Binds K fd__law_is P__law_is []
  m__law_is : mg "_law_is" = some (.ref f__law_is)
  f__law_refused : Addr
  fd__law_refused : FuncData
  F__law_refused : FunD K "_law_refused" "_law_refused" s__law_refused .none f__law_refused fd__law_refused
  b__law_refused : Binds K fd__law_refused P__law_refused []
  m__law_refused : mg "_law_refused" = some (.ref f__law_refused)
  f_law : Addr
  fd_law : FuncData
  F_law : FunD K "law" "law" s_law .none f_law fd_law
  b_law : Binds K fd_law P_law []
  m_law : mg "law" = some (.ref f_law)
  cl_Ladder : Cls K a_Ladder
  na_posts : NoAttr K a_Ladder "posts"
  na_rungs : NoAttr K a_Ladder "rungs"
  lc : PySem.W.findIn K (.ref a_Ladder) "__class__" = some (some (.builtin "object.__class__"))
  lg : PySem.W.specialIn K (.builtin "object.__class__") "__get__" = some (some (.builtin "getset_descriptor.__get__"))
  lt : PySem.W.takesIn K (.builtin "object.__class__") = some true
  lm : PySem.W.mroIn K a_Ladder (.type "object") = some true
  x_NoPost : ExcCls K a_NoPost
  y_NoPost : ExcK K a_NoPost
  z_NoPost_LotError : PySem.W.mroIn K a_NoPost (.ref a_LotError) = some true
  q_NoPost_ValueError : PySem.W.kitOne K (.ref a_NoPost) (.type "ValueError") = some true
  q_NoPost_NoPost : PySem.W.kitOne K (.ref a_NoPost) (.ref a_NoPost) = some true
  q_NoPost_NoRung : PySem.W.kitOne K (.ref a_NoPost) (.ref a_NoRung) = some false
  q_NoPost_Unlike : PySem.W.kitOne K (.ref a_NoPost) (.ref a_Unlike) = some false
  q_NoPost_NoOutcome : PySem.W.kitOne K (.ref a_NoPost) (.ref a_NoOutcome) = some false
  q_NoPost_NoStep : PySem.W.kitOne K (.ref a_NoPost) (.ref a_NoStep) = some false
  x_NoRung : ExcCls K a_NoRung
  y_NoRung : ExcK K a_NoRung
  z_NoRung_LotError : PySem.W.mroIn K a_NoRung (.ref a_LotError) = some true
  q_NoRung_ValueError : PySem.W.kitOne K (.ref a_NoRung) (.type "ValueError") = some true
  q_NoRung_NoPost : PySem.W.kitOne K (.ref a_NoRung) (.ref a_NoPost) = some false
  q_NoRung_NoRung : PySem.W.kitOne K (.ref a_NoRung) (.ref a_NoRung) = some true
  q_NoRung_Unlike : PySem.W.kitOne K (.ref a_NoRung) (.ref a_Unlike) = some false
  q_NoRung_NoOutcome : PySem.W.kitOne K (.ref a_NoRung) (.ref a_NoOutcome) = some false
  q_NoRung_NoStep : PySem.W.kitOne K (.ref a_NoRung) (.ref a_NoStep) = some false
  x_Unlike : ExcCls K a_Unlike
  y_Unlike : ExcK K a_Unlike
  z_Unlike_LotError : PySem.W.mroIn K a_Unlike (.ref a_LotError) = some true
  q_Unlike_ValueError : PySem.W.kitOne K (.ref a_Unlike) (.type "ValueError") = some true
  q_Unlike_NoPost : PySem.W.kitOne K (.ref a_Unlike) (.ref a_NoPost) = some false
  q_Unlike_NoRung : PySem.W.kitOne K (.ref a_Unlike) (.ref a_NoRung) = some false
  q_Unlike_Unlike : PySem.W.kitOne K (.ref a_Unlike) (.ref a_Unlike) = some true
  q_Unlike_NoOutcome : PySem.W.kitOne K (.ref a_Unlike) (.ref a_NoOutcome) = some false
  q_Unlike_NoStep : PySem.W.kitOne K (.ref a_Unlike) (.ref a_NoStep) = some false
  x_NoStep : ExcCls K a_NoStep
  y_NoStep : ExcK K a_NoStep
  z_NoStep_LotError : PySem.W.mroIn K a_NoStep (.ref a_LotError) = some true
  q_NoStep_ValueError : PySem.W.kitOne K (.ref a_NoStep) (.type "ValueError") = some true
  q_NoStep_NoPost : PySem.W.kitOne K (.ref a_NoStep) (.ref a_NoPost) = some false
  q_NoStep_NoRung : PySem.W.kitOne K (.ref a_NoStep) (.ref a_NoRung) = some false
  q_NoStep_Unlike : PySem.W.kitOne K (.ref a_NoStep) (.ref a_Unlike) = some false
  q_NoStep_NoOutcome : PySem.W.kitOne K (.ref a_NoStep) (.ref a_NoOutcome) = some false
  q_NoStep_NoStep : PySem.W.kitOne K (.ref a_NoStep) (.ref a_NoStep) = some true
  c_LotError : CatchK K a_LotError
  m_len : mg "len" = none
  m_range : mg "range" = none
  m_list : mg "list" = none
  m_tuple : mg "tuple" = none
  m_isinstance : mg "isinstance" = none
  m_int : mg "int" = none
  m_bool : mg "bool" = none
  m_ValueError : mg "ValueError" = none
  m_abs : mg "abs" = none
  m_max : mg "max" = none
  m_enumerate : mg "enumerate" = none
  t_MOST_POSTS : Tok
  g_MOST_POSTS : mg "MOST_POSTS" = some (.int 100 t_MOST_POSTS)
theorem TX.k_check_posts {K : PySem.W.Frag} {mg : Str → Option Value} (T : TX K mg) : PySem.W.keepIn K (.ref T.f_check_posts) = true := T.F_check_posts.kp
theorem TX.k_check_rungs {K : PySem.W.Frag} {mg : Str → Option Value} (T : TX K mg) : PySem.W.keepIn K (.ref T.f_check_rungs) = true := T.F_check_rungs.kp
theorem TX.k_cross {K : PySem.W.Frag} {mg : Str → Option Value} (T : TX K mg) : PySem.W.keepIn K (.ref T.f_cross) = true := T.F_cross.kp
theorem TX.k_changed {K : PySem.W.Frag} {mg : Str → Option Value} (T : TX K mg) : PySem.W.keepIn K (.ref T.f_changed) = true := T.F_changed.kp
theorem TX.k_done {K : PySem.W.Frag} {mg : Str → Option Value} (T : TX K mg) : PySem.W.keepIn K (.ref T.f_done) = true := T.F_done.kp
theorem TX.k__law_cell_at {K : PySem.W.Frag} {mg : Str → Option Value} (T : TX K mg) : PySem.W.keepIn K (.ref T.f__law_cell_at) = true := T.F__law_cell_at.kp
theorem TX.k__law_whole {K : PySem.W.Frag} {mg : Str → Option Value} (T : TX K mg) : PySem.W.keepIn K (.ref T.f__law_whole) = true := T.F__law_whole.kp
theorem TX.k__law_posts_by {K : PySem.W.Frag} {mg : Str → Option Value} (T : TX K mg) : PySem.W.keepIn K (.ref T.f__law_posts_by) = true := T.F__law_posts_by.kp
theorem TX.k__law_rungs_by {K : PySem.W.Frag} {mg : Str → Option Value} (T : TX K mg) : PySem.W.keepIn K (.ref T.f__law_rungs_by) = true := T.F__law_rungs_by.kp
theorem TX.k__law_put_in {K : PySem.W.Frag} {mg : Str → Option Value} (T : TX K mg) : PySem.W.keepIn K (.ref T.f__law_put_in) = true := T.F__law_put_in.kp
theorem TX.k__law_behind {K : PySem.W.Frag} {mg : Str → Option Value} (T : TX K mg) : PySem.W.keepIn K (.ref T.f__law_behind) = true := T.F__law_behind.kp
theorem TX.k__law_at_by {K : PySem.W.Frag} {mg : Str → Option Value} (T : TX K mg) : PySem.W.keepIn K (.ref T.f__law_at_by) = true := T.F__law_at_by.kp
theorem TX.k__law_is {K : PySem.W.Frag} {mg : Str → Option Value} (T : TX K mg) : PySem.W.keepIn K (.ref T.f__law_is) = true := T.F__law_is.kp
theorem TX.k__law_refused {K : PySem.W.Frag} {mg : Str → Option Value} (T : TX K mg) : PySem.W.keepIn K (.ref T.f__law_refused) = true := T.F__law_refused.kp
theorem TX.k_law {K : PySem.W.Frag} {mg : Str → Option Value} (T : TX K mg) : PySem.W.keepIn K (.ref T.f_law) = true := T.F_law.kp
section
variable {P : Program} {w : World} {K : PySem.W.Frag} {mg : Str → Option Value} {base : Heap}
theorem cxD_K {N : List Str} {qual : Str} {st : Stmt} {f : Addr} {cdv : Value} {A : Around} {outer : List Env} {s : Shared} {H : Hp} {E : XK} : (cxD P w K mg base N qual st f cdv A outer s H E).K = K := rfl
local macro_rules | `(tactic| walk_at "rd") => `(tactic| (try simp only [cxD_K, rAddA_int, rEqA_int, rEqA_str, tMake_mkR, tSeq, tNext, tDrop, tRet, tRetN, tIfS, tAsg, gName, tVar, tC, tOp, tUn, rI0, rI, rU, tTest, tB, tChain, tAnd, tOr, tNot, tAndV, tOrV, tNotV, tIf, tIsN, tNotN, tCall, tCB, tCons, tNil, tTup, tLst, sFld, tRaise, tFstr, tListRev, tListRng, tRevT, gSub, tSl, tPart, tNoPart, decide_eq_true_eq, Bool.not_eq_true', decide_true, decide_false, Bool.not_true, Bool.not_false, decide_eq_false_iff_not, Bool.false_eq_true, if_true, if_false, Int.not_le, hEnds, List.map_cons, List.map_nil, List.length_cons, List.length_nil, List.replicate, List.cons_append, List.nil_append, List.getElem?_cons_zero, List.getElem?_cons_succ, List.set_cons_zero, List.set_cons_succ, Option.some.injEq, V.int.injEq, V.ref.injEq, V.bl.injEq, V.str.injEq, reduceCtorEq, exists_eq_left', exists_eq_left, exists_and_left, and_true, true_and, false_and, false_or, or_false, List.cons.injEq]))
/-! ### the program's own -/
def spCP (CP : Addr) : Sp := fun vs H Q E => ∃ n : Int, vs = [.int n] ∧ n.natAbs.log2 < 1920 ∧ (1 ≤ n → n ≤ 100 → Q .non H) ∧ (¬ (1 ≤ n ∧ n ≤ 100) → E (.ref CP) none H)
theorem ok_check_posts (T : TX K mg) : FnOk P w K mg base (CX1 P w) 1 T.f_check_posts T.fd_check_posts P_check_posts (spCP T.a_NoPost) := by
  refine T.F_check_posts.ok sc_check_posts (fun vs H Q E h => ?_) (fun cdv A outer s H vs Q E hr h => ?_)
  · obtain ⟨n, rfl, _⟩ := h; rfl
  · obtain ⟨n, rfl, hn, h1, h2⟩ := h
    have hu64 := u64_of hr
    refine ⟨_, (pss_one (ps_if (pt_not (pt_chain op_le op_le pe_int (pv 0) (pe_glob (v := .int 100) rfl T.g_MOST_POSTS ⟨_, rfl⟩))) (pss_one (ps_raise rfl T.m_NoPost T.x_NoPost rfl cx_raises (pe_fstr (pj_str (pj_int (pe_glob (v := .int 100) rfl T.g_MOST_POSTS ⟨_, rfl⟩) (pj_str (pj_int (pv 0) pj_nil))))))) pss_nil)), ?_⟩
    rw [show L2.start N_check_posts [V.int n] = [some (.int n)] from rfl]
    walk_at "rd"
    split
    · split
      · exact ⟨by decide, hn, fun _ => h2 (by omega)⟩
      · exact h1 (by omega) (by omega)
    · exact ⟨by decide, hn, fun _ => h2 (by omega)⟩
/-- a rung of n posts -/
abbrev okR (n r : Int) : Prop := 0 ≤ r ∧ r ≤ n - 2
def spCR (K : PySem.W.Frag) (CR : Addr) : Sp := fun vs H Q E => ∃ (n : Int) (a : Addr) (ns : List Int), vs = [.int n, .ref a] ∧ SqT K H a (ns.map V.int) ∧ n.natAbs.log2 < 1920 ∧ (∀ r ∈ ns, r.natAbs.log2 < 1920) ∧
  ((∀ r ∈ ns, okR n r) → Q .non H) ∧ ((∃ r ∈ ns, ¬ okR n r) → E (.ref CR) none H)
theorem int_at {ns : List Int} {i : Nat} {y : V} (h : (ns.map V.int)[i]? = some y) : ∃ z, y = V.int z ∧ ns[i]? = some z := by
  rw [List.getElem?_map] at h
  cases e : ns[i]? with
  | none => rw [e] at h; cases h
  | some z => rw [e] at h; exact ⟨z, (Option.some.inj h).symm, rfl⟩
theorem ok_check_rungs (T : TX K mg) : FnOk P w K mg base (CX1 P w) 1 T.f_check_rungs T.fd_check_rungs P_check_rungs (spCR K T.a_NoRung) := by
  refine T.F_check_rungs.ok sc_check_rungs (fun vs H Q E h => ?_) (fun cdv A outer s H vs Q E hr h => ?_)
  · obtain ⟨n, a, ns, rfl, _⟩ := h; rfl
  · obtain ⟨n, a, ns, rfl, hS, hn, hns, h1, h2⟩ := h
    have hu64 := u64_of hr
    refine ⟨_, (pss_one (ps_for PassesOwn.leaving rfl (pi_tup (pv 1)) (pg_name (i := 2) sc_check_rungs.nd rfl (Or.inl rfl)) (pss_one (ps_if (pt_not (pt_chain op_le op_le pe_int (pv 2) (pe_op op_sub (pv 0) pe_int))) (pss_one (ps_raise rfl T.m_NoRung T.x_NoRung rfl cx_raises (pe_fstr (pj_str (pj_int (pv 2) (pj_str (pj_int (pv 0) (pj_str pj_nil)))))))) pss_nil)))), ?_⟩
    rw [show L2.start N_check_rungs [V.int n, V.ref a] = [some (.int n), some (.ref a), none] from rfl]
    refine ⟨_, rfl, a, rfl, ⟨_, hS⟩, for_tup (K := K) (a := a) (xs := ns.map V.int) (fun i σ H2 => H2 = H ∧ (∃ v, σ = [some (.int n), some (.ref a), v]) ∧ ∀ j r, j < i → ns[j]? = some r → okR n r) ⟨rfl, ⟨_, rfl⟩, fun j r hj => absurd hj (Nat.not_lt_zero _)⟩ (fun i σ H2 _ ⟨e, _⟩ => e ▸ hS) ?_ ?_⟩
    · rintro i y σ H2 hi ⟨rfl, ⟨v, rfl⟩, hall⟩
      obtain ⟨z, rfl, hz⟩ := int_at hi
      have hm : z ∈ ns := List.mem_of_getElem? hz
      walk_at "rd"
      have bad : ¬ okR n z → z.natAbs.log2 < 1920 ∧ n.natAbs.log2 < 1920 ∧ ∀ (_ : Str), E (Value.ref T.a_NoRung) none H2 := fun hb => ⟨hns z hm, hn, fun _ => h2 ⟨z, hm, hb⟩⟩
      split
      · split
        · exact bad (by unfold okR; omega)
        · refine ⟨⟨_, rfl⟩, fun j r hj hr => ?_⟩
          rcases Nat.lt_succ_iff_lt_or_eq.mp hj with q | q
          · exact hall j r q hr
          · subst q
            rw [hz] at hr; cases hr
            unfold okR; omega
      · exact bad (by unfold okR; omega)
    · rintro σ H2 ⟨rfl, _, hall⟩
      refine h1 fun r hr => ?_
      obtain ⟨j, hj⟩ := List.getElem?_of_mem hr
      exact hall j r (by rw [List.length_map]; exact (List.getElem?_eq_some_iff.mp hj).1) hj
theorem log_big {i : Int} (h1 : -(10 ^ 70) < i) (h2 : i < 10 ^ 70) : i.natAbs.log2 < 1920 := by
  by_cases h0 : i.natAbs = 0
  · rw [h0]; decide
  · refine (Nat.log2_lt h0).mpr ?_
    have : i.natAbs < 10 ^ 70 := by omega
    exact Nat.lt_trans this (by decide)
theorem log_small {i : Int} (h1 : -1000 ≤ i) (h2 : i ≤ 1000) : i.natAbs.log2 < 1920 := log_big (by omega) (by omega)
/-! ### a ladder -/
def flds (n : Int) (t : Addr) : List (Str × V) := [("posts", .int n), ("rungs", .ref t)]
theorem pr_ne : ¬ (("posts" : Str) = "rungs") := by decide +kernel
theorem flds_put (n : Int) (t : Addr) : putF "rungs" (.ref t) (putF "posts" (.int n) []) = flds n t := by
  show (if ("posts" : Str) = "rungs" then _ else (("posts" : Str), V.int n) :: putF "rungs" (.ref t) []) = _
  rw [if_neg pr_ne]; rfl
theorem flds_posts (n : Int) (t : Addr) : (flds n t).lookup ("posts" : Str) = some (.int n) := by rw [← flds_put, lookup_putF, if_neg pr_ne, lookup_putF, if_pos rfl]
theorem flds_rungs (n : Int) (t : Addr) : (flds n t).lookup ("rungs" : Str) = some (.ref t) := by rw [← flds_put, lookup_putF, if_pos rfl]
theorem flds_no (n : Int) (t : Addr) {m : Str} (h1 : ¬ m = "posts") (h2 : ¬ m = "rungs") : (flds n t).lookup m = none := by rw [← flds_put, lookup_putF, if_neg h2, lookup_putF, if_neg h1]; rfl
/-- a ladder of n posts and the rungs ns stands at p -/
def LadderAt (K : PySem.W.Frag) (C : Addr) (H : Hp) (p : Addr) (n : Int) (ns : List Int) : Prop := ∃ dx t, H p = some (.ins C dx (flds n t)) ∧ H t = some (.tup (ns.map V.int))
theorem LadderAt.same {C : Addr} {H H' : Hp} {p : Addr} {n : Int} {ns : List Int} (L : LadderAt K C H p n ns) (e : Same H H') : LadderAt K C H' p n ns := by
  obtain ⟨dx, t, h, S⟩ := L
  exact ⟨dx, t, e _ _ h, e _ _ S⟩
abbrev okN (n : Int) : Prop := 1 ≤ n ∧ n ≤ 100
/-- what may be handed in as rungs -/
def RungsOf (K : PySem.W.Frag) (H : Hp) (r : V) (ns : List Int) : Prop := (r = .non ∧ ns = []) ∨ ∃ a, r = .ref a ∧ (SqL K H a (ns.map V.int) ∨ H a = some (.tup (ns.map V.int)))
def spInit (K : PySem.W.Frag) (C CP CR : Addr) : Sp := fun vs H Q E => ∃ (p dx : Addr) (n : Int) (r : V) (ns : List Int), vs = [.ref p, .int n, r] ∧ H p = some (.ins C dx []) ∧ RungsOf K H r ns ∧ n.natAbs.log2 < 1920 ∧ (∀ x ∈ ns, x.natAbs.log2 < 1920) ∧
  (¬ okN n → ∀ H', Same H H' → E (.ref CP) none H') ∧ (okN n → (∃ x ∈ ns, ¬ okR n x) → ∀ H', Same H H' → E (.ref CR) none H') ∧
  (okN n → (∀ x ∈ ns, okR n x) → ∀ H', LadderAt K C H' p n ns → (∀ b o, H b = some o → b ≠ p → H' b = some o) → Q .non H')
theorem ok_Ladder_init (T : TX K mg) : FnOk P w K mg base (CX1 P w) 2 T.f_Ladder_init T.fd_Ladder_init P_Ladder_init (spInit K T.a_Ladder T.a_NoPost T.a_NoRung) := by
  have G_check_posts := ok_check_posts (P := P) (w := w) (base := base) T
  have G_check_rungs := ok_check_rungs (P := P) (w := w) (base := base) T
  refine T.F_Ladder_init.ok sc_Ladder_init (fun vs H Q E h => ?_) (fun cdv A outer s H vs Q E hr h => ?_)
  · obtain ⟨p, dx, n, r, ns, rfl, _⟩ := h; rfl
  · obtain ⟨p, dx, n, r, ns, rfl, hp, hR, hn, hns, k1, k2, k3⟩ := h
    have hu64 := u64_of hr
    refine ⟨_, (pss_cons (ps_expr (pe_call G_check_posts (hr.mono (by decide)) rfl T.m_check_posts T.k_check_posts T.b_check_posts .nil cx_passes (pa_cons (pv 1) pa_nil)))
      (pss_cons (ps_set (i := 3) sc_Ladder_init.nd rfl (Or.inl rfl) (pe_ifExp (pt_cmp (pc_isN (pv 2))) (pe_tup pa_nil) (pe_callTy (tup_any (K := K)) rfl T.m_tuple bt_tuple (pa_cons (pv 2) pa_nil))))
      (pss_cons (ps_expr (pe_call G_check_rungs (hr.mono (by decide)) rfl T.m_check_rungs T.k_check_rungs T.b_check_rungs .nil cx_passes (pa_cons (pv 1) (pa_cons (pv 3) pa_nil))))
      (pss_cons (ps_fld (pv 0) (pv 1) rfl)
      (pss_one (ps_fld (pv 0) (pv 3) rfl)))))), ?_⟩
    rw [show L2.start N_Ladder_init [V.ref p, V.int n, r] = [some (.ref p), some (.int n), some r, none] from rfl]
    walk_at "rd"
    refine ⟨n, rfl, hn, fun g1 g2 => ?_, fun hb => k1 hb H (Same.refl _)⟩
    have fin : ∀ (H1 : Hp) (t : Addr) (R : VK), Same H H1 → H1 t = some (.tup (ns.map V.int)) → ((∀ x ∈ ns, okR n x) → R .non H1) → spCR K T.a_NoRung [V.int n, V.ref t] H1 R E := fun H1 t R sm S k => ⟨n, t, ns, rfl, SqT.of S, hn, hns, k, fun hex => k2 ⟨g1, g2⟩ hex H1 sm⟩
    have fin2 : ∀ (H1 : Hp) (t : Addr), Same H H1 → H1 t = some (.tup (ns.map V.int)) → (∀ x ∈ ns, okR n x) → Q .non (upd (upd H1 p (.ins T.a_Ladder dx (putF "posts" (.int n) []))) p (.ins T.a_Ladder dx (putF "rungs" (.ref t) (putF "posts" (.int n) [])))) := fun H1 t sm S hall => by
      have hp1 := sm _ _ hp
      have ntp : t ≠ p := ne_of S hp1 (by intro z; cases z)
      exact k3 ⟨g1, g2⟩ hall _ ⟨dx, t, by rw [upd_same, flds_put], by rw [upd_ne ntp, upd_ne ntp]; exact S⟩ fun b o e hb => by rw [upd_ne hb, upd_ne hb]; exact sm _ _ e
    show (if r = V.non then _ else _)
    rcases hR with ⟨rfl, rfl⟩ | ⟨a, rfl, hS⟩
    · rw [if_pos rfl]
      refine ⟨Nat.zero_le _, fun t ht => fin _ t _ (Same.new _ ht) upd_same fun hall => ?_⟩
      exact ⟨_, _, _, Same.new _ ht _ _ hp, T.cl_Ladder, T.na_posts, by decide, _, _, _, upd_same, T.cl_Ladder, T.na_rungs, (show (1 : Nat) < 1000 by decide), fin2 _ t (Same.new _ ht) upd_same hall⟩
    · rw [if_neg (by intro z; cases z)]
      rcases hS with hS | hS
      · refine ⟨a, _, rfl, .inl ⟨hS, fun t ht => fin _ t _ (Same.new _ ht) upd_same fun hall => ?_⟩⟩
        exact ⟨_, _, _, Same.new _ ht _ _ hp, T.cl_Ladder, T.na_posts, by decide, _, _, _, upd_same, T.cl_Ladder, T.na_rungs, (show (1 : Nat) < 1000 by decide), fin2 _ t (Same.new _ ht) upd_same hall⟩
      · refine ⟨a, _, rfl, .inr ⟨SqT.of hS, fin _ a _ (Same.refl _) hS fun hall => ?_⟩⟩
        exact ⟨_, _, _, hp, T.cl_Ladder, T.na_posts, by decide, _, _, _, upd_same, T.cl_Ladder, T.na_rungs, (show (1 : Nat) < 1000 by decide), fin2 _ a (Same.refl _) hS hall⟩
/-- Ladder(n, r): what a caller shows -/
theorem rd_make {T : TX K mg} {H : Hp} {n : Int} {r : V} {ns : List Int} {vs dvs : List V} {Q : VK} {E : XK} (hv : vs ++ dvs = [.int n, r]) (hR : RungsOf K H r ns) (hn : n.natAbs.log2 < 1920) (hns : ∀ x ∈ ns, x.natAbs.log2 < 1920)
    (k1 : ¬ okN n → ∀ H', Same H H' → E (.ref T.a_NoPost) none H') (k2 : okN n → (∃ x ∈ ns, ¬ okR n x) → ∀ H', Same H H' → E (.ref T.a_NoRung) none H')
    (k3 : okN n → (∀ x ∈ ns, okR n x) → ∀ p H', H p = none → LadderAt K T.a_Ladder H' p n ns → Same H H' → Q (.ref p) H') :
    mkR T.a_Ladder (spInit K T.a_Ladder T.a_NoPost T.a_NoRung) dvs E Q vs H := by
  intro x dx hx hdx hne
  rw [hv]
  have s0 : Same H (upd (upd H dx (.own x)) x (.ins T.a_Ladder dx [])) := fun b o e => by rw [upd_ne (ne_of_none e hx), upd_ne (ne_of_none e hdx)]; exact e
  have hR' : RungsOf K (upd (upd H dx (.own x)) x (.ins T.a_Ladder dx [])) r ns := by
    rcases hR with h | ⟨a, h, S⟩
    · exact .inl h
    · exact .inr ⟨a, h, S.imp s0.seq (s0 _ _)⟩
  refine ⟨x, dx, n, r, ns, rfl, upd_same, hR', hn, hns, fun b H' s1 => k1 b H' (s0.trans s1), fun b e H' s1 => k2 b e H' (s0.trans s1), fun b e H' L kp => ⟨rfl, k3 b e x H' hx L fun c o z => ?_⟩⟩
  exact kp c o (s0 c o z) (ne_of_none z hx)
/-- a good ladder -/
theorem rd_ladder {T : TX K mg} {H : Hp} {n : Int} {r : V} {ns : List Int} {vs dvs : List V} {Q : VK} {E : XK} (hv : vs ++ dvs = [.int n, r]) (hR : RungsOf K H r ns) (hn : okN n) (hns : ∀ x ∈ ns, okR n x)
    (k3 : ∀ p H', H p = none → LadderAt K T.a_Ladder H' p n ns → Same H H' → Q (.ref p) H') : mkR T.a_Ladder (spInit K T.a_Ladder T.a_NoPost T.a_NoRung) dvs E Q vs H :=
  rd_make hv hR (log_small (by omega) (by omega)) (fun x hx => log_small (by have := (hns x hx).1; omega) (by have := (hns x hx).2; omega)) (fun h => absurd hn h) (fun _ ⟨x, hx, hb⟩ => absurd (hns x hx) hb) (fun _ _ => k3)
theorem isi {H : Hp} {x c : V} {t cv : Value} {b : Bool} {Q : VK} (ty : TyX K H x t) (hc : clsV c = some cv) (hk : PySem.W.kitOne K t cv = some b) (q : Q (.bl b) H) : rIsi K [x, c] H Q := ⟨_, _, _, _, _, rfl, ty, hc, hk, q⟩
theorem kit_refl (K : PySem.W.Frag) (t : Value) : PySem.W.kitOne K t t = some true := by simp [PySem.W.kitOne]
theorem lenL {H : Hp} {a : Addr} {xs : List V} {Q : VK} (h : SqL K H a xs) (q : Q (.int xs.length) H) : rLen K [.ref a] H Q := ⟨a, xs, rfl, .inl h, q⟩
theorem lenT {H : Hp} {a : Addr} {xs : List V} {Q : VK} (h : SqT K H a xs) (q : Q (.int xs.length) H) : rLen K [.ref a] H Q := ⟨a, xs, rfl, .inr h, q⟩
theorem ixL {H : Hp} {a : Addr} {xs : List V} {i : Nat} {v : V} {Q : VK} (h : SqL K H a xs) (e : xs[i]? = some v) (q : Q v H) : rIx K (.ref a) (.int i) H Q := .inl ⟨a, xs, i, v, rfl, rfl, h, atI_nat e, q⟩
theorem ixT {H : Hp} {a : Addr} {xs : List V} {i : Nat} {v : V} {Q : VK} (h : SqT K H a xs) (e : xs[i]? = some v) (q : Q v H) : rIx K (.ref a) (.int i) H Q := .inr (.inl ⟨a, xs, i, v, rfl, rfl, h, atI_nat e, q⟩)
theorem addL {H : Hp} {a b : Addr} {xs zs : List V} {Q : VK} (ha : H a = some (.lst xs)) (hb : H b = some (.lst zs)) (hl : xs.length + zs.length ≤ 10000) (q : ∀ p, H p = none → Q (.ref p) (upd H p (.lst (xs ++ zs)))) : rAddA K (.ref a) (.ref b) H Q :=
  .inr (.inl ⟨a, b, xs, zs, rfl, rfl, ha, hb, by have : (sizeLine : Nat) = 16777216 := rfl; omega, q⟩)
theorem rd_posts {T : TX K mg} {H : Hp} {p : Addr} {n : Int} {ns : List Int} {σ : St} {i : Nat} {Q : VK} (L : LadderAt K T.a_Ladder H p n ns) (hσ : σ[i]? = some (some (.ref p))) (q : Q (.int n) H) : tFld K (tVar i) "posts" σ H Q := by
  obtain ⟨dx, t, h, S⟩ := L
  exact ⟨_, hσ, p, _, dx, _, _, rfl, h, T.cl_Ladder, T.na_posts, flds_posts n t, q⟩
theorem rd_rungs {T : TX K mg} {H : Hp} {p : Addr} {n : Int} {ns : List Int} {σ : St} {i : Nat} {Q : VK} (L : LadderAt K T.a_Ladder H p n ns) (hσ : σ[i]? = some (some (.ref p))) (q : ∀ t, H t = some (.tup (ns.map V.int)) → Q (.ref t) H) : tFld K (tVar i) "rungs" σ H Q := by
  obtain ⟨dx, t, h, S⟩ := L
  exact ⟨_, hσ, p, _, dx, _, _, rfl, h, T.cl_Ladder, T.na_rungs, flds_rungs n t, q t S⟩
theorem same_at {H H' : Hp} {a : Addr} {o : HO} (h : H a = some o) (s : Same H H') : H' a = some o := s a o h
theorem same_seq {H H' : Hp} {a : Addr} {xs : List V} (h : SqL K H a xs) (s : Same H H') : SqL K H' a xs := s.seq h
theorem same_tr {H H1 H2 : Hp} (b : Same H1 H2) (a : Same H H1) : Same H H2 := a.trans b
theorem same_nw {H H1 : Hp} {l : Addr} {o : HO} (hl : H1 l = none) (a : Same H H1) : Same H (upd H1 l o) := a.trans (Same.new o hl)
theorem same_lad {C : Addr} {H H' : Hp} {p : Addr} {n : Int} {ns : List Int} (L : LadderAt K C H p n ns) (e : Same H H') : LadderAt K C H' p n ns := L.same e
theorem same_mut {H Hk Hc : Hp} {l : Addr} {o : HO} (hk : Hk l = none) (s0 : Same H Hk) (s : Same H Hc) : Same H (upd Hc l o) := fun b u e => by
  rw [upd_ne (ne_of_none (s0 b u e) hk)]; exact s b u e
local macro_rules | `(tactic| walk_at "sm") => `(tactic| first | exact Same.refl _ | assumption | (with_reducible refine same_nw (by assumption) ?_; walk_at "sm") | (with_reducible refine same_mut (by assumption) ?_ ?_ <;> walk_at "sm") | (with_reducible refine same_tr (by assumption) ?_; walk_at "sm"))
local macro_rules | `(tactic| walk_at "kp") => `(tactic| first | assumption | exact upd_same | exact SqL.of upd_same | (with_reducible refine same_seq (by assumption) ?_; walk_at "sm") | (with_reducible refine same_lad (by assumption) ?_; walk_at "sm") | (with_reducible apply same_at upd_same; walk_at "sm") | (with_reducible refine same_at (by assumption) ?_; walk_at "sm") | (refine SqL.of ?_; with_reducible apply same_at upd_same; walk_at "sm") | (refine SqL.of ?_; with_reducible refine same_at (by assumption) ?_; walk_at "sm"))
theorem rd_forR {T : TX K mg} {H : Hp} {p : Addr} {n : Int} {ns : List Int} {σ : St} {i : Nat} {g : TG} {tb : TS} {D : Ends} (L : LadderAt K T.a_Ladder H p n ns) (hσ : σ[i]? = some (some (.ref p)))
    (h : ∀ t, H t = some (.tup (ns.map V.int)) → ∃ W : Nat → Nat → St → Hp → Prop, (∃ m, W 0 m σ H) ∧ ∀ i m σ H, W i m σ H →
      ((Itt K t).stop i H ∧ D.nx σ H) ∨ ((Itt K t).go i H ∧ ∃ N : St → Hp → Prop, (∀ σ' H', N σ' H' → ∃ m', m' < m ∧ W (i + 1) m' σ' H') ∧ ∀ x H', (Itt K t).yld i H x H' → g x σ H' fun σ2 H2 => tb { D with nx := N, ct := N, bk := D.nx } σ2 H2)) :
    tFor (iTup K (tFld K (tVar i) "rungs")) g tb D σ H := by
  unfold tFor iTup
  exact rd_rungs L hσ fun t ht => ⟨t, rfl, ⟨_, SqT.of ht⟩, h t ht⟩
theorem rngL {H : Hp} {n : Int} {Q : VK} (h1 : 0 ≤ n) (h2 : n ≤ 1000000) (q : ∀ l, H l = none → Q (.ref l) (upd H l (.lst ((upN n.toNat).map V.int)))) : rRngL (.int n) H Q := ⟨n, rfl, by omega, h2, q⟩
theorem setL {H : Hp} {a : Addr} {xs : List V} {i : Nat} {v : V} {Q : Hp → Prop} (h : H a = some (.lst xs)) (hi : i < xs.length) (q : Q (upd H a (.lst (xs.set i v)))) : rSetL (.ref a) (.int i) v H Q :=
  ⟨a, xs, i, i, rfl, rfl, h, by unfold ixN; rw [if_pos (by omega), if_pos (by omega), Int.toNat_natCast], q⟩
/-! ### the law's helpers -/
def cellAt (ns : List Int) (k : Nat) : Int := (ns[k]?).getD 0
def spCell (K : PySem.W.Frag) : Sp := fun vs H Q _ => ∃ (a : Addr) (ns : List Int) (k : Nat), vs = [.ref a, .int k] ∧ SqL K H a (ns.map V.int) ∧ Q (.int (cellAt ns k)) H
theorem ok__law_cell_at (T : TX K mg) : FnOk P w K mg base (CX1 P w) 1 T.f__law_cell_at T.fd__law_cell_at P__law_cell_at (spCell K) := by
  refine T.F__law_cell_at.ok sc_law_cell_at (fun vs H Q E h => ?_) (fun cdv A outer s H vs Q E hr h => ?_)
  · obtain ⟨a, ns, k, rfl, _⟩ := h; rfl
  · obtain ⟨a, ns, k, rfl, hS, q⟩ := h
    have hu64 := u64_of hr
    refine ⟨_, (pss_cons (ps_if (pt_cmpR op_lt (pv 1) (pe_callB (len_any (K := K)) rfl T.m_len bb_len (pa_cons (pv 0) pa_nil)) (nomark _)) (pss_one (ps_ret (pe_ix (ix_any (K := K)) (pv 0) (pv 1) (fun _ _ => rfl)))) pss_nil)
      (pss_one (ps_ret pe_int))), ?_⟩
    rw [show L2.start N__law_cell_at [V.ref a, V.int k] = [some (.ref a), some (.int k)] from rfl]
    walk_at "rd"
    refine lenL hS ?_
    walk_at "rd"
    rw [List.length_map]
    split
    · rename_i hk
      have hk' : k < ns.length := by omega
      refine ixL (v := .int (cellAt ns k)) hS ?_ q
      rw [List.getElem?_map, cellAt, List.getElem?_eq_getElem hk']; rfl
    · rename_i hk
      have e : cellAt ns k = 0 := by rw [cellAt, List.getElem?_eq_none (by omega)]; rfl
      rw [e] at q; exact q
def spWhole : Sp := fun vs H Q _ => ∃ i : Int, vs = [.int i] ∧ Q (.bl true) H
theorem kit_int (K : PySem.W.Frag) : PySem.W.kitOne K (.type "int") (.type "int") = some true := by kernel_rfl
theorem kit_int_bool (K : PySem.W.Frag) : PySem.W.kitOne K (.type "int") (.type "bool") = some false := by kernel_rfl
theorem ok__law_whole (T : TX K mg) : FnOk P w K mg base (CX1 P w) 1 T.f__law_whole T.fd__law_whole P__law_whole spWhole := by
  refine T.F__law_whole.ok sc_law_whole (fun vs H Q E h => ?_) (fun cdv A outer s H vs Q E hr h => ?_)
  · obtain ⟨i, rfl, _⟩ := h; rfl
  · obtain ⟨i, rfl, q⟩ := h
    have hu64 := u64_of hr
    refine ⟨_, (pss_one (ps_ret (pe_and (pe_callB (isi_any (K := K)) rfl T.m_isinstance bb_isinstance (pa_cons (pv 0) (pa_cons (pe_bltn (v := .ty "int") rfl T.m_int bt_int rfl) pa_nil))) (pe_one (pe_not (pe_callB (isi_any (K := K)) rfl T.m_isinstance bb_isinstance (pa_cons (pv 0) (pa_cons (pe_bltn (v := .ty "bool") rfl T.m_bool bt_bool rfl) pa_nil)))))))), ?_⟩
    rw [show L2.start N__law_whole [V.int i] = [some (.int i)] from rfl]
    walk_at "rd"
    refine isi (.of (.int i)) rfl (kit_int K) ?_
    walk_at "rd"
    exact isi (.of (.int i)) rfl (kit_int_bool K) ⟨_, rfl, q⟩
def spPosts : Sp := fun vs H Q _ => ∃ c : Int, vs = [.int c] ∧ ∀ n H', okN n → Same H H' → Q (.int n) H'
theorem ok__law_posts_by (T : TX K mg) : FnOk P w K mg base (CX1 P w) 1 T.f__law_posts_by T.fd__law_posts_by P__law_posts_by spPosts := by
  refine T.F__law_posts_by.ok sc_law_posts_by (fun vs H Q E h => ?_) (fun cdv A outer s H vs Q E hr h => ?_)
  · obtain ⟨i, rfl, _⟩ := h; rfl
  · obtain ⟨c, rfl, q⟩ := h
    have hu64 := u64_of hr
    refine ⟨_, (pss_cons (ps_set (i := 1) sc_law_posts_by.nd rfl (Or.inl rfl) (pe_op op_mod (pv 0) pe_int))
      (pss_cons (ps_if (pt_cmpR (eq_any (K := K) hu64) (pv 1) pe_int (nomark _)) (pss_one (ps_ret (pe_op (add_any (K := K)) pe_int (pe_op op_mod (pe_op op_fdiv (pv 0) pe_int) pe_int)))) pss_nil)
      (pss_one (ps_ret (pe_op (add_any (K := K)) pe_int (pe_op op_mod (pe_op op_fdiv (pv 0) pe_int) (pe_ix (ix_any (K := K)) (pe_lst (pa_cons pe_int (pa_cons pe_int (pa_cons pe_int (pa_cons pe_int pa_nil))))) (pv 1) (fun _ _ => rfl)))))))), ?_⟩
    rw [show L2.start N__law_posts_by [V.int c] = [some (.int c), none] from rfl]
    walk_at "rd"
    refine ⟨by decide, ?_⟩
    split
    · exact ⟨⟨by decide, by decide⟩, by decide, q _ _ ⟨by omega, by omega⟩ (Same.refl _)⟩
    · refine ⟨⟨by decide, by decide⟩, by decide, fun p hp => ?_⟩
      have h3 : c % 4 = ((1 : Nat) : Int) ∨ c % 4 = ((2 : Nat) : Int) ∨ c % 4 = ((3 : Nat) : Int) := by omega
      rcases h3 with h | h | h <;> rw [h]
      · exact ixL (SqL.of upd_same) rfl ⟨4, rfl, by decide, q _ _ ⟨by omega, by omega⟩ (Same.new _ hp)⟩
      · exact ixL (SqL.of upd_same) rfl ⟨7, rfl, by decide, q _ _ ⟨by omega, by omega⟩ (Same.new _ hp)⟩
      · exact ixL (SqL.of upd_same) rfl ⟨12, rfl, by decide, q _ _ ⟨by omega, by omega⟩ (Same.new _ hp)⟩
def spRungs (K : PySem.W.Frag) : Sp := fun vs H Q _ => ∃ (a : Addr) (cs : List Int) (n k : Int), vs = [.ref a, .int n, .int k] ∧ SqL K H a (cs.map V.int) ∧ cs.length ≤ 1000 ∧ okN n ∧
  ∀ (ns : List Int) (l : Addr), ns.length ≤ cs.length → (∀ r ∈ ns, okR n r) → H l = none → Q (.ref l) (upd H l (.lst (ns.map V.int)))
theorem ok__law_rungs_by (T : TX K mg) : FnOk P w K mg base (CX1 P w) 1 T.f__law_rungs_by T.fd__law_rungs_by P__law_rungs_by (spRungs K) := by
  refine T.F__law_rungs_by.ok sc_law_rungs_by (fun vs H Q E h => ?_) (fun cdv A outer s H vs Q E hr h => ?_)
  · obtain ⟨a, cs, n, k, rfl, _⟩ := h; rfl
  · obtain ⟨a, cs, n, k, rfl, hS, hlen, hn, q⟩ := h
    have hu64 := u64_of hr
    refine ⟨_, (pss_cons (ps_if (pt_cmpR (eq_any (K := K) hu64) (pv 1) pe_int (nomark _)) (pss_one (ps_ret (pe_lst pa_nil))) pss_nil)
      (pss_cons (ps_if (pt_cmpR (eq_any (K := K) hu64) (pe_op op_mod (pv 2) pe_int) pe_int (nomark _)) (pss_one (ps_ret (pe_comp rfl (CompSc.of sc_law_rungs_by.nd rfl) (pi_list (pv 0)) (fun _ _ _ => ifs_nil) (fun _ _ _ => (pe_op op_mod (pv 0) (pe_op op_sub (pv 2) pe_int)))))) pss_nil)
      (pss_cons (ps_set (i := 3) sc_law_rungs_by.nd rfl (Or.inr rfl) (pe_op op_mod (pe_op op_fdiv (pv 2) pe_int) pe_int))
      (pss_one (ps_ret (pe_comp rfl (CompSc.of sc_law_rungs_by.nd rfl) (pi_list (pv 0)) (fun _ _ _ => ifs_nil) (fun _ _ _ => (pe_op op_mod (pe_op (add_any (K := K)) (pv 4) (pe_op op_mod (pv 0) pe_int)) (pe_op op_sub (pv 2) pe_int))))))))), ?_⟩
    rw [show L2.start N__law_rungs_by [V.ref a, V.int n, V.int k] = [some (.ref a), some (.int n), some (.int k), none] from rfl]
    walk_at "rd"
    have fin : ∀ zs (D : Addr), (∃ ms : List Int, zs = ms.map V.int ∧ ∀ r ∈ ms, okR n r) → H D = none → zs.length ≤ (cs.map V.int).length → Q (.ref D) (upd H D (.lst zs)) := by
      rintro zs D ⟨ms, rfl, hm⟩ hD hl
      exact q ms D (by simpa using hl) hm hD
    have snoc : ∀ (ms : List Int) (z : Int), (∀ r ∈ ms, okR n r) → ¬ n = 1 → ∃ ms' : List Int, ms.map V.int ++ [V.int (z % (n - 1))] = ms'.map V.int ∧ ∀ r ∈ ms', okR n r := fun ms z hm h1 => by
      refine ⟨ms ++ [z % (n - 1)], by simp, fun r hr => ?_⟩
      rcases List.mem_append.mp hr with hr | hr
      · exact hm r hr
      · rw [List.mem_singleton.mp hr]
        have := hn.1
        exact ⟨Int.emod_nonneg _ (by omega), by have := Int.emod_lt_of_pos z (show 0 < n - 1 by omega); omega⟩
    split
    · exact ⟨Nat.zero_le _, fun p hp => q [] p (Nat.zero_le _) (by simp) hp⟩
    · rename_i h1
      have hpos : 0 < n - 1 := by have := hn.1; omega
      refine ⟨by decide, ?_⟩
      split
      · refine rd_compL (xs := cs.map V.int) (fun i zs => ∃ ms : List Int, zs = ms.map V.int ∧ ∀ r ∈ ms, okR n r) rfl ⟨[], rfl, by simp⟩ hS (by simpa using hlen) ?_ (fun D hD zs hz hl => fin zs D hz hD hl)
        rintro D hD i x zs hx ⟨ms, rfl, hm⟩ hz hz2
        obtain ⟨z, rfl, _⟩ := int_at hx
        walk_at "rd"
        exact ⟨hpos, _, upd_same, hz2, _, upd_upd, snoc ms z hm h1, by simpa using hz⟩
      · refine ⟨⟨by decide, by decide⟩, by decide, rd_compL (xs := cs.map V.int) (fun i zs => ∃ ms : List Int, zs = ms.map V.int ∧ ∀ r ∈ ms, okR n r) rfl ⟨[], rfl, by simp⟩ hS (by simpa using hlen) ?_ (fun D hD zs hz hl => fin zs D hz hD hl)⟩
        rintro D hD i x zs hx ⟨ms, rfl, hm⟩ hz hz2
        obtain ⟨z, rfl, _⟩ := int_at hx
        walk_at "rd"
        exact ⟨by decide, hpos, _, upd_same, hz2, _, upd_upd, snoc ms _ hm h1, by simpa using hz⟩
def spIs (K : PySem.W.Frag) (C : Addr) : Sp := fun vs H Q _ => ∃ (p l : Addr) (n : Int) (ns : List Int), vs = [.ref p, .int n, .ref l] ∧ LadderAt K C H p n ns ∧ SqL K H l (ns.map V.int) ∧ ns.length ≤ 1000 ∧ Q (.bl true) H
theorem ok__law_is (T : TX K mg) : FnOk P w K mg base (CX1 P w) 2 T.f__law_is T.fd__law_is P__law_is (spIs K T.a_Ladder) := by
  have G__law_whole := ok__law_whole (P := P) (w := w) (base := base) T
  refine T.F__law_is.ok sc_law_is (fun vs H Q E h => ?_) (fun cdv A outer s H vs Q E hr h => ?_)
  · obtain ⟨p, l, n, ns, rfl, _⟩ := h; rfl
  · obtain ⟨p, l, n, ns, rfl, hL, hS, hlen, q⟩ := h
    have hu64 := u64_of hr
    refine ⟨_, (pss_cons (ps_if (PW.pt (pw_or (pt_not (pt_val (pe_callB (isi_any (K := K)) rfl T.m_isinstance bb_isinstance (pa_cons (pv 0) (pa_cons (pe_glob (v := .ref T.a_Ladder) rfl T.m_Ladder rfl) pa_nil))))) (pw_or (pt_not (pt_val (pe_call G__law_whole (hr.mono (by decide)) rfl T.m__law_whole T.k__law_whole T.b__law_whole .nil passE0 (pa_cons (fld_any (K := K) (pv 0) rfl) pa_nil)))) (pw_or1 (pt_cmpR (ne_any (K := K) hu64) (fld_any (K := K) (pv 0) rfl) (pv 1) (nomark _)))))) (pss_one (ps_ret pe_bl)) pss_nil)
      (pss_cons (ps_if (PW.pt (pw_or (pt_not (pt_val (pe_callB (isi_any (K := K)) rfl T.m_isinstance bb_isinstance (pa_cons (fld_any (K := K) (pv 0) rfl) (pa_cons (pe_bltn (v := .ty "tuple") rfl T.m_tuple bt_tuple rfl) pa_nil))))) (pw_or1 (pt_cmpR (ne_any (K := K) hu64) (pe_callB (len_any (K := K)) rfl T.m_len bb_len (pa_cons (fld_any (K := K) (pv 0) rfl) pa_nil)) (pe_callB (len_any (K := K)) rfl T.m_len bb_len (pa_cons (pv 2) pa_nil)) (nomark _))))) (pss_one (ps_ret pe_bl)) pss_nil)
      (pss_cons (ps_for PassesOwn.leaving rfl (pi_range1 rfl T.m_range (pa_cons (pe_callB (len_any (K := K)) rfl T.m_len bb_len (pa_cons (pv 2) pa_nil)) pa_nil)) (pg_name (i := 3) sc_law_is.nd rfl (Or.inl rfl)) (pss_one (ps_if (PW.pt (pw_or (pt_not (pt_val (pe_call G__law_whole (hr.mono (by decide)) rfl T.m__law_whole T.k__law_whole T.b__law_whole .nil passE0 (pa_cons (pe_ix (ix_any (K := K)) (fld_any (K := K) (pv 0) rfl) (pv 3) (fun _ _ => rfl)) pa_nil)))) (pw_or1 (pt_cmpR (ne_any (K := K) hu64) (pe_ix (ix_any (K := K)) (fld_any (K := K) (pv 0) rfl) (pv 3) (fun _ _ => rfl)) (pe_ix (ix_any (K := K)) (pv 2) (pv 3) (fun _ _ => rfl)) (nomark _))))) (pss_one (ps_ret pe_bl)) pss_nil)))
      (pss_one (ps_ret pe_bl))))), ?_⟩
    rw [show L2.start N__law_is [V.ref p, V.int n, V.ref l] = [some (.ref p), some (.int n), some (.ref l), none] from rfl]
    have hins := hL
    obtain ⟨dx, t, hp, ht⟩ := hins
    walk_at "rd"
    refine isi (.of (.ins hp T.cl_Ladder T.lc T.lg T.lt T.lm)) rfl (kit_refl K _) ?_
    walk_at "rd"
    refine rd_posts hL rfl ⟨n, rfl, ?_⟩
    walk_at "rd"
    refine rd_posts hL rfl ?_
    walk_at "rd"
    refine rd_rungs hL rfl fun t' ht' => isi (.of (.tup ht')) rfl (kit_refl K _) ?_
    walk_at "rd"
    refine rd_rungs hL rfl fun t' ht' => lenT (SqT.of ht') (lenL hS ?_)
    walk_at "rd"
    refine rd_forLen rfl (.inl hS) (by rw [List.length_map]; omega) (fun i σ H2 => H2 = H ∧ ∃ v, σ = [some (V.ref p), some (V.int n), some (V.ref l), v]) ⟨rfl, _, rfl⟩ ?_ ?_
    · rintro i σ H2 hi ⟨rfl, v, rfl⟩
      have hi' : i < ns.length := by simpa using hi
      have hx : (ns.map V.int)[i]? = some (.int ns[i]) := by rw [List.getElem?_map, List.getElem?_eq_getElem hi']; rfl
      walk_at "rd"
      refine rd_rungs hL rfl fun t' ht' => ixT (SqT.of ht') hx ⟨_, rfl, ?_⟩
      walk_at "rd"
      refine rd_rungs hL rfl fun t' ht' => ixT (SqT.of ht') hx (ixL hS hx ?_)
      walk_at "rd"
      exact ⟨_, rfl⟩
    · rintro σ H2 ⟨rfl, v, rfl⟩
      exact q
theorem cut_ints (ns : List Int) (lo hi : Option Int) : ∃ ms : List Int, cutV (ns.map V.int) lo hi = ms.map V.int ∧ ms.length ≤ ns.length ∧ ∀ x ∈ ms, x ∈ ns := by
  refine ⟨(ns.drop (HT.sIx (ns.map V.int).length 0 lo)).take (HT.sIx (ns.map V.int).length (ns.map V.int).length hi - HT.sIx (ns.map V.int).length 0 lo), ?_, ?_, fun x hx => List.mem_of_mem_drop (List.mem_of_mem_take hx)⟩
  · unfold cutV; rw [List.map_take, List.map_drop]
  · rw [List.length_take, List.length_drop]; omega
/-- two lists of the same written bools -/
theorem eqBls {H : Hp} {a b : Addr} {bs : List Bool} {neg : Bool} {Q : VK} (ha : H a = some (.lst (bs.map V.bl))) (hb : H b = some (.lst (bs.map V.bl))) (h1 : SeqAt.shaped (.list (bs.map PyData.bool)) = true) (h2 : SeqAt.noMix (.list (bs.map PyData.bool)) (.list (bs.map PyData.bool)) = true)
    (h3 : PySem.Spec.same (.list (bs.map PyData.bool)) (.list (bs.map PyData.bool)) = true) (q : Q (.bl (if neg then false else true)) H) : rEqA K neg (.ref a) (.ref b) H Q :=
  .inr ⟨_, _, .lst (SqL.of ha) (.bls bs), .lst (SqL.of hb) (.bls bs), h1, h1, h2, by rw [h3]; exact q⟩
theorem slL {H : Hp} {a : Addr} {xs : List V} {lo hi : Option Int} {Q : VK} (h : SqL K H a xs) (q : ∀ p, H p = none → Q (.ref p) (upd H p (.lst (cutV xs lo hi)))) : rSlA K (.ref a) lo hi H Q := .inl ⟨a, xs, rfl, h, q⟩
theorem eqInts {H : Hp} {a b : Addr} {ns ms : List Int} {neg : Bool} {Q : VK} (ha : SqL K H a (ns.map V.int)) (hb : SqL K H b (ms.map V.int)) (q : Q (.bl (if neg then !decide (ns = ms) else decide (ns = ms))) H) : rEqA K neg (.ref a) (.ref b) H Q := .inr (eqD_ints ha hb q)
def spLaw (K : PySem.W.Frag) : Sp := fun vs H Q _ => ∃ (a : Addr) (ns : List Int), vs = [.ref a] ∧ SqL K H a (ns.map V.int) ∧ ns.length ≤ 63 ∧ ∀ H', Q (.bl true) H'
/-! ### where a walker comes out -/
def stp (r h : Int) : Int := if h = r then r + 1 else if h = r + 1 then r else h
def endAt (h : Int) (rs : List Int) : Int := rs.foldl (fun h r => stp r h) h
theorem stp_stp (r h : Int) : stp r (stp r h) = h := by
  unfold stp
  repeat' split
  all_goals omega
theorem stp_in {n r h : Int} (hr : okR n r) (h0 : 0 ≤ h) (h1 : h < n) : 0 ≤ stp r h ∧ stp r h < n := by
  have := hr.1; have := hr.2
  unfold stp
  repeat' split
  all_goals omega
theorem endAt_cons (h r : Int) (rs : List Int) : endAt h (r :: rs) = endAt (stp r h) rs := rfl
theorem endAt_app (h : Int) (rs ts : List Int) : endAt h (rs ++ ts) = endAt (endAt h rs) ts := by unfold endAt; rw [List.foldl_append]
theorem endAt_snoc (h r : Int) (rs : List Int) : endAt h (rs ++ [r]) = stp r (endAt h rs) := by rw [endAt_app]; rfl
theorem endAt_in {n : Int} : ∀ {rs : List Int} {h : Int}, (∀ r ∈ rs, okR n r) → 0 ≤ h → h < n → 0 ≤ endAt h rs ∧ endAt h rs < n
  | [], h, _, h0, h1 => ⟨h0, h1⟩
  | r :: rs, h, hr, h0, h1 => by
    have q := stp_in (hr r List.mem_cons_self) h0 h1
    exact endAt_in (rs := rs) (h := stp r h) (fun x hx => hr x (List.mem_cons_of_mem _ hx)) q.1 q.2
theorem endAt_back : ∀ (rs : List Int) (h : Int), endAt (endAt h rs) rs.reverse = h
  | [], h => rfl
  | r :: rs, h => by rw [List.reverse_cons, endAt_snoc, endAt_cons, endAt_back rs, stp_stp]
theorem endAt_forth (rs : List Int) (h : Int) : endAt (endAt h rs.reverse) rs = h := by
  have := endAt_back rs.reverse h
  rwa [List.reverse_reverse] at this
theorem endAt_take {rs : List Int} {i : Nat} {z : Int} (h : rs[i]? = some z) (k : Int) : endAt k (rs.take (i + 1)) = stp z (endAt k (rs.take i)) := by
  rw [List.take_add_one, h]
  exact endAt_snoc _ _ _
/-- two neighbours change their things -/
theorem swap_get {α : Type} {xs : List α} {r : Nat} {a b : α} (ha : xs[r]? = some a) (hb : xs[r + 1]? = some b) (h : Int) (h0 : 0 ≤ h) (hl : h < xs.length) :
    ((xs.set r b).set (r + 1) a)[(stp r h).toNat]? = xs[h.toNat]? := by
  obtain ⟨hr, _⟩ := List.getElem?_eq_some_iff.mp hb
  unfold stp
  by_cases e1 : h = (r : Int)
  · subst e1
    rw [if_pos rfl, show ((r : Int) + 1).toNat = r + 1 by omega, Int.toNat_natCast, ha, List.getElem?_set_self (by rw [List.length_set]; exact hr)]
  · rw [if_neg e1]
    by_cases e2 : h = (r : Int) + 1
    · rw [if_pos e2, Int.toNat_natCast, List.getElem?_set_ne (by omega), List.getElem?_set_self (by omega), e2, show ((r : Int) + 1).toNat = r + 1 by omega, hb]
    · rw [if_neg e2, List.getElem?_set_ne (by omega), List.getElem?_set_ne (by omega)]
def endsL (n : Int) (rs : List Int) : List Int := (upN n.toNat).map fun k => endAt k rs
theorem endsL_len (n : Int) (rs : List Int) : (endsL n rs).length = n.toNat := by simp [endsL, upN]
theorem endsL_get {n : Int} {rs : List Int} {k : Nat} (h : (k : Int) < n) : (endsL n rs)[k]? = some (endAt k rs) := by
  unfold endsL
  rw [List.getElem?_map, upN_get (by omega)]; rfl
theorem rd_meth {T : TX K mg} {H : Hp} {p : Addr} {n : Int} {ns : List Int} {σ : St} {i : Nat} {m : Str} {sp : Sp} {ta : TA} {E : XK} {Q : VK} (L : LadderAt K T.a_Ladder H p n ns) (hσ : σ[i]? = some (some (.ref p)))
    (h1 : ¬ m = "posts") (h2 : ¬ m = "rungs") (q : ta σ H fun vs H2 => sp (.ref p :: (vs ++ [])) H2 Q E) : tMeth T.a_Ladder m sp [] E (tVar i) ta σ H Q := by
  obtain ⟨dx, t, h, S⟩ := L
  exact ⟨_, hσ, p, dx, _, rfl, h, flds_no n t h1 h2, q⟩
/-! ### two neighbours change places -/
def spCross : Sp := fun vs H Q _ => ∃ (l : Addr) (r : Nat) (xs : List V) (a b : V), vs = [.ref l, .int r] ∧ H l = some (.lst xs) ∧ xs[r]? = some a ∧ xs[r + 1]? = some b ∧ Q .non (upd H l (.lst ((xs.set r b).set (r + 1) a)))
theorem ok_cross (T : TX K mg) : FnOk P w K mg base (CX1 P w) 1 T.f_cross T.fd_cross P_cross spCross := by
  refine T.F_cross.ok sc_cross (fun vs H Q E h => ?_) (fun cdv A outer s H vs Q E hr h => ?_)
  · obtain ⟨l, r, xs, a, b, rfl, _⟩ := h; rfl
  · obtain ⟨l, r, xs, a, b, rfl, hl, ea, eb, q⟩ := h
    have hu64 := u64_of hr
    refine ⟨_, (pss_cons (ps_set (i := 2) sc_cross.nd rfl (Or.inl rfl) (pe_ix (ix_any (K := K)) (pv 0) (pv 1) (fun _ _ => rfl)))
      (pss_cons (ps_asg (pe_ix (ix_any (K := K)) (pv 0) (pe_op (add_any (K := K)) (pv 1) pe_int) (fun _ _ => rfl)) (pg_sub (pv 0) (pv 1) set_list))
      (pss_one (ps_asg (pv 2) (pg_sub (pv 0) (pe_op (add_any (K := K)) (pv 1) pe_int) set_list))))), ?_⟩
    rw [show L2.start N_cross [V.ref l, V.int r] = [some (.ref l), some (.int r), none] from rfl]
    have hcast : ((r : Int) + 1) = ((r + 1 : Nat) : Int) := by omega
    have hr1 : r + 1 < xs.length := (List.getElem?_eq_some_iff.mp eb).1
    walk_at "rd"
    refine ixL (SqL.of hl) ea ?_
    rw [hcast]
    refine ixL (SqL.of hl) eb ?_
    walk_at "rd"
    refine setL hl (by omega) ?_
    walk_at "rd"
    refine setL upd_same (by rw [List.length_set]; exact hr1) ?_
    rw [upd_upd]
    exact q
def spCar (K : PySem.W.Frag) (C CU : Addr) : Sp := fun vs H Q E => ∃ (p a : Addr) (n : Int) (ns : List Int) (xs : List V), vs = [.ref p, .ref a] ∧ LadderAt K C H p n ns ∧ okN n ∧ (∀ r ∈ ns, okR n r) ∧ SqL K H a xs ∧
  ((xs.length : Int) = n → ∀ (ys : List V) (l : Addr), ys.length = xs.length → (∀ k, 0 ≤ k → k < n → ys[(endAt k ns).toNat]? = xs[k.toNat]?) → H l = none → Q (.ref l) (upd H l (.lst ys))) ∧ (¬ (xs.length : Int) = n → E (.ref CU) none H)
def carI (H : Hp) (l p a : Addr) (n : Int) (ns : List Int) (xs : List V) (i : Nat) (σ : St) (H2 : Hp) : Prop := ∃ ys v3, H2 = upd H l (.lst ys) ∧ σ = [some (.ref p), some (.ref a), some (.ref l), v3] ∧ ys.length = xs.length ∧ ∀ k, 0 ≤ k → k < n → ys[(endAt k (ns.take i)).toNat]? = xs[k.toNat]?
theorem ok_Ladder_carried (T : TX K mg) : FnOk P w K mg base (CX1 P w) 2 T.f_Ladder_carried T.fd_Ladder_carried P_Ladder_carried (spCar K T.a_Ladder T.a_Unlike) := by
  have G_cross := ok_cross (P := P) (w := w) (base := base) T
  refine T.F_Ladder_carried.ok sc_Ladder_carried (fun vs H Q E h => ?_) (fun cdv A outer s H vs Q E hr h => ?_)
  · obtain ⟨p, a, n, ns, xs, rfl, _⟩ := h; rfl
  · obtain ⟨p, a, n, ns, xs, rfl, hL, hn, hok, hS, h1, h2⟩ := h
    have hu64 := u64_of hr
    refine ⟨_, (pss_cons (ps_if (pt_cmpR (ne_any (K := K) hu64) (pe_callB (len_any (K := K)) rfl T.m_len bb_len (pa_cons (pv 1) pa_nil)) (fld_any (K := K) (pv 0) rfl) (nomark _)) (pss_one (ps_raise rfl T.m_Unlike T.x_Unlike rfl cx_raises pe_str)) pss_nil)
      (pss_cons (ps_set (i := 2) sc_Ladder_carried.nd rfl (Or.inl rfl) (pe_callTy (list_any (K := K)) rfl T.m_list bt_list (pa_cons (pv 1) pa_nil)))
      (pss_cons (ps_for PassesOwn.leaving rfl (pi_tup (fld_any (K := K) (pv 0) rfl)) (pg_name (i := 3) sc_Ladder_carried.nd rfl (Or.inl rfl)) (pss_one (ps_expr (pe_call G_cross (hr.mono (by decide)) rfl T.m_cross T.k_cross T.b_cross .nil cx_passes (pa_cons (pv 2) (pa_cons (pv 3) pa_nil))))))
      (pss_one (ps_ret (pv 2)))))), ?_⟩
    rw [show L2.start N_Ladder_carried [V.ref p, V.ref a] = [some (.ref p), some (.ref a), none, none] from rfl]
    walk_at "rd"
    refine lenL hS (rd_posts hL rfl ?_)
    walk_at "rd"
    split
    · rename_i e
      exact h2 e
    · rename_i e
      have e : (xs.length : Int) = n := Decidable.not_not.mp e
      refine ⟨a, xs, rfl, .inl hS, fun l hl => ?_⟩
      refine rd_forR (hL.same (Same.new _ hl)) rfl fun t ht => for_tup (K := K) (a := t) (xs := ns.map V.int) (carI H l p a n ns xs) ?_ ?_ ?_ ?_
      · exact ⟨xs, _, rfl, rfl, rfl, fun k _ _ => by rw [List.take_zero]; rfl⟩
      · rintro i σ H2 _ ⟨ys, v3, rfl, _⟩
        have hne : t ≠ l := ne_of ht upd_same (by intro z; cases z)
        rw [upd_ne hne] at ht
        refine SqT.of ?_
        rw [upd_ne hne]; exact ht
      · rintro i y σ H2 hi ⟨ys, v3, rfl, rfl, hyl, hy⟩
        obtain ⟨z, rfl, hz⟩ := int_at hi
        have hzr := hok z (List.mem_of_getElem? hz)
        obtain ⟨r, rfl⟩ : ∃ r : Nat, z = r := ⟨z.toNat, by have := hzr.1; omega⟩
        have hr1 : r + 1 < ys.length := by have := hzr.2; omega
        have ea : ys[r]? = some ys[r] := List.getElem?_eq_getElem (by omega)
        have eb : ys[r + 1]? = some ys[r + 1] := List.getElem?_eq_getElem hr1
        walk_at "rd"
        refine ⟨l, r, ys, _, _, rfl, upd_same, ea, eb, ?_⟩
        refine ⟨(ys.set r ys[r + 1]).set (r + 1) ys[r], _, by rw [upd_upd], rfl, by rw [List.length_set, List.length_set, hyl], fun k k0 k1 => ?_⟩
        have hin := endAt_in (rs := ns.take i) (fun x hx => hok x (List.mem_of_mem_take hx)) k0 k1
        rw [endAt_take hz, swap_get ea eb _ hin.1 (by omega)]
        exact hy k k0 k1
      · rintro σ H2 ⟨ys, v3, rfl, rfl, hyl, hy⟩
        rw [List.length_map, List.take_length] at hy
        walk_at "rd"
        exact h1 e ys l hyl hy hl
def spEnds (K : PySem.W.Frag) (C : Addr) : Sp := fun vs H Q _ => ∃ (p : Addr) (n : Int) (ns : List Int), vs = [.ref p] ∧ LadderAt K C H p n ns ∧ okN n ∧ (∀ r ∈ ns, okR n r) ∧
  ∀ l H', Same H H' → H l = none → H' l = some (.lst ((endsL n ns).map V.int)) → Q (.ref l) H'
theorem rep_one {α : Type} (x : α) : ∀ k : Nat, (List.replicate k [x]).flatten = List.replicate k x
  | 0 => rfl
  | k + 1 => by rw [List.replicate_succ, List.flatten_cons, rep_one x k]; rfl
def endI (H3 : Hp) (lf p l2 : Addr) (n : Int) (ns : List Int) (j : Nat) (σ : St) (H4 : Hp) : Prop := ∃ fs v3 v4, Same H3 H4 ∧ H4 lf = some (.lst fs) ∧ σ = [some (.ref p), some (.ref l2), some (.ref lf), v3, v4] ∧ fs.length = n.toNat ∧ ∀ k : Nat, (k : Int) < n → endAt k ns < j → fs[k]? = some (.int (endAt k ns))
theorem ok_Ladder_ends (T : TX K mg) : FnOk P w K mg base (CX1 P w) 3 T.f_Ladder_ends T.fd_Ladder_ends P_Ladder_ends (spEnds K T.a_Ladder) := by
  have G_Ladder_carried := ok_Ladder_carried (P := P) (w := w) (base := base) T
  refine T.F_Ladder_ends.ok sc_Ladder_ends (fun vs H Q E h => ?_) (fun cdv A outer s H vs Q E hr h => ?_)
  · obtain ⟨p, n, ns, rfl, _⟩ := h; rfl
  · obtain ⟨p, n, ns, rfl, hL, hn, hok, q⟩ := h
    have hu64 := u64_of hr
    refine ⟨_, (pss_cons (ps_set (i := 1) sc_Ladder_ends.nd rfl (Or.inl rfl) (pe_meth (pv 0) T.cl_Ladder T.mt_Ladder_carried G_Ladder_carried (hr.mono (by decide)) T.b_Ladder_carried .nil passE0 (pa_cons (pe_list_range rfl rfl T.m_list rfl T.m_range (fld_any (K := K) (pv 0) rfl)) pa_nil)))
      (pss_cons (ps_set (i := 2) sc_Ladder_ends.nd rfl (Or.inl rfl) (pe_op mul_any (pe_lst (pa_cons pe_int pa_nil)) (fld_any (K := K) (pv 0) rfl)))
      (pss_cons (ps_for PassesOwn.leaving rfl (pi_enum rfl T.m_enumerate (pv 1)) (pg_tup rfl (pgs_cons (pg_name (i := 3) sc_Ladder_ends.nd rfl (Or.inl rfl)) (pgs_cons (pg_name (i := 4) sc_Ladder_ends.nd rfl (Or.inl rfl)) pgs_nil))) (pss_one (ps_asg (pv 3) (pg_sub (pv 2) (pv 4) set_list))))
      (pss_one (ps_ret (pv 2)))))), ?_⟩
    rw [show L2.start N_Ladder_ends [V.ref p] = [some (.ref p), none, none, none, none] from rfl]
    have hn1 := hn.1
    have hn2 := hn.2
    walk_at "rd"
    refine rd_meth hL rfl (by decide +kernel) (by decide +kernel) ?_
    walk_at "rd"
    refine rd_posts hL rfl (rngL (by omega) (by omega) fun lw hlw => ?_)
    refine ⟨p, lw, n, ns, _, rfl, hL.same (Same.new _ hlw), hn, hok, SqL.of upd_same, fun _ ws l2 hwl hws hl2 => ?_, fun e => absurd (by rw [List.length_map, upN_length]; omega) e⟩
    rw [List.length_map, upN_length] at hwl
    have s2 : Same H (upd (upd H lw (.lst ((upN n.toNat).map V.int))) l2 (.lst ws)) := (Same.new _ hlw).trans (Same.new _ hl2)
    have hw2 : upd (upd H lw (.lst ((upN n.toNat).map V.int))) l2 (.lst ws) l2 = some (.lst ws) := upd_same
    have hwj : ∀ j : Nat, (j : Int) < n → ws[j]? = some (.int (endAt j ns.reverse)) := fun j hj => by
      have hin := endAt_in (rs := ns.reverse) (fun x hx => hok x (List.mem_reverse.mp hx)) (show (0 : Int) ≤ j by omega) hj
      have := hws _ hin.1 hin.2
      rw [endAt_forth, Int.toNat_natCast] at this
      rw [this, List.getElem?_map, upN_get (by omega), Int.toNat_of_nonneg hin.1]; rfl
    generalize upd (upd H lw (.lst ((upN n.toNat).map V.int))) l2 (.lst ws) = H2 at s2 hw2 ⊢
    walk_at "rd"
    refine ⟨by decide, fun lz hlz => rd_posts (hL.same (s2.trans (Same.new _ hlz))) rfl (.inr ⟨lz, n, _, rfl, rfl, upd_same, by omega, by omega, by have : (sizeLine : Nat) = 16777216 := rfl; simp only [List.length_cons, List.length_nil]; omega, fun lf hlf => ?_⟩)⟩
    rw [rep_one]
    have s3 : Same H2 (upd H2 lz (.lst [V.int 0])) := Same.new _ hlz
    generalize upd H2 lz (.lst [V.int 0]) = H3 at s3 hlf ⊢
    refine ⟨_, rfl, l2, rfl, ⟨_, SqL.of (Same.new _ hlf _ _ (s3 _ _ hw2))⟩, for_enum (K := K) (a := l2) (xs := ws) (endI H3 lf p l2 n ns) ?_ ?_ ?_ ?_⟩
    · exact ⟨_, _, _, Same.new _ hlf, upd_same, rfl, by simp, fun k hk hlt => by have := (endAt_in hok (show (0 : Int) ≤ k by omega) hk).1; omega⟩
    · rintro i σ H4 _ ⟨fs, v3, v4, sm, _⟩
      exact SqL.of (sm _ _ (s3 _ _ hw2))
    · rintro j x σ H4 t hx ⟨fs, v3, v4, sm, hf, rfl, hfl, hfs⟩ ht
      have hj : (j : Int) < n := by have := (List.getElem?_eq_some_iff.mp hx).1; omega
      rw [hwj j hj] at hx
      cases hx
      have hin := endAt_in (rs := ns.reverse) (fun x hx => hok x (List.mem_reverse.mp hx)) (show (0 : Int) ≤ j by omega) hj
      obtain ⟨u, hu⟩ : ∃ u : Nat, endAt j ns.reverse = u := ⟨(endAt j ns.reverse).toNat, by omega⟩
      have hju : endAt u ns = j := by rw [← hu, endAt_forth]
      rw [hu]
      refine ⟨t, _, rfl, SqT.of upd_same, rfl, _, _, rfl, _, _, rfl, rfl, ?_⟩
      walk_at "rd"
      refine setL (Same.new _ ht _ _ hf) (by omega) ?_
      refine ⟨fs.set u (.int j), _, _, ?_, upd_same, rfl, by rw [List.length_set, hfl], fun k hk hlt => ?_⟩
      · exact fun b o e => by
          rw [upd_ne (ne_of_none e hlf)]
          exact Same.new _ ht _ _ (sm b o e)
      · by_cases hku : k = u
        · subst hku
          rw [List.getElem?_set_self (by omega), hju]
        · rw [List.getElem?_set_ne (fun e => hku e.symm)]
          refine hfs k hk ?_
          have : endAt k ns ≠ j := fun e => hku (by
            have h1 := endAt_back ns (k : Int)
            rw [e, hu] at h1
            omega)
          omega
    · rintro σ H4 ⟨fs, v3, v4, sm, hf, rfl, hfl, hfs⟩
      walk_at "rd"
      have e : fs = (endsL n ns).map V.int := by
        apply List.ext_getElem?
        intro i
        by_cases hi : (i : Int) < n
        · have hin := endAt_in hok (show (0 : Int) ≤ i by omega) hi
          rw [hfs i hi (by omega), List.getElem?_map, endsL_get hi]; rfl
        · rw [List.getElem?_eq_none (by omega), List.getElem?_eq_none (by rw [List.length_map, endsL_len]; omega)]
      rw [e] at hf
      exact q lf H4 ((s2.trans s3).trans sm) ((s2.trans s3).free hlf) hf
/-! ### what a step leaves -/
def behL (rs : List Int) (word : Str) (at' : Int) : Option (List Int) :=
  if at' < 0 then none else
  match rs.drop at'.toNat with
  | x :: y :: t =>
    if word = "out" then (if x = y then some (rs.take at'.toNat ++ t) else none)
    else if word = "apart" then (if 2 ≤ x - y ∨ 2 ≤ y - x then some (rs.take at'.toNat ++ y :: x :: t) else none)
    else if word = "turn" then (match t with
      | z :: t' => if x = z ∧ (x - y = 1 ∨ y - x = 1) then some (rs.take at'.toNat ++ y :: x :: y :: t') else none
      | [] => none)
    else none
  | _ => none
theorem cut2 {rs : List Int} {at' : Int} (h : ¬ (at' < 0 ∨ (rs.length : Int) < at' + 2)) : ∃ (A : List Int) (x y : Int) (t : List Int), rs = A ++ x :: y :: t ∧ at' = (A.length : Int) := by
  have h1 : at'.toNat + 2 ≤ rs.length := by omega
  refine ⟨rs.take at'.toNat, rs[at'.toNat]'(by omega), rs[at'.toNat + 1]'(by omega), rs.drop (at'.toNat + 2), ?_, ?_⟩
  · conv => lhs; rw [← List.take_append_drop at'.toNat rs]
    congr 1
    rw [List.drop_eq_getElem_cons (by omega), List.drop_eq_getElem_cons (i := at'.toNat + 1) (by omega)]
  · rw [List.length_take]; omega
theorem behL_out {rs : List Int} {word : Str} {at' : Int} (h : at' < 0 ∨ (rs.length : Int) < at' + 2) : behL rs word at' = none := by
  unfold behL
  by_cases h0 : at' < 0
  · rw [if_pos h0]
  · rw [if_neg h0]
    have hl : (rs.drop at'.toNat).length < 2 := by rw [List.length_drop]; omega
    match rs.drop at'.toNat, hl with
    | [], _ => rfl
    | [_], _ => rfl
theorem behL_in (A : List Int) (x y : Int) (t : List Int) (word : Str) : behL (A ++ x :: y :: t) word (A.length : Int) =
    if word = "out" then (if x = y then some (A ++ t) else none)
    else if word = "apart" then (if 2 ≤ x - y ∨ 2 ≤ y - x then some (A ++ y :: x :: t) else none)
    else if word = "turn" then (match t with
      | z :: t' => if x = z ∧ (x - y = 1 ∨ y - x = 1) then some (A ++ y :: x :: y :: t') else none
      | [] => none)
    else none := by
  unfold behL
  rw [if_neg (by omega), Int.toNat_natCast, List.drop_left, List.take_left]
theorem stp_apart {x y : Int} (h : 2 ≤ x - y ∨ 2 ≤ y - x) (k : Int) : stp y (stp x k) = stp x (stp y k) := by
  unfold stp
  repeat' split
  all_goals omega
theorem stp_turn {x y : Int} (h : x - y = 1 ∨ y - x = 1) (k : Int) : stp x (stp y (stp x k)) = stp y (stp x (stp y k)) := by
  unfold stp
  rcases h with h | h
  · obtain rfl : x = y + 1 := by omega
    repeat' split
    all_goals omega
  · obtain rfl : y = x + 1 := by omega
    repeat' split
    all_goals omega
theorem behL_ends {rs ds : List Int} {word : Str} {at' : Int} (h : behL rs word at' = some ds) : (∀ k, endAt k ds = endAt k rs) ∧ (∀ x ∈ ds, x ∈ rs) ∧ ds.length ≤ rs.length := by
  by_cases hb : at' < 0 ∨ (rs.length : Int) < at' + 2
  · rw [behL_out hb] at h; cases h
  · obtain ⟨A, x, y, t, rfl, rfl⟩ := cut2 hb
    rw [behL_in] at h
    split at h
    · split at h
      · rename_i e
        subst e
        cases h
        refine ⟨fun k => ?_, fun z hz => ?_, by simp; omega⟩
        · rw [endAt_app, endAt_app, endAt_cons, endAt_cons, stp_stp]
        · rcases List.mem_append.mp hz with h | h
          · exact List.mem_append_left _ h
          · exact List.mem_append_right _ (List.mem_cons_of_mem _ (List.mem_cons_of_mem _ h))
      · cases h
    · split at h
      · split at h
        · rename_i e
          cases h
          refine ⟨fun k => ?_, fun z hz => ?_, by simp⟩
          · rw [endAt_app, endAt_app, endAt_cons, endAt_cons, endAt_cons, endAt_cons, stp_apart e]
          · simp only [List.mem_append, List.mem_cons] at hz ⊢
            rcases hz with h | h | h | h <;> simp [h]
        · cases h
      · split at h
        · cases t with
          | nil => cases h
          | cons z t' =>
            simp only at h
            split at h
            · rename_i e
              obtain ⟨rfl, e⟩ := e
              cases h
              refine ⟨fun k => ?_, fun z hz => ?_, by simp⟩
              · rw [endAt_app, endAt_app, endAt_cons, endAt_cons, endAt_cons, endAt_cons, endAt_cons, endAt_cons, stp_turn e]
              · simp only [List.mem_append, List.mem_cons] at hz ⊢
                rcases hz with h | h | h | h | h <;> simp [h]
            · cases h
        · cases h
theorem slE {H : Hp} {a : Addr} {xs ys : List V} {lo hi : Option Int} {Q : VK} (h : SqL K H a xs) (e : cutV xs lo hi = ys) (q : ∀ p, H p = none → Q (.ref p) (upd H p (.lst ys))) : rSlA K (.ref a) lo hi H Q := .inl ⟨a, xs, rfl, h, fun p hp => by rw [e]; exact q p hp⟩
theorem w_oa : ¬ (("out" : Str) = "apart") := by decide +kernel
theorem w_ot : ¬ (("out" : Str) = "turn") := by decide +kernel
theorem w_at : ¬ (("apart" : Str) = "turn") := by decide +kernel
theorem w_ao : ¬ (("apart" : Str) = "out") := by decide +kernel
theorem w_to : ¬ (("turn" : Str) = "out") := by decide +kernel
theorem w_ta : ¬ (("turn" : Str) = "apart") := by decide +kernel
theorem map_at {ns : List Int} {i : Nat} {z : Int} (h : ns[i]? = some z) : (ns.map V.int)[i]? = some (.int z) := by rw [List.getElem?_map, h]; rfl
/-- what a def that makes a new list tells -/
def spBehL (K : PySem.W.Frag) : Sp := fun vs H Q _ => ∃ (a : Addr) (rs : List Int) (word : Str) (i : Int), vs = [.ref a, .str word, .int i] ∧ SqL K H a (rs.map V.int) ∧ rs.length ≤ 1000 ∧
  (behL rs word i = none → ∀ H', Same H H' → Q .non H') ∧ ∀ ds, behL rs word i = some ds → ∀ l H', Same H H' → H l = none → H' l = some (.lst (ds.map V.int)) → Q (.ref l) H'
theorem ok__law_behind (T : TX K mg) : FnOk P w K mg base (CX1 P w) 1 T.f__law_behind T.fd__law_behind P__law_behind (spBehL K) := by
  refine T.F__law_behind.ok sc_law_behind (fun vs H Q E h => ?_) (fun cdv A outer s H vs Q E hr h => ?_)
  · obtain ⟨a, rs, word, i, rfl, _⟩ := h; rfl
  · obtain ⟨a, rs, word, i, rfl, hS, hlen, q0, q1⟩ := h
    have hu64 := u64_of hr
    refine ⟨_, (pss_cons (ps_if (PW.pt (pw_or (pt_cmpR op_lt (pv 2) pe_int (nomark _)) (pw_or1 (pt_cmpR op_gt (pe_op (add_any (K := K)) (pv 2) pe_int) (pe_callB (len_any (K := K)) rfl T.m_len bb_len (pa_cons (pv 0) pa_nil)) (nomark _))))) (pss_one (ps_ret pe_non)) pss_nil)
      (pss_cons (ps_set (i := 3) sc_law_behind.nd rfl (Or.inl rfl) (pe_callB call_abs rfl T.m_abs bb_abs (pa_cons (pe_op op_sub (pe_ix (ix_any (K := K)) (pv 0) (pv 2) (fun _ _ => rfl)) (pe_ix (ix_any (K := K)) (pv 0) (pe_op (add_any (K := K)) (pv 2) pe_int) (fun _ _ => rfl))) pa_nil)))
      (pss_cons (ps_if (PW.pt (pw_and (pt_cmpR (eq_any (K := K) hu64) (pv 1) pe_str (nomark _)) (pw_and1 (pt_cmpR (eq_any (K := K) hu64) (pv 3) pe_int (nomark _))))) (pss_one (ps_ret (pe_op (add_any (K := K)) (pe_slice (sl_any (K := K)) (pv 0) po_none (po_some (pv 2))) (pe_slice (sl_any (K := K)) (pv 0) (po_some (pe_op (add_any (K := K)) (pv 2) pe_int)) po_none)))) pss_nil)
      (pss_cons (ps_if (PW.pt (pw_and (pt_cmpR (eq_any (K := K) hu64) (pv 1) pe_str (nomark _)) (pw_and1 (pt_cmpR op_gt (pv 3) pe_int (nomark _))))) (pss_one (ps_ret (pe_op (add_any (K := K)) (pe_op (add_any (K := K)) (pe_slice (sl_any (K := K)) (pv 0) po_none (po_some (pv 2))) (pe_lst (pa_cons (pe_ix (ix_any (K := K)) (pv 0) (pe_op (add_any (K := K)) (pv 2) pe_int) (fun _ _ => rfl)) (pa_cons (pe_ix (ix_any (K := K)) (pv 0) (pv 2) (fun _ _ => rfl)) pa_nil)))) (pe_slice (sl_any (K := K)) (pv 0) (po_some (pe_op (add_any (K := K)) (pv 2) pe_int)) po_none)))) pss_nil)
      (pss_cons (ps_if (PW.pt (pw_and (pt_cmpR (eq_any (K := K) hu64) (pv 1) pe_str (nomark _)) (pw_and (pt_cmpR (eq_any (K := K) hu64) (pv 3) pe_int (nomark _)) (pw_and (pt_cmpR op_le (pe_op (add_any (K := K)) (pv 2) pe_int) (pe_callB (len_any (K := K)) rfl T.m_len bb_len (pa_cons (pv 0) pa_nil)) (nomark _)) (pw_and1 (pt_cmpR (eq_any (K := K) hu64) (pe_ix (ix_any (K := K)) (pv 0) (pv 2) (fun _ _ => rfl)) (pe_ix (ix_any (K := K)) (pv 0) (pe_op (add_any (K := K)) (pv 2) pe_int) (fun _ _ => rfl)) (nomark _))))))) (pss_one (ps_ret (pe_op (add_any (K := K)) (pe_op (add_any (K := K)) (pe_slice (sl_any (K := K)) (pv 0) po_none (po_some (pv 2))) (pe_lst (pa_cons (pe_ix (ix_any (K := K)) (pv 0) (pe_op (add_any (K := K)) (pv 2) pe_int) (fun _ _ => rfl)) (pa_cons (pe_ix (ix_any (K := K)) (pv 0) (pv 2) (fun _ _ => rfl)) (pa_cons (pe_ix (ix_any (K := K)) (pv 0) (pe_op (add_any (K := K)) (pv 2) pe_int) (fun _ _ => rfl)) pa_nil))))) (pe_slice (sl_any (K := K)) (pv 0) (po_some (pe_op (add_any (K := K)) (pv 2) pe_int)) po_none)))) pss_nil)
      (pss_one (ps_ret pe_non))))))), ?_⟩
    rw [show L2.start N__law_behind [V.ref a, V.str word, V.int i] = [some (.ref a), some (.str word), some (.int i), none] from rfl]
    walk_at "rd"
    by_cases hb : i < 0 ∨ (rs.length : Int) < i + 2
    · have e := q0 (behL_out hb) _ (Same.refl _)
      by_cases h0 : i < 0
      · rw [if_pos h0]
        exact e
      · rw [if_neg h0]
        refine lenL hS ?_
        walk_at "rd"
        rw [List.length_map, if_pos (by omega)]
        exact e
    · obtain ⟨A, x, y, t, rfl, rfl⟩ := cut2 hb
      rw [if_neg (by omega)]
      refine lenL hS ?_
      walk_at "rd"
      rw [List.length_map, if_neg (by omega)]
      have ex : ((A ++ x :: y :: t).map V.int)[A.length]? = some (.int x) := map_at (by simp)
      have ey : ((A ++ x :: y :: t).map V.int)[A.length + 1]? = some (.int y) := map_at (by simp)
      have hc1 : ((A.length : Int) + 1) = ((A.length + 1 : Nat) : Int) := by omega
      have hc2 : ((A.length : Int) + 2) = ((A.length + 2 : Nat) : Int) := by omega
      have hc3 : ((A.length : Int) + 3) = ((A.length + 3 : Nat) : Int) := by omega
      refine ixL hS ex ?_
      rw [hc1]
      refine ixL hS ey ?_
      walk_at "rd"
      have hB := behL_in A x y t word
      have c0 : cutV ((A ++ x :: y :: t).map V.int) none (some (A.length : Int)) = A.map V.int := by rw [cutV_none, ← List.map_take, List.take_left]
      have c2 : cutV ((A ++ x :: y :: t).map V.int) (some ((A.length + 2 : Nat) : Int)) none = t.map V.int := by
        rw [cutV_from, ← List.map_drop]; congr 1; rw [List.drop_append]; simp
      have hl2 : A.length + t.length + 2 ≤ 1000 := by simp at hlen; omega
      rw [hc2]
      have Hd : ∀ l, H l = none → H l = none := fun _ h => h
      by_cases w1 : word = "out"
      · rw [if_pos w1] at hB ⊢
        by_cases e1 : x = y
        · rw [if_pos (by split <;> omega)]
          rw [if_pos e1] at hB
          refine slE hS c0 fun l1 hl1 => slE ((Same.new _ hl1).seq hS) c2 fun l2 hl2 => ?_
          refine addL (Same.new _ hl2 _ _ upd_same) upd_same (by simp only [List.length_map]; omega) fun l3 hl3 => ?_
          rw [← List.map_append]
          exact q1 _ hB l3 _ (((Same.new _ hl1).trans (Same.new _ hl2)).trans (Same.new _ hl3)) (((Same.new _ hl1).trans (Same.new _ hl2)).free hl3) upd_same
        · rw [if_neg (by split <;> omega)]
          rw [if_neg e1] at hB
          have w2 : ¬ word = "apart" := by rw [w1]; exact w_oa
          have w3 : ¬ word = "turn" := by rw [w1]; exact w_ot
          rw [if_neg w2, if_neg w3]
          exact q0 hB _ (Same.refl _)
      · rw [if_neg w1] at hB ⊢
        by_cases w2 : word = "apart"
        · rw [if_pos w2] at hB ⊢
          by_cases e1 : 2 ≤ x - y ∨ 2 ≤ y - x
          · rw [if_pos (by split <;> omega)]
            rw [if_pos e1] at hB
            refine slE hS c0 fun l1 hl1 => ?_
            refine ixL ((Same.new _ hl1).seq hS) ey (ixL ((Same.new _ hl1).seq hS) ex ⟨by decide, fun l2 hl2 => ?_⟩)
            refine addL (Same.new _ hl2 _ _ upd_same) upd_same (by simp only [List.length_map, List.length_cons, List.length_nil]; omega) fun l3 hl3 => ?_
            have s3 := ((Same.new (.lst (A.map V.int)) hl1).trans (Same.new (.lst [V.int y, V.int x]) hl2)).trans (Same.new (.lst (A.map V.int ++ [V.int y, V.int x])) hl3)
            refine slE (s3.seq hS) c2 fun l4 hl4 => ?_
            refine addL (Same.new _ hl4 _ _ upd_same) upd_same (by simp only [List.length_append, List.length_map, List.length_cons, List.length_nil]; omega) fun l5 hl5 => ?_
            have s5 := (s3.trans (Same.new (.lst (t.map V.int)) hl4))
            exact q1 _ hB l5 _ (s5.trans (Same.new _ hl5)) (s5.free hl5) (by rw [upd_same]; simp)
          · rw [if_neg (by split <;> omega)]
            rw [if_neg e1] at hB
            have w3 : ¬ word = "turn" := by rw [w2]; exact w_at
            rw [if_neg w3]
            exact q0 hB _ (Same.refl _)
        · rw [if_neg w2] at hB ⊢
          by_cases w3 : word = "turn"
          · rw [if_pos w3] at hB ⊢
            by_cases e1 : x - y = 1 ∨ y - x = 1
            · rw [if_pos (by split <;> omega)]
              refine lenL hS ?_
              walk_at "rd"
              cases t with
              | nil =>
                rw [List.length_map, if_neg (by simp)]
                exact q0 hB _ (Same.refl _)
              | cons z t' =>
                rw [List.length_map, if_pos (by simp; omega)]
                have ez : ((A ++ x :: y :: z :: t').map V.int)[A.length + 2]? = some (.int z) := map_at (by simp)
                have c3 : cutV ((A ++ x :: y :: z :: t').map V.int) (some ((A.length + 3 : Nat) : Int)) none = t'.map V.int := by
                  rw [cutV_from, ← List.map_drop]; congr 1; rw [List.drop_append]; simp
                refine ixL hS ex (ixL hS ez ?_)
                walk_at "rd"
                by_cases e2 : x = z
                · rw [if_pos e2]
                  have hB' : behL (A ++ x :: y :: z :: t') word (A.length : Int) = some (A ++ y :: x :: y :: t') := by rw [hB]; exact if_pos ⟨e2, e1⟩
                  refine slE hS c0 fun l1 hl1 => ?_
                  refine ixL ((Same.new _ hl1).seq hS) ey (ixL ((Same.new _ hl1).seq hS) ex (ixL ((Same.new _ hl1).seq hS) ey ⟨by decide, fun l2 hl2 => ?_⟩))
                  refine addL (Same.new _ hl2 _ _ upd_same) upd_same (by simp only [List.length_map, List.length_cons, List.length_nil]; omega) fun l3 hl3 => ?_
                  have s3 := ((Same.new (.lst (A.map V.int)) hl1).trans (Same.new (.lst [V.int y, V.int x, V.int y]) hl2)).trans (Same.new (.lst (A.map V.int ++ [V.int y, V.int x, V.int y])) hl3)
                  rw [hc3]
                  refine slE (s3.seq hS) c3 fun l4 hl4 => ?_
                  refine addL (Same.new _ hl4 _ _ upd_same) upd_same (by simp only [List.length_append, List.length_map, List.length_cons, List.length_nil] at hlen ⊢; omega) fun l5 hl5 => ?_
                  have s5 := (s3.trans (Same.new (.lst (t'.map V.int)) hl4))
                  exact q1 _ hB' l5 _ (s5.trans (Same.new _ hl5)) (s5.free hl5) (by rw [upd_same]; simp)
                · rw [if_neg e2]
                  have hB' : behL (A ++ x :: y :: z :: t') word (A.length : Int) = none := by rw [hB]; exact if_neg fun h => e2 h.1
                  exact q0 hB' _ (Same.refl _)
            · rw [if_neg (by split <;> omega)]
              refine q0 ?_ _ (Same.refl _)
              rw [hB]
              cases t with
              | nil => rfl
              | cons z t' => exact if_neg fun h => e1 h.2
          · rw [if_neg w3] at hB ⊢
            exact q0 hB _ (Same.refl _)
def spChg (K : PySem.W.Frag) (CS : Addr) : Sp := fun vs H Q E => ∃ (a : Addr) (ns : List Int) (word : Str), vs = [.str word, .ref a] ∧ H a = some (.tup (ns.map V.int)) ∧ (reprText word).length ≤ 2000 ∧ (∀ r ∈ ns, 0 ≤ r ∧ r ≤ 100) ∧
  ns.length = (if word = "turn" then 3 else 2) ∧
  (∀ ds, behL ns word 0 = some ds → ∀ t H', Same H H' → H' t = some (.tup (ds.map V.int)) → Q (.ref t) H') ∧ (behL ns word 0 = none → ∀ H', Same H H' → E (.ref CS) none H')
theorem ok_changed (T : TX K mg) : FnOk P w K mg base (CX1 P w) 1 T.f_changed T.fd_changed P_changed (spChg K T.a_NoStep) := by
  refine T.F_changed.ok sc_changed (fun vs H Q E h => ?_) (fun cdv A outer s H vs Q E hr h => ?_)
  · obtain ⟨a, ns, word, rfl, _⟩ := h; rfl
  · obtain ⟨a, ns, word, rfl, hS, hw, hok, hlen, q1, q0⟩ := h
    have hu64 := u64_of hr
    refine ⟨_, (pss_cons (ps_if (PW.pt (pw_and (pt_cmpR (eq_any (K := K) hu64) (pv 0) pe_str (nomark _)) (pw_and1 (pt_cmpR op_ge (pe_callB call_abs rfl T.m_abs bb_abs (pa_cons (pe_op op_sub (pe_ix (ix_any (K := K)) (pv 1) pe_int (fun _ _ => rfl)) (pe_ix (ix_any (K := K)) (pv 1) pe_int (fun _ _ => rfl))) pa_nil)) pe_int (nomark _))))) (pss_one (ps_ret (pe_tup (pa_cons (pe_ix (ix_any (K := K)) (pv 1) pe_int (fun _ _ => rfl)) (pa_cons (pe_ix (ix_any (K := K)) (pv 1) pe_int (fun _ _ => rfl)) pa_nil))))) pss_nil)
      (pss_cons (ps_if (PW.pt (pw_and (pt_cmpR (eq_any (K := K) hu64) (pv 0) pe_str (nomark _)) (pw_and (pt_cmpR (eq_any (K := K) hu64) (pe_ix (ix_any (K := K)) (pv 1) pe_int (fun _ _ => rfl)) (pe_ix (ix_any (K := K)) (pv 1) pe_int (fun _ _ => rfl)) (nomark _)) (pw_and1 (pt_cmpR (eq_any (K := K) hu64) (pe_callB call_abs rfl T.m_abs bb_abs (pa_cons (pe_op op_sub (pe_ix (ix_any (K := K)) (pv 1) pe_int (fun _ _ => rfl)) (pe_ix (ix_any (K := K)) (pv 1) pe_int (fun _ _ => rfl))) pa_nil)) pe_int (nomark _)))))) (pss_one (ps_ret (pe_tup (pa_cons (pe_ix (ix_any (K := K)) (pv 1) pe_int (fun _ _ => rfl)) (pa_cons (pe_ix (ix_any (K := K)) (pv 1) pe_int (fun _ _ => rfl)) (pa_cons (pe_ix (ix_any (K := K)) (pv 1) pe_int (fun _ _ => rfl)) pa_nil)))))) pss_nil)
      (pss_cons (ps_if (PW.pt (pw_and (pt_cmpR (eq_any (K := K) hu64) (pv 0) pe_str (nomark _)) (pw_and1 (pt_cmpR (eq_any (K := K) hu64) (pe_ix (ix_any (K := K)) (pv 1) pe_int (fun _ _ => rfl)) (pe_ix (ix_any (K := K)) (pv 1) pe_int (fun _ _ => rfl)) (nomark _))))) (pss_one (ps_ret (pe_tup pa_nil))) pss_nil)
      (pss_one (ps_raise rfl T.m_NoStep T.x_NoStep rfl cx_raises (pe_fstr (pj_repr (pv 0) (pj_str (pj_tupI (K := K) hu64 (pv 1) pj_nil))))))))), ?_⟩
    rw [show L2.start N_changed [V.str word, V.ref a] = [some (.str word), some (.ref a)] from rfl]
    walk_at "rd"
    have hsh : ns.length = 2 ∨ (word = "turn" ∧ ns.length = 3) := by
      by_cases h : word = "turn"
      · rw [if_pos h] at hlen; exact .inr ⟨h, hlen⟩
      · rw [if_neg h] at hlen; exact .inl hlen
    have bad : behL ns word 0 = none → (reprText word).length ≤ 2000 ∧ ∃ ns' : List Int, SqT K H a (ns'.map V.int) ∧ ns'.length ≤ 10 ∧ (∀ i ∈ ns', i.natAbs.log2 < 100) ∧ ∀ z : Str, E (.ref T.a_NoStep) none H := fun hb =>
      ⟨hw, ns, SqT.of hS, by omega, fun i hi => (by
        have := hok i hi
        by_cases h0 : i.natAbs = 0
        · rw [h0]; decide
        · refine (Nat.log2_lt h0).mpr (Nat.lt_of_lt_of_le (show i.natAbs < 128 by omega) (by decide))), fun _ => q0 hb H (Same.refl _)⟩
    obtain ⟨x, y, t, rfl⟩ : ∃ x y t, ns = x :: y :: t := by
      match ns, hsh with
      | [], h => simp at h
      | [_], h => simp at h
      | x :: y :: t, _ => exact ⟨x, y, t, rfl⟩
    have hB : behL (x :: y :: t) word 0 = _ := behL_in [] x y t word
    have ex : ((x :: y :: t).map V.int)[0]? = some (.int x) := rfl
    have ey : ((x :: y :: t).map V.int)[1]? = some (.int y) := rfl
    by_cases w2 : word = "apart"
    · have w1 : ¬ word = "out" := by rw [w2]; exact w_ao
      have w3 : ¬ word = "turn" := by rw [w2]; exact w_at
      rw [if_neg w1, if_pos w2] at hB
      rw [if_pos w2]
      refine ixT (i := 0) (SqT.of hS) ex (ixT (i := 1) (SqT.of hS) ey ?_)
      walk_at "rd"
      have ht : t = [] := by
        rcases hsh with h | h
        · simpa using h
        · exact absurd h.1 w3
      subst ht
      by_cases e1 : 2 ≤ x - y ∨ 2 ≤ y - x
      · rw [if_pos (by split <;> omega)]
        rw [if_pos e1] at hB
        refine ixT (i := 1) (SqT.of hS) ey (ixT (i := 0) (SqT.of hS) ex ⟨by decide, fun p hp => ?_⟩)
        exact q1 _ hB p _ (Same.new _ hp) upd_same
      · rw [if_neg (by split <;> omega)]
        rw [if_neg e1] at hB
        rw [if_neg w3, if_neg w1]
        exact bad hB
    · rw [if_neg w2]
      by_cases w3 : word = "turn"
      · have w1 : ¬ word = "out" := by rw [w3]; exact w_to
        rw [if_neg w1, if_neg w2, if_pos w3] at hB
        rw [if_pos w3]
        obtain ⟨z, rfl⟩ : ∃ z, t = [z] := by
          rcases hsh with h | h
          · rw [if_pos w3] at hlen; omega
          · match t, h.2 with
            | [z], _ => exact ⟨z, rfl⟩
        have ez : ((x :: y :: [z]).map V.int)[2]? = some (.int z) := rfl
        refine ixT (i := 0) (SqT.of hS) ex (ixT (i := 2) (SqT.of hS) ez ?_)
        walk_at "rd"
        by_cases e2 : x = z
        · rw [if_pos e2]
          refine ixT (i := 0) (SqT.of hS) ex (ixT (i := 1) (SqT.of hS) ey ?_)
          walk_at "rd"
          by_cases e1 : x - y = 1 ∨ y - x = 1
          · rw [if_pos (by split <;> omega)]
            have hB' : behL (x :: y :: [z]) word 0 = some (y :: x :: [y]) := by rw [hB]; exact if_pos ⟨e2, e1⟩
            refine ixT (i := 1) (SqT.of hS) ey (ixT (i := 0) (SqT.of hS) ex (ixT (i := 1) (SqT.of hS) ey ⟨by decide, fun p hp => ?_⟩))
            exact q1 _ hB' p _ (Same.new _ hp) upd_same
          · rw [if_neg (by split <;> omega), if_neg w1]
            exact bad (by rw [hB]; exact if_neg fun h => e1 h.2)
        · rw [if_neg e2, if_neg w1]
          exact bad (by rw [hB]; exact if_neg fun h => e2 h.1)
      · rw [if_neg w3]
        by_cases w1 : word = "out"
        · rw [if_pos w1] at hB ⊢
          have ht : t = [] := by
            rcases hsh with h | h
            · simpa using h
            · exact absurd h.1 w3
          subst ht
          refine ixT (i := 0) (SqT.of hS) ex (ixT (i := 1) (SqT.of hS) ey ?_)
          walk_at "rd"
          by_cases e1 : x = y
          · rw [if_pos e1]
            rw [if_pos e1] at hB
            exact ⟨by decide, fun p hp => q1 _ hB p _ (Same.new _ hp) upd_same⟩
          · rw [if_neg e1]
            rw [if_neg e1] at hB
            exact bad hB
        · rw [if_neg w1, if_neg w2, if_neg w3] at hB
          rw [if_neg w1]
          exact bad hB
theorem catT {H : Hp} {a b : Addr} {xs ys : List Int} {Q : VK} (ha : H a = some (.tup (xs.map V.int))) (hb : H b = some (.tup (ys.map V.int))) (hl : xs.length + ys.length ≤ 100000) (q : ∀ p H', Same H H' → H' p = some (.tup ((xs ++ ys).map V.int)) → Q (.ref p) H') : rAddA K (.ref a) (.ref b) H Q := by
  refine .inr (.inr ⟨a, b, _, _, rfl, rfl, SqT.of ha, SqT.of hb, by simp only [List.length_map]; omega, fun e => ?_, fun e1 e2 => ?_, fun e1 e2 p hp => ?_⟩)
  · have : xs = [] := by simpa using e
    subst this
    exact q b H (Same.refl _) hb
  · have : ys = [] := by simpa using e2
    subst this
    exact q a H (Same.refl _) (by rw [List.append_nil]; exact ha)
  · exact q p _ (Same.new _ hp) (by rw [upd_same, List.map_append])
theorem behL_short {ns : List Int} {word : Str} {i : Int} {m : Nat} (hm : m = (if word = "turn" then 3 else 2)) (h : (ns.length : Int) < i + m) : behL ns word i = none := by
  by_cases hb : i < 0 ∨ (ns.length : Int) < i + 2
  · exact behL_out hb
  · obtain ⟨A, x, y, t, rfl, rfl⟩ := cut2 hb
    by_cases w3 : word = "turn"
    · rw [if_pos w3] at hm
      subst hm
      have ht : t = [] := by
        simp only [List.length_append, List.length_cons] at h
        exact List.length_eq_zero_iff.mp (by omega)
      subst ht
      rw [behL_in, if_neg (by rw [w3]; exact w_to), if_neg (by rw [w3]; exact w_ta), if_pos w3]
    · rw [if_neg w3] at hm
      subst hm
      exact absurd (Or.inr h) hb
theorem behL_mid {A M B : List Int} {word : Str} (hM : M.length = (if word = "turn" then 3 else 2)) : behL (A ++ M ++ B) word (A.length : Int) = (behL M word 0).map fun ds => A ++ ds ++ B := by
  obtain ⟨x, y, t, rfl⟩ : ∃ x y t, M = x :: y :: t := by
    match M, hM with
    | [], h => split at h <;> simp at h
    | [_], h => split at h <;> simp at h
    | x :: y :: t, _ => exact ⟨x, y, t, rfl⟩
  have e1 : A ++ (x :: y :: t) ++ B = A ++ x :: y :: (t ++ B) := by simp
  have hB : behL (x :: y :: t) word 0 = _ := behL_in [] x y t word
  rw [e1, behL_in, hB]
  by_cases w1 : word = "out"
  · rw [if_pos w1, if_pos w1]
    by_cases e : x = y
    · rw [if_pos e, if_pos e]; simp
    · rw [if_neg e, if_neg e]; rfl
  · rw [if_neg w1, if_neg w1]
    by_cases w2 : word = "apart"
    · rw [if_pos w2, if_pos w2]
      by_cases e : 2 ≤ x - y ∨ 2 ≤ y - x
      · rw [if_pos e, if_pos e]; simp
      · rw [if_neg e, if_neg e]; rfl
    · rw [if_neg w2, if_neg w2]
      by_cases w3 : word = "turn"
      · rw [if_pos w3] at hM
        rw [if_pos w3, if_pos w3]
        match t, hM with
        | [z], _ =>
          show (if x = z ∧ (x - y = 1 ∨ y - x = 1) then some (A ++ y :: x :: y :: B) else none) = Option.map _ (if x = z ∧ (x - y = 1 ∨ y - x = 1) then some ([] ++ y :: x :: y :: []) else none)
          by_cases e : x = z ∧ (x - y = 1 ∨ y - x = 1)
          · rw [if_pos e, if_pos e]; simp
          · rw [if_neg e, if_neg e]; rfl
      · rw [if_neg w3, if_neg w3]; rfl
def spDone (K : PySem.W.Frag) (C CS : Addr) : Sp := fun vs H Q E => ∃ (p s : Addr) (n : Int) (ns : List Int) (word : Str) (i : Int), vs = [.ref p, .ref s] ∧ LadderAt K C H p n ns ∧ H s = some (.tup [.str word, .int i]) ∧ okN n ∧ (∀ r ∈ ns, okR n r) ∧ ns.length ≤ 1000 ∧ (reprText word).length ≤ 2000 ∧ i.natAbs.log2 < 1920 ∧
  (∀ ds, behL ns word i = some ds → ∀ l H', Same H H' → H l = none → LadderAt K C H' l n ds → Q (.ref l) H') ∧ (behL ns word i = none → ∀ H', Same H H' → E (.ref CS) none H')
theorem ok_done (T : TX K mg) : FnOk P w K mg base (CX1 P w) 4 T.f_done T.fd_done P_done (spDone K T.a_Ladder T.a_NoStep) := by
  have G_Ladder_init := ok_Ladder_init (P := P) (w := w) (base := base) T
  have G_changed := ok_changed (P := P) (w := w) (base := base) T
  refine T.F_done.ok sc_done (fun vs H Q E h => ?_) (fun cdv A outer s H vs Q E hr h => ?_)
  · obtain ⟨p, s, n, ns, word, i, rfl, _⟩ := h; rfl
  · obtain ⟨p, s, n, ns, word, i, rfl, hL, hS, hn, hok, hlen, hw, hi, q1, q0⟩ := h
    have hu64 := u64_of hr
    refine ⟨_, (pss_cons (ps_set (i := 2) sc_done.nd rfl (Or.inl rfl) (pe_ix (ix_any (K := K)) (pv 1) pe_int (fun _ _ => rfl)))
      (pss_cons (ps_set (i := 3) sc_done.nd rfl (Or.inl rfl) (pe_ix (ix_any (K := K)) (pv 1) pe_int (fun _ _ => rfl)))
      (pss_cons (ps_set (i := 4) sc_done.nd rfl (Or.inl rfl) (pe_op (add_any (K := K)) (pv 3) (pe_ifExp (pt_cmpR (eq_any (K := K) hu64) (pv 2) pe_str (nomark _)) pe_int pe_int)))
      (pss_cons (ps_if (PW.pt (pw_or (pt_cmpR op_lt (pv 3) pe_int (nomark _)) (pw_or1 (pt_cmpR op_gt (pv 4) (pe_callB (len_any (K := K)) rfl T.m_len bb_len (pa_cons (fld_any (K := K) (pv 0) rfl) pa_nil)) (nomark _))))) (pss_one (ps_raise rfl T.m_NoStep T.x_NoStep rfl cx_raises (pe_fstr (pj_str (pj_int (pv 3) (pj_str (pj_repr (pv 2) pj_nil))))))) pss_nil)
      (pss_cons (ps_set (i := 5) sc_done.nd rfl (Or.inl rfl) (fld_any (K := K) (pv 0) rfl))
      (pss_one (ps_ret (pe_make T.mk_Ladder G_Ladder_init (hr.mono (by decide)) rfl T.m_Ladder T.b_Ladder_init .nil cx_passes (pa_cons (fld_any (K := K) (pv 0) rfl) (pa_cons (pe_op (add_any (K := K)) (pe_op (add_any (K := K)) (pe_slice (sl_tupA (K := K)) (pv 5) po_none (po_some (pv 3))) (pe_call G_changed (hr.mono (by decide)) rfl T.m_changed T.k_changed T.b_changed .nil cx_passes (pa_cons (pv 2) (pa_cons (pe_slice (sl_tupA (K := K)) (pv 5) (po_some (pv 3)) (po_some (pv 4))) pa_nil)))) (pe_slice (sl_tupA (K := K)) (pv 5) (po_some (pv 4)) po_none)) pa_nil)))))))))), ?_⟩
    rw [show L2.start N_done [V.ref p, V.ref s] = [some (.ref p), some (.ref s), none, none, none, none] from rfl]
    walk_at "rd"
    refine ixT (i := 0) (SqT.of hS) rfl ?_
    walk_at "rd"
    refine ixT (i := 1) (SqT.of hS) rfl ?_
    walk_at "rd"
    by_cases w3 : word = "turn"
    case' pos =>
      rw [if_pos w3]
      obtain ⟨m, hm0, hm⟩ : ∃ m : Nat, m = 3 ∧ m = (if word = "turn" then 3 else 2) := ⟨3, rfl, (if_pos w3).symm⟩
      rw [show i + 3 = i + (m : Int) by rw [hm0]; rfl]
    case' neg =>
      rw [if_neg w3]
      obtain ⟨m, hm0, hm⟩ : ∃ m : Nat, m = 2 ∧ m = (if word = "turn" then 3 else 2) := ⟨2, rfl, (if_neg w3).symm⟩
      rw [show i + 2 = i + (m : Int) by rw [hm0]; rfl]
    all_goals
      by_cases hb0 : i < 0
      · rw [if_pos hb0]
        exact ⟨hi, hw, fun _ => q0 (behL_out (.inl hb0)) H (Same.refl _)⟩
      · rw [if_neg hb0]
        refine rd_rungs hL rfl fun t ht => lenT (SqT.of ht) ?_
        walk_at "rd"
        rw [List.length_map]
        by_cases hb1 : (ns.length : Int) < i + m
        · rw [if_pos hb1]
          exact ⟨hi, hw, fun _ => q0 (behL_short hm hb1) H (Same.refl _)⟩
        · rw [if_neg hb1]
          obtain ⟨k, rfl⟩ : ∃ k : Nat, i = k := ⟨i.toNat, by omega⟩
          have hM : ((ns.drop k).take m).length = m := by rw [List.length_take, List.length_drop]; omega
          have hns : ns = ns.take k ++ (ns.drop k).take m ++ ns.drop (k + m) := by
            rw [List.append_assoc, ← List.drop_drop, List.take_append_drop, List.take_append_drop]
          have hA : (ns.take k).length = k := by rw [List.length_take]; omega
          have hmid : behL ns word (k : Int) = (behL ((ns.drop k).take m) word 0).map fun ds => ns.take k ++ ds ++ ns.drop (k + m) := by
            have := behL_mid (A := ns.take k) (M := (ns.drop k).take m) (B := ns.drop (k + m)) (word := word) (by rw [hM, hm])
            rw [← hns, hA] at this
            exact this
          have hkm : ((k : Int) + (m : Int)) = ((k + m : Nat) : Int) := by omega
          have c1 : cutV (ns.map V.int) none (some (k : Int)) = (ns.take k).map V.int := by rw [cutV_none, List.map_take]
          have c2 : cutV (ns.map V.int) (some (k : Int)) (some ((k + m : Nat) : Int)) = ((ns.drop k).take m).map V.int := by
            rw [cutV_two _ _ _ (by rw [List.length_map]; omega), List.map_take, List.map_drop]; congr 1; omega
          have c3 : cutV (ns.map V.int) (some ((k + m : Nat) : Int)) none = (ns.drop (k + m)).map V.int := by rw [cutV_from, List.map_drop]
          refine rd_rungs hL rfl fun t2 ht2 => rd_posts hL rfl ?_
          rw [hkm]
          refine slT ht2 fun p1 H1 s1 h1 => slT (s1 _ _ ht2) fun p2 H2 s2 h2 => ?_
          rw [c1] at h1
          rw [c2] at h2
          refine ⟨p2, _, word, rfl, h2, hw, fun r hr => ?_, by rw [hM, hm], fun ds hds p3 H3 s3 h3 => ?_, fun hb H3 s3 => q0 (by rw [hmid, hb]; rfl) H3 ((s1.trans s2).trans s3)⟩
          · have h5 := hok r (List.mem_of_mem_drop (List.mem_of_mem_take hr))
            have h6 := hn.2
            exact ⟨h5.1, by have := h5.2; omega⟩
          · have hdl := (behL_ends hds).2.2
            refine catT (s3 _ _ (s2 _ _ h1)) h3 (by omega) fun p4 H4 s4 h4 => ?_
            have s14 := ((s1.trans s2).trans s3).trans s4
            refine slT (s14 _ _ ht2) fun p5 H5 s5 h5 => ?_
            rw [c3] at h5
            refine catT (s5 _ _ h4) h5 (by rw [List.length_append, List.length_drop]; omega) fun p6 H6 s6 h6 => ?_
            have s16 := (s14.trans s5).trans s6
            have hds' : behL ns word (k : Int) = some (ns.take k ++ ds ++ ns.drop (k + m)) := by rw [hmid, hds]; rfl
            refine rd_ladder rfl (.inr ⟨p6, rfl, .inr h6⟩) hn (fun x hx => hok x ((behL_ends hds').2.1 x hx)) fun p7 H7 hp7 L7 s7 => ?_
            exact q1 _ hds' p7 H7 (s16.trans s7) (s16.free hp7) L7
/-! ### the law -/
def spPut (K : PySem.W.Frag) : Sp := fun vs H Q _ => ∃ (a : Addr) (n c : Int) (ns : List Int), vs = [.ref a, .int n, .int c] ∧ SqL K H a (ns.map V.int) ∧ okN n ∧ (∀ r ∈ ns, okR n r) ∧ ns.length ≤ 100 ∧
  ∀ (ms : List Int) l H', Same H H' → SqL K H' l (ms.map V.int) → (∀ r ∈ ms, okR n r) → ms.length ≤ ns.length + 3 → Q (.ref l) H'
theorem ok__law_put_in (T : TX K mg) : FnOk P w K mg base (CX1 P w) 1 T.f__law_put_in T.fd__law_put_in P__law_put_in (spPut K) := by
  refine T.F__law_put_in.ok sc_law_put_in (fun vs H Q E h => ?_) (fun cdv A outer s H vs Q E hr h => ?_)
  · obtain ⟨a, n, c, ns, rfl, _⟩ := h; rfl
  · obtain ⟨a, n, c, ns, rfl, hS, hn, hok, hlen, q⟩ := h
    have hu64 := u64_of hr
    refine ⟨_, (pss_cons (ps_if (PW.pt (pw_or (pt_cmpR (eq_any (K := K) hu64) (pv 1) pe_int (nomark _)) (pw_or1 (pt_cmpR (eq_any (K := K) hu64) (pe_op op_mod (pv 2) pe_int) pe_int (nomark _))))) (pss_one (ps_ret (pv 0))) pss_nil)
      (pss_cons (ps_set (i := 3) sc_law_put_in.nd rfl (Or.inl rfl) (pe_op op_mod (pe_op op_fdiv (pv 2) pe_int) (pe_op (add_any (K := K)) (pe_callB (len_any (K := K)) rfl T.m_len bb_len (pa_cons (pv 0) pa_nil)) pe_int)))
      (pss_cons (ps_set (i := 4) sc_law_put_in.nd rfl (Or.inl rfl) (pe_op op_mod (pe_op op_fdiv (pv 2) pe_int) (pe_op op_sub (pv 1) pe_int)))
      (pss_cons (ps_set (i := 5) sc_law_put_in.nd rfl (Or.inl rfl) (pe_op op_mod (pe_op (add_any (K := K)) (pe_op (add_any (K := K)) (pv 4) pe_int) (pe_op op_mod (pe_op op_fdiv (pv 2) pe_int) pe_int)) (pe_op op_sub (pv 1) pe_int)))
      (pss_cons (ps_if (pt_cmpR (eq_any (K := K) hu64) (pe_op op_mod (pv 2) pe_int) pe_int (nomark _)) (pss_one (ps_ret (pe_op (add_any (K := K)) (pe_op (add_any (K := K)) (pe_slice (sl_any (K := K)) (pv 0) po_none (po_some (pv 3))) (pe_lst (pa_cons (pv 4) (pa_cons (pv 5) (pa_cons (pv 4) pa_nil))))) (pe_slice (sl_any (K := K)) (pv 0) (po_some (pv 3)) po_none)))) pss_nil)
      (pss_one (ps_ret (pe_op (add_any (K := K)) (pe_op (add_any (K := K)) (pe_slice (sl_any (K := K)) (pv 0) po_none (po_some (pv 3))) (pe_lst (pa_cons (pv 4) (pa_cons (pv 4) pa_nil)))) (pe_slice (sl_any (K := K)) (pv 0) (po_some (pv 3)) po_none))))))))), ?_⟩
    rw [show L2.start N__law_put_in [V.ref a, V.int n, V.int c] = [some (.ref a), some (.int n), some (.int c), none, none, none] from rfl]
    walk_at "rd"
    by_cases h1 : n = 1
    · rw [if_pos h1]
      exact q ns a H (Same.refl _) hS hok (by omega)
    · rw [if_neg h1]
      refine ⟨by decide, ?_⟩
      by_cases h3 : c % 3 = 0
      · rw [if_pos h3]
        exact q ns a H (Same.refl _) hS hok (by omega)
      · rw [if_neg h3]
        have hn1 := hn.1
        have hpos : 0 < n - 1 := by omega
        refine ⟨⟨by decide, by decide⟩, lenL hS ?_⟩
        walk_at "rd"
        rw [List.length_map]
        refine ⟨by omega, ⟨by decide, by decide⟩, hpos, ⟨by decide, by decide⟩, by decide, hpos, by decide, ?_⟩
        have b1 := Int.emod_nonneg (c / 3) (show (ns.length : Int) + 1 ≠ 0 by omega)
        have b2 := Int.emod_lt_of_pos (c / 3) (show (0 : Int) < (ns.length : Int) + 1 by omega)
        generalize c / 3 % ((ns.length : Int) + 1) = at0 at b1 b2 ⊢
        obtain ⟨k, rfl⟩ : ∃ k : Nat, at0 = k := ⟨at0.toNat, by omega⟩
        have ok1 : okR n (c / 300 % (n - 1)) := ⟨Int.emod_nonneg _ (by omega), by have := Int.emod_lt_of_pos (c / 300) hpos; omega⟩
        have ok2 : okR n ((c / 300 % (n - 1) + 1 + c / 30000 % 3) % (n - 1)) := ⟨Int.emod_nonneg _ (by omega), by have := Int.emod_lt_of_pos (c / 300 % (n - 1) + 1 + c / 30000 % 3) hpos; omega⟩
        generalize c / 300 % (n - 1) = x at ok1 ok2 ⊢
        generalize (x + 1 + c / 30000 % 3) % (n - 1) = y at ok2 ⊢
        have c1 : cutV (ns.map V.int) none (some (k : Int)) = (ns.take k).map V.int := by rw [cutV_none, List.map_take]
        have c2 : cutV (ns.map V.int) (some (k : Int)) none = (ns.drop k).map V.int := by rw [cutV_from, List.map_drop]
        have fin : ∀ zs : List Int, (∀ r ∈ zs, okR n r) → zs.length ≤ 3 → ∀ l1, H l1 = none → ∀ l2, upd H l1 (.lst ((ns.take k).map V.int)) l2 = none → rAddA K (.ref l1) (.ref l2) (upd (upd H l1 (.lst ((ns.take k).map V.int))) l2 (.lst (zs.map V.int))) fun x_2 H1 => rSlA K (V.ref a) (some (k : Int)) none H1 fun y H2 => rAddA K x_2 y H2 Q := fun zs hz hzl l1 hl1 l2 hl2 => by
          refine addL (Same.new _ hl2 _ _ upd_same) upd_same (by simp only [List.length_map, List.length_take]; omega) fun l3 hl3 => ?_
          have s3 := ((Same.new (.lst ((ns.take k).map V.int)) hl1).trans (Same.new (.lst (zs.map V.int)) hl2)).trans (Same.new (.lst ((ns.take k).map V.int ++ zs.map V.int)) hl3)
          refine slE (s3.seq hS) c2 fun l4 hl4 => ?_
          refine addL (Same.new _ hl4 _ _ upd_same) upd_same (by simp only [List.length_append, List.length_map, List.length_take, List.length_drop]; omega) fun l5 hl5 => ?_
          refine q (ns.take k ++ zs ++ ns.drop k) l5 _ ((s3.trans (Same.new _ hl4)).trans (Same.new _ hl5)) (SqL.of (by rw [upd_same, List.map_append, List.map_append])) (fun r hr => ?_) (by simp only [List.length_append, List.length_take, List.length_drop]; omega)
          rcases List.mem_append.mp hr with hr | hr
          · rcases List.mem_append.mp hr with hr | hr
            · exact hok r (List.mem_of_mem_take hr)
            · exact hz r hr
          · exact hok r (List.mem_of_mem_drop hr)
        by_cases h4 : c % 3 = 1
        · rw [if_pos h4]
          refine slE hS c1 fun l1 hl1 => ⟨by decide, fun l2 hl2 => ?_⟩
          exact fin [x, y, x] (by intro r hr; simp only [List.mem_cons, List.not_mem_nil, or_false] at hr; rcases hr with rfl | rfl | rfl <;> assumption) (by simp) l1 hl1 l2 hl2
        · rw [if_neg h4]
          refine slE hS c1 fun l1 hl1 => ⟨by decide, fun l2 hl2 => ?_⟩
          exact fin [x, x] (by intro r hr; simp only [List.mem_cons, List.not_mem_nil, or_false] at hr; rcases hr with rfl | rfl <;> assumption) (by simp) l1 hl1 l2 hl2
/-- the places that fit, so far -/
def fitI (H : Hp) (D : Addr) (i : Nat) (H2 : Hp) : Prop := Same H H2 ∧ ∃ zs : List Int, H2 D = some (.lst (zs.map V.int)) ∧ zs.length ≤ i ∧ ∀ z ∈ zs, 0 ≤ z ∧ z ≤ 5000
/-- what is asked of a comprehension over a range, its walk not opened -/
def CompRng (tc : TT) (te : TE) (σ : St) (Q : VK) (lo : Int) (n : Nat) (H1 : Hp) : Prop := ∀ D, H1 D = none → ∃ W : Nat → Nat → Hp → Prop, (∃ m, W 0 m (upd H1 D (.lst []))) ∧ ∀ i m H2, W i m H2 →
      ((Itr lo n).stop i H2 ∧ Q (.ref D) H2) ∨ ((Itr lo n).go i H2 ∧ ∃ N : Hp → Prop, (∀ H', N H' → ∃ m', m' < m ∧ W (i + 1) m' H') ∧ ∀ y H3, (Itr lo n).yld i H2 y H3 →
        tc (some y :: σ) H3 fun b H4 => if b = true then te (some y :: σ) H4 fun z H5 => ∃ zs, H5 D = some (.lst zs) ∧ zs.length < sizeLine ∧ N (upd H5 D (.lst (zs ++ [z]))) else N H4)
theorem compRng_of {tc : TT} {te : TE} {σ : St} {Q : VK} {lo : Int} {n : Nat} {H1 : Hp} (Pz : Addr → Nat → Hp → Prop) (h0 : ∀ D, H1 D = none → Pz D 0 (upd H1 D (.lst [])))
    (hs : ∀ D, H1 D = none → ∀ i H, i < n → Pz D i H → tc (some (.int (lo + i)) :: σ) H fun b H4 => if b = true then te (some (.int (lo + i)) :: σ) H4 fun z H5 => ∃ zs', H5 D = some (.lst zs') ∧ zs'.length < sizeLine ∧ Pz D (i + 1) (upd H5 D (.lst (zs' ++ [z]))) else Pz D (i + 1) H4)
    (hd : ∀ D, H1 D = none → ∀ H, Pz D n H → Q (.ref D) H) : CompRng tc te σ Q lo n H1 := fun D hD => comp_rangeG (Pz D) (h0 D hD) (hs D hD) (hd D hD)
theorem rd_comp2 {ta : TA} {tc : TT} {te : TE} {σ : St} {H : Hp} {Q : VK} (h : ta σ H fun vs H1 => ∃ i j : Int, vs = [.int i, .int j] ∧ (-(2 ^ 62) ≤ i ∧ i < 2 ^ 62 ∧ -(2 ^ 62) ≤ j ∧ j < 2 ^ 62) ∧ CompRng tc te σ Q i (j - i).toNat H1) : tComp (iRng2 ta) tc te σ H Q := h
def spAt (K : PySem.W.Frag) : Sp := fun vs H Q _ => ∃ (a : Addr) (rs : List Int) (word : Str) (c f : Int), vs = [.ref a, .str word, .int c, .int f] ∧ SqL K H a (rs.map V.int) ∧ rs.length ≤ 1000 ∧ 0 ≤ f ∧ f < 10 ^ 60 ∧
  ∀ (i : Int) H', Same H H' → i.natAbs.log2 < 1920 → Q (.int i) H'
theorem ok__law_at_by (T : TX K mg) : FnOk P w K mg base (CX1 P w) 2 T.f__law_at_by T.fd__law_at_by P__law_at_by (spAt K) := by
  have G__law_behind := ok__law_behind (P := P) (w := w) (base := base) T
  refine T.F__law_at_by.ok sc_law_at_by (fun vs H Q E h => ?_) (fun cdv A outer s H vs Q E hr h => ?_)
  · obtain ⟨a, rs, word, c, f, rfl, _⟩ := h; rfl
  · obtain ⟨a, rs, word, c, f, rfl, hS, hlen, hf0, hf1, q⟩ := h
    have hu64 := u64_of hr
    refine ⟨_, (pss_cons (ps_set (i := 4) sc_law_at_by.nd rfl (Or.inl rfl) (pe_op op_sub (pe_op op_mod (pe_op op_fdiv (pv 2) pe_int) (pe_op (add_any (K := K)) (pe_callB (len_any (K := K)) rfl T.m_len bb_len (pa_cons (pv 0) pa_nil)) pe_int)) pe_int))
      (pss_cons (ps_if (pt_cmpR (eq_any (K := K) hu64) (pe_op op_mod (pv 2) pe_int) pe_int (nomark _)) (pss_cons (ps_setComp (i := 5) rfl (CompSc.of sc_law_at_by.nd rfl) rfl rfl (pi_range2 rfl T.m_range (pa_cons (pe_callB (call_max2 rfl) rfl T.m_max bb_max (pa_cons (pv 4) (pa_cons pe_int pa_nil))) (pa_cons (pe_callB (len_any (K := K)) rfl T.m_len bb_len (pa_cons (pv 0) pa_nil)) pa_nil))) (fun _ _ _ => (ifs_one (pt_cmp (pc_notN (pe_call G__law_behind (hr.mono (by decide)) rfl T.m__law_behind T.k__law_behind T.b__law_behind .nil passE0 (pa_cons (pv 1) (pa_cons (pv 2) (pa_cons (pv 0) pa_nil)))))))) (fun _ _ _ => (pv 0)))
      (pss_one (ps_if (pt_cmpR (ne_any (K := K) hu64) (pv 5) (pe_lst pa_nil) (nomark _)) (pss_one (ps_ret (pe_ix (ix_any (K := K)) (pv 5) pe_int (fun _ _ => rfl)))) pss_nil))) pss_nil)
      (pss_cons (ps_if (pt_cmpR (eq_any (K := K) hu64) (pe_op op_mod (pe_op op_fdiv (pv 2) pe_int) pe_int) pe_int (nomark _)) (pss_one (ps_ret (pe_ix (ix_any (K := K)) (pe_lst (pa_cons (pv 3) (pa_cons (pe_op op_sub (pe_un un_neg pe_int) (pv 3)) pa_nil))) (pe_op op_mod (pe_op op_fdiv (pv 2) pe_int) pe_int) (fun _ _ => rfl)))) pss_nil)
      (pss_one (ps_ret (pv 4)))))), ?_⟩
    rw [show L2.start N__law_at_by [V.ref a, V.str word, V.int c, V.int f] = [some (.ref a), some (.str word), some (.int c), some (.int f), none, none] from rfl]
    walk_at "rd"
    refine ⟨⟨by decide, by decide⟩, lenL hS ?_⟩
    walk_at "rd"
    rw [List.length_map]
    refine ⟨by omega, by decide, ?_⟩
    have b1 := Int.emod_nonneg (c / 2) (show (rs.length : Int) + 5 ≠ 0 by omega)
    have b2 := Int.emod_lt_of_pos (c / 2) (show (0 : Int) < (rs.length : Int) + 5 by omega)
    obtain ⟨at0, ha0⟩ : ∃ at0, at0 = c / 2 % ((rs.length : Int) + 5) - 2 := ⟨_, rfl⟩
    have ba : -10 ≤ at0 ∧ at0 ≤ 2000 := by omega
    rw [← ha0]
    clear ha0 b1 b2
    have tailG : ∀ H2, Same H H2 → (CDiv c 2 ∧ (0 : Int) < 11 ∧ if c / 2 % 11 = 5 then 0 + 1 + 1 ≤ sizeLine ∧ ∀ (p : Addr), H2 p = none → CDiv c 22 ∧ (0 : Int) < 2 ∧ rIx K (V.ref p) (V.int (c / 22 % 2)) (upd H2 p (HO.lst [V.int f, V.int (-1 - f)])) Q else Q (V.int at0) H2) := fun H2 s2 => by
      refine ⟨⟨by decide, by decide⟩, by decide, ?_⟩
      by_cases h5 : c / 2 % 11 = 5
      · rw [if_pos h5]
        refine ⟨by decide, fun l hl => ⟨⟨by decide, by decide⟩, by decide, ?_⟩⟩
        have h2 : c / 22 % 2 = ((0 : Nat) : Int) ∨ c / 22 % 2 = ((1 : Nat) : Int) := by omega
        rcases h2 with h | h <;> rw [h]
        · exact ixL (SqL.of upd_same) rfl (q f _ (s2.trans (Same.new _ hl)) (log_big (by omega) (by omega)))
        · exact ixL (SqL.of upd_same) rfl (q (-1 - f) _ (s2.trans (Same.new _ hl)) (log_big (by omega) (by omega)))
      · rw [if_neg h5]
        exact q at0 H2 s2 (log_big (by omega) (by omega))
    by_cases h2 : c % 2 = 1
    · rw [if_pos h2]
      refine rd_comp2 ?_
      walk_at "rd"
      refine ⟨at0, 0, ⟨rfl, rfl⟩, lenL hS ?_⟩
      obtain ⟨lo, hlo⟩ : ∃ lo : Int, lo = (if (0 : Int) > at0 then 0 else at0) := ⟨_, rfl⟩
      have hlo2 : 0 ≤ lo ∧ lo ≤ 2000 := by rw [hlo]; split <;> omega
      rw [← hlo, List.length_map]
      refine ⟨lo, rs.length, ⟨rfl, rfl⟩, ⟨by omega, by omega, by omega, by omega⟩, compRng_of (fun D => fitI H D) (fun D hD => ?_) (fun D hD => ?_) (fun D hD => ?_)⟩
      · exact ⟨Same.new _ hD, [], upd_same, Nat.le_refl _, fun z hz => (List.not_mem_nil hz).elim⟩
      · rintro i H2 hi ⟨s2, zs, hz, hzl, hzb⟩
        walk_at "rd"
        refine ⟨a, rs, word, _, rfl, s2.seq hS, hlen, fun _ H3 s3 => ?_, fun ds _ l H3 s3 _ _ => ?_⟩
        · walk_at "rd"
          rw [if_neg (by simp)]
          exact ⟨s2.trans s3, zs, s3 _ _ hz, by omega, hzb⟩
        · dsimp only
          rw [if_pos (by intro z; cases z)]
          refine ⟨_, s3 _ _ hz, by have : (sizeLine : Nat) = 16777216 := rfl; rw [List.length_map]; omega, ?_⟩
          refine ⟨fun b u e => ?_, zs ++ [lo + i], by rw [upd_same]; simp, by simp; omega, fun z hz => ?_⟩
          · rw [upd_ne (ne_of_none e hD)]; exact (s2.trans s3) b u e
          · rcases List.mem_append.mp hz with hz | hz
            · exact hzb z hz
            · rw [List.mem_singleton.mp hz]; omega
      · rintro H2 ⟨s2, zs, hz, hzl, hzb⟩
        refine ⟨by decide, fun p hp => ?_⟩
        have s3 := s2.trans (Same.new (.lst []) hp)
        have hz3 : SqL K (upd H2 p (.lst [])) D (zs.map V.int) := SqL.of (Same.new _ hp _ _ hz)
        refine eqInts (ms := []) hz3 (SqL.of upd_same) ?_
        walk_at "rd"
        by_cases hne : zs = []
        · rw [if_neg (by simp [hne])]
          exact tailG _ s3
        · rw [if_pos (by simp [hne])]
          cases zs with
          | nil => exact absurd rfl hne
          | cons z zs =>
            have := hzb z List.mem_cons_self
            exact ixL (i := 0) hz3 rfl (q z _ s3 (log_big (by omega) (by omega)))
    · rw [if_neg h2]
      exact tailG H (Same.refl _)
def spRefS (K : PySem.W.Frag) (C : Addr) : Sp := fun vs H Q _ => ∃ (p s : Addr) (n : Int) (ns : List Int) (word : Str) (i : Int), vs = [.ref p, .ref s] ∧ LadderAt K C H p n ns ∧ H s = some (.tup [.str word, .int i]) ∧ okN n ∧ (∀ r ∈ ns, okR n r) ∧ ns.length ≤ 1000 ∧ (reprText word).length ≤ 2000 ∧ i.natAbs.log2 < 1920 ∧
  behL ns word i = none ∧ ∀ H', Same H H' → Q (.bl true) H'
theorem ok__law_refused (T : TX K mg) : FnOk P w K mg base (CX1 P w) 6 T.f__law_refused T.fd__law_refused P__law_refused (spRefS K T.a_Ladder) := by
  have G_done := ok_done (P := P) (w := w) (base := base) T
  refine T.F__law_refused.ok sc_law_refused (fun vs H Q E h => ?_) (fun cdv A outer s H vs Q E hr h => ?_)
  · obtain ⟨p, s, n, ns, word, i, rfl, _⟩ := h; rfl
  · obtain ⟨p, s, n, ns, word, i, rfl, hL, hS, hn, hok, hlen, hw, hi, hb, q⟩ := h
    have hu64 := u64_of hr
    refine ⟨_, (pss_cons (ps_tryAs (i := 2) ⟨rfl, rfl⟩ (fun pn W E' hp => (pss_one (ps_expr (pe_call G_done (hr.mono (by decide)) rfl T.m_done T.k_done T.b_done .nil hp (pa_cons (pv 0) (pa_cons (pv 1) pa_nil)))))) rfl T.m_LotError T.c_LotError (fun pn e' => (pss_cons (ps_set (i := 3) sc_law_refused.nd rfl (Or.inl rfl) (pe_lst (pa_cons (pe_callB (isi_any (K := K)) rfl T.m_isinstance bb_isinstance (pa_cons (pv 2) (pa_cons (pe_bltn (v := .ty "ValueError") rfl T.m_ValueError bt_ValueError rfl) pa_nil))) (pa_cons (pe_callB (isi_any (K := K)) rfl T.m_isinstance bb_isinstance (pa_cons (pv 2) (pa_cons (pe_glob (v := .ref T.a_NoPost) rfl T.m_NoPost rfl) pa_nil))) (pa_cons (pe_callB (isi_any (K := K)) rfl T.m_isinstance bb_isinstance (pa_cons (pv 2) (pa_cons (pe_glob (v := .ref T.a_NoRung) rfl T.m_NoRung rfl) pa_nil))) pa_nil)))))
      (pss_cons (ps_set (i := 3) sc_law_refused.nd rfl (Or.inl rfl) (pe_op (add_any (K := K)) (pv 3) (pe_lst (pa_cons (pe_callB (isi_any (K := K)) rfl T.m_isinstance bb_isinstance (pa_cons (pv 2) (pa_cons (pe_glob (v := .ref T.a_Unlike) rfl T.m_Unlike rfl) pa_nil))) (pa_cons (pe_callB (isi_any (K := K)) rfl T.m_isinstance bb_isinstance (pa_cons (pv 2) (pa_cons (pe_glob (v := .ref T.a_NoOutcome) rfl T.m_NoOutcome rfl) pa_nil))) (pa_cons (pe_callB (isi_any (K := K)) rfl T.m_isinstance bb_isinstance (pa_cons (pv 2) (pa_cons (pe_glob (v := .ref T.a_NoStep) rfl T.m_NoStep rfl) pa_nil))) pa_nil))))))
      (pss_one (ps_ret (pe_cmpR (eq_any (K := K) hu64) (pv 3) (pe_lst (pa_cons pe_bl (pa_cons pe_bl (pa_cons pe_bl (pa_cons pe_bl (pa_cons pe_bl (pa_cons pe_bl pa_nil))))))) (nomark _))))))) sc_law_refused.nd rfl rfl)
      (pss_one (ps_ret pe_bl))), ?_⟩
    rw [show L2.start N__law_refused [V.ref p, V.ref s] = [some (.ref p), some (.ref s), none, none] from rfl]
    have kept : ∀ (H1 : Hp) (l : Addr) (o u : HO) (b : Addr), H1 b = some u → H1 l = none → upd H1 l o b = some u := fun H1 l o u b e hl => Same.new o hl _ _ e
    walk_at "rd"
    refine ⟨fun Cv od H' => Same H H' ∧ Cv = .ref T.a_NoStep, ?_, ?_⟩
    · walk_at "rd"
      exact ⟨p, s, n, ns, word, i, rfl, hL, hS, hn, hok, hlen, hw, hi, fun ds hds => absurd hds (by rw [hb]; simp), fun _ H' s1 => ⟨s1, rfl⟩⟩
    · rintro Cv od H' ⟨sm, rfl⟩
      refine ⟨_, rfl, T.z_NoStep_LotError, fun e he => ?_⟩
      change tSeq _ _ _ [none, none, some (V.ref e), none] _
      walk_at "rd"
      have h0 : upd H' e (excO e T.a_NoStep) e = some (excO e T.a_NoStep) := upd_same
      refine isi (.exc h0 T.y_NoStep) rfl T.q_NoStep_ValueError ?_
      refine isi (.exc h0 T.y_NoStep) rfl T.q_NoStep_NoPost ?_
      refine isi (.exc h0 T.y_NoStep) rfl T.q_NoStep_NoRung ?_
      walk_at "rd"
      refine ⟨by decide, fun l1 hl1 => ?_⟩
      have h1 := kept _ l1 (.lst [V.bl true, V.bl false, V.bl false]) _ _ h0 hl1
      refine isi (.exc h1 T.y_NoStep) rfl T.q_NoStep_Unlike ?_
      refine isi (.exc h1 T.y_NoStep) rfl T.q_NoStep_NoOutcome ?_
      refine isi (.exc h1 T.y_NoStep) rfl T.q_NoStep_NoStep ?_
      walk_at "rd"
      refine ⟨by decide, fun l2 hl2 => addL (kept _ l2 _ _ _ upd_same hl2) upd_same (by decide) fun p hp => ?_⟩
      have s4 := ((sm.trans (Same.new _ he)).trans (Same.new _ hl1)).trans (Same.new (.lst [V.bl false, V.bl false, V.bl true]) hl2)
      walk_at "rd"
      refine ⟨by decide, fun l3 hl3 => eqBls (bs := [true, false, false, false, false, true]) (kept _ l3 _ _ _ upd_same hl3) upd_same (by decide) (by decide) (by decide) ?_⟩
      exact q _ ((s4.trans (Same.new _ hp)).trans (Same.new _ hl3))
theorem pow_ok : CPow 10 60 := ⟨by decide, by decide, by decide⟩
theorem word_a (c : Int) : ∃ (k : Nat) (word : Str), c % 3 = k ∧ ([V.str "apart", V.str "turn", V.str "out"] : List V)[k]? = some (.str word) ∧ (reprText word).length ≤ 2000 := by
  have h : c % 3 = ((0 : Nat) : Int) ∨ c % 3 = ((1 : Nat) : Int) ∨ c % 3 = ((2 : Nat) : Int) := by omega
  rcases h with h | h | h
  · exact ⟨0, _, h, rfl, by decide +kernel⟩
  · exact ⟨1, _, h, rfl, by decide +kernel⟩
  · exact ⟨2, _, h, rfl, by decide +kernel⟩
theorem word_b (c : Int) : ∃ (k : Nat) (word : Str), c / 18 % 6 = k ∧ ([V.str "", V.str "Apart", V.str "turn ", V.str "in", V.str "turned", V.str "ou"] : List V)[k]? = some (.str word) ∧ (reprText word).length ≤ 2000 := by
  have h : c / 18 % 6 = ((0 : Nat) : Int) ∨ c / 18 % 6 = ((1 : Nat) : Int) ∨ c / 18 % 6 = ((2 : Nat) : Int) ∨ c / 18 % 6 = ((3 : Nat) : Int) ∨ c / 18 % 6 = ((4 : Nat) : Int) ∨ c / 18 % 6 = ((5 : Nat) : Int) := by omega
  rcases h with h | h | h | h | h | h
  · exact ⟨0, _, h, rfl, by decide +kernel⟩
  · exact ⟨1, _, h, rfl, by decide +kernel⟩
  · exact ⟨2, _, h, rfl, by decide +kernel⟩
  · exact ⟨3, _, h, rfl, by decide +kernel⟩
  · exact ⟨4, _, h, rfl, by decide +kernel⟩
  · exact ⟨5, _, h, rfl, by decide +kernel⟩
theorem ok_law (T : TX K mg) : FnOk P w K mg base (CX1 P w) 8 T.f_law T.fd_law P_law (spLaw K) := by
  have G_Ladder_init := ok_Ladder_init (P := P) (w := w) (base := base) T
  have G_Ladder_ends := ok_Ladder_ends (P := P) (w := w) (base := base) T
  have G_done := ok_done (P := P) (w := w) (base := base) T
  have G__law_cell_at := ok__law_cell_at (P := P) (w := w) (base := base) T
  have G__law_posts_by := ok__law_posts_by (P := P) (w := w) (base := base) T
  have G__law_rungs_by := ok__law_rungs_by (P := P) (w := w) (base := base) T
  have G__law_put_in := ok__law_put_in (P := P) (w := w) (base := base) T
  have G__law_at_by := ok__law_at_by (P := P) (w := w) (base := base) T
  have G__law_behind := ok__law_behind (P := P) (w := w) (base := base) T
  have G__law_is := ok__law_is (P := P) (w := w) (base := base) T
  have G__law_refused := ok__law_refused (P := P) (w := w) (base := base) T
  refine T.F_law.ok sc_law (fun vs H Q E h => ?_) (fun cdv A outer s H vs Q E hr h => ?_)
  · obtain ⟨a, ns, rfl, _⟩ := h; rfl
  · obtain ⟨a, ns, rfl, hS, hlen, q⟩ := h
    have hu64 := u64_of hr
    refine ⟨_, (pss_cons (ps_set (i := 1) sc_law.nd rfl (Or.inl rfl) (pe_call G__law_posts_by (hr.mono (by decide)) rfl T.m__law_posts_by T.k__law_posts_by T.b__law_posts_by .nil passE0 (pa_cons (pe_call G__law_cell_at (hr.mono (by decide)) rfl T.m__law_cell_at T.k__law_cell_at T.b__law_cell_at .nil passE0 (pa_cons (pv 0) (pa_cons pe_int pa_nil))) pa_nil)))
      (pss_cons (ps_set (i := 2) sc_law.nd rfl (Or.inl rfl) (pe_call G__law_rungs_by (hr.mono (by decide)) rfl T.m__law_rungs_by T.k__law_rungs_by T.b__law_rungs_by .nil passE0 (pa_cons (pe_slice (sl_any (K := K)) (pv 0) (po_some pe_int) (po_some pe_int)) (pa_cons (pv 1) (pa_cons (pe_call G__law_cell_at (hr.mono (by decide)) rfl T.m__law_cell_at T.k__law_cell_at T.b__law_cell_at .nil passE0 (pa_cons (pv 0) (pa_cons pe_int pa_nil))) pa_nil)))))
      (pss_cons (ps_set (i := 2) sc_law.nd rfl (Or.inl rfl) (pe_call G__law_put_in (hr.mono (by decide)) rfl T.m__law_put_in T.k__law_put_in T.b__law_put_in .nil passE0 (pa_cons (pv 2) (pa_cons (pv 1) (pa_cons (pe_call G__law_cell_at (hr.mono (by decide)) rfl T.m__law_cell_at T.k__law_cell_at T.b__law_cell_at .nil passE0 (pa_cons (pv 0) (pa_cons pe_int pa_nil))) pa_nil)))))
      (pss_cons (ps_set (i := 3) sc_law.nd rfl (Or.inl rfl) (pe_make T.mk_Ladder G_Ladder_init (hr.mono (by decide)) rfl T.m_Ladder T.b_Ladder_init .nil passE0 (pa_cons (pv 1) (pa_cons (pe_callTy (list_any (K := K)) rfl T.m_list bt_list (pa_cons (pv 2) pa_nil)) pa_nil))))
      (pss_cons (ps_set (i := 4) sc_law.nd rfl (Or.inl rfl) (pe_call G__law_cell_at (hr.mono (by decide)) rfl T.m__law_cell_at T.k__law_cell_at T.b__law_cell_at .nil passE0 (pa_cons (pv 0) (pa_cons pe_int pa_nil))))
      (pss_cons (ps_set (i := 5) sc_law.nd rfl (Or.inl rfl) (pe_ix (ix_any (K := K)) (pe_lst (pa_cons pe_str (pa_cons pe_str (pa_cons pe_str pa_nil)))) (pe_op op_mod (pv 4) pe_int) (fun _ _ => rfl)))
      (pss_cons (ps_if (pt_cmpR (eq_any (K := K) hu64) (pe_op op_mod (pe_op op_fdiv (pv 4) pe_int) pe_int) pe_int (nomark _)) (pss_one (ps_set (i := 5) sc_law.nd rfl (Or.inl rfl) (pe_ix (ix_any (K := K)) (pe_lst (pa_cons pe_str (pa_cons pe_str (pa_cons pe_str (pa_cons pe_str (pa_cons pe_str (pa_cons pe_str pa_nil))))))) (pe_op op_mod (pe_op op_fdiv (pv 4) pe_int) pe_int) (fun _ _ => rfl)))) pss_nil)
      (pss_cons (ps_set (i := 6) sc_law.nd rfl (Or.inl rfl) (pe_call G__law_at_by (hr.mono (by decide)) rfl T.m__law_at_by T.k__law_at_by T.b__law_at_by .nil passE0 (pa_cons (pv 2) (pa_cons (pv 5) (pa_cons (pe_call G__law_cell_at (hr.mono (by decide)) rfl T.m__law_cell_at T.k__law_cell_at T.b__law_cell_at .nil passE0 (pa_cons (pv 0) (pa_cons pe_int pa_nil))) (pa_cons (pe_op op_mod (pe_op op_fdiv (pv 4) pe_int) (pe_op op_pow pe_int pe_int)) pa_nil))))))
      (pss_cons (ps_set (i := 7) sc_law.nd rfl (Or.inl rfl) (pe_call G__law_behind (hr.mono (by decide)) rfl T.m__law_behind T.k__law_behind T.b__law_behind .nil passE0 (pa_cons (pv 2) (pa_cons (pv 5) (pa_cons (pv 6) pa_nil)))))
      (pss_cons (ps_if (pt_cmp (pc_isN (pv 7))) (pss_one (ps_ret (pe_and (pe_call G__law_refused (hr.mono (by decide)) rfl T.m__law_refused T.k__law_refused T.b__law_refused .nil passE0 (pa_cons (pv 3) (pa_cons (pe_tup (pa_cons (pv 5) (pa_cons (pv 6) pa_nil))) pa_nil))) (pe_one (pe_call G__law_is (hr.mono (by decide)) rfl T.m__law_is T.k__law_is T.b__law_is .nil passE0 (pa_cons (pv 3) (pa_cons (pv 1) (pa_cons (pv 2) pa_nil)))))))) pss_nil)
      (pss_cons (ps_set (i := 8) sc_law.nd rfl (Or.inl rfl) (pe_call G_done (hr.mono (by decide)) rfl T.m_done T.k_done T.b_done .nil passE0 (pa_cons (pv 3) (pa_cons (pe_tup (pa_cons (pv 5) (pa_cons (pv 6) pa_nil))) pa_nil))))
      (pss_cons (ps_if (PW.pt (pw_or (pt_not (pt_val (pe_call G__law_is (hr.mono (by decide)) rfl T.m__law_is T.k__law_is T.b__law_is .nil passE0 (pa_cons (pv 8) (pa_cons (pv 1) (pa_cons (pv 7) pa_nil)))))) (pw_or1 (pt_not (pt_val (pe_call G__law_is (hr.mono (by decide)) rfl T.m__law_is T.k__law_is T.b__law_is .nil passE0 (pa_cons (pv 3) (pa_cons (pv 1) (pa_cons (pv 2) pa_nil))))))))) (pss_one (ps_ret pe_bl)) pss_nil)
      (pss_one (ps_ret (pe_and (pe_cmpR (eq_any (K := K) hu64) (pe_meth0 (pv 8) T.cl_Ladder T.mt_Ladder_ends G_Ladder_ends (hr.mono (by decide)) T.b_Ladder_ends .nil passE0) (pe_meth0 (pv 3) T.cl_Ladder T.mt_Ladder_ends G_Ladder_ends (hr.mono (by decide)) T.b_Ladder_ends .nil passE0) (nomark _)) (pe_one (pe_call G__law_is (hr.mono (by decide)) rfl T.m__law_is T.k__law_is T.b__law_is .nil passE0 (pa_cons (pe_call G_done (hr.mono (by decide)) rfl T.m_done T.k_done T.b_done .nil passE0 (pa_cons (pv 3) (pa_cons (pe_tup (pa_cons (pv 5) (pa_cons (pv 6) pa_nil))) pa_nil))) (pa_cons (pv 1) (pa_cons (pv 7) pa_nil)))))))))))))))))))), ?_⟩
    rw [show L2.start N_law [V.ref a] = [some (.ref a), none, none, none, none, none, none, none, none] from rfl]
    walk_at "rd"
    refine ⟨a, ns, 0, rfl, hS, ⟨_, rfl, fun n H1 hn s1 => ?_⟩⟩
    walk_at "rd"
    refine slL (xs := ns.map V.int) (by walk_at "kp") fun l1 hl1 => ?_
    obtain ⟨cs, hcs, hcl, _⟩ := cut_ints ns (some 5) (some 105)
    rw [hcs]
    walk_at "rd"
    refine ⟨a, ns, 1, rfl, by walk_at "kp", ?_⟩
    walk_at "rd"
    refine ⟨l1, cs, n, _, rfl, by walk_at "kp", by omega, hn, fun rs lr hrl hok hlr => ?_⟩
    walk_at "rd"
    refine ⟨a, ns, 2, rfl, by walk_at "kp", ?_⟩
    walk_at "rd"
    refine ⟨lr, n, _, rs, rfl, by walk_at "kp", hn, hok, by omega, fun ms lm H2 s2 hm hokm hml => ?_⟩
    walk_at "rd"
    refine ⟨lm, ms.map V.int, rfl, .inl hm, fun lh hlh => ?_⟩
    refine rd_ladder rfl (.inr ⟨lh, rfl, .inl (SqL.of upd_same)⟩) hn hokm fun p H4 hp L s4 => ?_
    have hS4 : SqL K H4 a (ns.map V.int) := by walk_at "kp"
    have hm4 : SqL K H4 lm (ms.map V.int) := by walk_at "kp"
    have hml2 : ms.length ≤ 70 := by omega
    clear s1 s2 s4 hl1 hlr hlh hS hm
    refine ⟨a, ns, 3, rfl, hS4, ?_⟩
    walk_at "rd"
    refine ⟨by decide, fun lw hlw => ⟨by decide, ?_⟩⟩
    generalize cellAt ns 3 = c
    obtain ⟨k, word, hk, hwd, hrep⟩ := word_a c
    rw [hk]
    refine ixL (SqL.of upd_same) hwd ?_
    walk_at "rd"
    refine ⟨⟨by decide, by decide⟩, by decide, ?_⟩
    by_cases h5 : c / 3 % 6 = 5
    case' pos =>
      rw [if_pos h5]
      obtain ⟨k2, word, hk2, hwd2, hrep⟩ := word_b c
      refine ⟨by decide, fun lv hlv => ⟨⟨by decide, by decide⟩, by decide, ?_⟩⟩
      rw [hk2]
      refine ixL (SqL.of upd_same) hwd2 ?_
      have s5 := (Same.new (.lst [V.str "apart", V.str "turn", V.str "out"]) hlw).trans (Same.new (.lst [V.str "", V.str "Apart", V.str "turn ", V.str "in", V.str "turned", V.str "ou"]) hlv)
      generalize upd (upd H4 lw (.lst [V.str "apart", V.str "turn", V.str "out"])) lv (.lst [V.str "", V.str "Apart", V.str "turn ", V.str "in", V.str "turned", V.str "ou"]) = H5 at s5 ⊢
      clear hlv hlw
    case' neg =>
      rw [if_neg h5]
      have s5 := Same.new (.lst [V.str "apart", V.str "turn", V.str "out"]) hlw
      generalize upd H4 lw (.lst [V.str "apart", V.str "turn", V.str "out"]) = H5 at s5 ⊢
      clear hlw
    all_goals
      have hS5 := s5.seq hS4
      have hm5 := s5.seq hm4
      have L5 := L.same s5
      clear hS4 hm4 L s5 hp
      refine ⟨a, ns, 4, rfl, hS5, ⟨by decide, by decide⟩, pow_ok, by decide, ?_⟩
      refine ⟨lm, ms, word, _, _, rfl, hm5, by omega, Int.emod_nonneg _ (by decide), Int.emod_lt_of_pos _ (by decide), fun i H6 s6 hi => ?_⟩
      have hm6 := s6.seq hm5
      have L6 := L5.same s6
      refine ⟨lm, ms, word, i, rfl, hm6, by omega, fun hb H7 s7 => ?_, fun ds hds ld H7 s7 _ hd7 => ?_⟩
      · dsimp only
        rw [if_pos rfl]
        refine ⟨by decide, fun t ht => ?_⟩
        have s8 := s7.trans (Same.new (.tup [V.str word, V.int i]) ht)
        refine ⟨p, t, n, ms, word, i, rfl, L6.same s8, upd_same, hn, hokm, by omega, hrep, hi, hb, fun H9 s9 => ?_⟩
        walk_at "rd"
        exact ⟨p, lm, n, ms, rfl, (L6.same s8).same s9, (s8.trans s9).seq hm6, by omega, q _⟩
      · dsimp only
        rw [if_neg (by intro z; cases z)]
        have hde := behL_ends hds
        have hokd : ∀ x ∈ ds, okR n x := fun x hx => hokm x (hde.2.1 x hx)
        refine ⟨by decide, fun t ht => ?_⟩
        have s8 := s7.trans (Same.new (.tup [V.str word, V.int i]) ht)
        have hd8 : upd H7 t (.tup [V.str word, V.int i]) ld = some (.lst (ds.map V.int)) := Same.new _ ht _ _ hd7
        refine ⟨p, t, n, ms, word, i, rfl, L6.same s8, upd_same, hn, hokm, by omega, hrep, hi, fun ds' hds' pd H9 s9 _ Ld => ?_, fun hb => absurd hds (by rw [hb]; simp)⟩
        rw [hds] at hds'
        cases hds'
        have L9 := (L6.same s8).same s9
        have hm9 := (s8.trans s9).seq hm6
        have hd9 := s9 _ _ hd8
        refine ⟨pd, ld, n, ds, rfl, Ld, SqL.of hd9, by omega, ?_⟩
        walk_at "rd"
        refine ⟨p, lm, n, ms, rfl, L9, hm9, by omega, ?_⟩
        walk_at "rd"
        refine rd_meth Ld rfl (by decide +kernel) (by decide +kernel) ?_
        walk_at "rd"
        refine ⟨pd, n, ds, rfl, Ld, hn, hokd, fun e1 HA sA _ hA => ?_⟩
        refine rd_meth (L9.same sA) rfl (by decide +kernel) (by decide +kernel) ?_
        walk_at "rd"
        refine ⟨p, n, ms, rfl, L9.same sA, hn, hokm, fun e2 HB sB _ hB => ?_⟩
        have ee : endsL n ds = endsL n ms := List.map_congr_left fun k _ => hde.1 k
        refine eqInts (SqL.of (sB _ _ hA)) (SqL.of hB) ?_
        rw [decide_eq_true ee]
        walk_at "rd"
        refine ⟨by decide, fun t2 ht2 => ?_⟩
        have sC := (sA.trans sB).trans (Same.new (.tup [V.str word, V.int i]) ht2)
        refine ⟨p, t2, n, ms, word, i, rfl, L9.same sC, upd_same, hn, hokm, by omega, hrep, hi, fun ds' hds' pe HE sE _ Le => ?_, fun hb => absurd hds (by rw [hb]; simp)⟩
        rw [hds] at hds'
        cases hds'
        exact ⟨pe, ld, n, ds, rfl, Le, SqL.of (sE _ _ (sC _ _ hd9)), by omega, q _⟩
end
/-! ### the facts, as the written part gives them -/
theorem all_mk {l : PySem.W.OpenLaw} {w : World} {K : PySem.W.Frag} {h : Heap} {mg : Str → Option Value} {fa : Addr} (X : K.In h) (G : h.Ns mainGlobals mg) (hfa : mg "law" = some (.ref fa))
    {C_Ladder : Addr}
    {C_LotError : Addr}
    {C_NoPost : Addr}
    {C_NoRung : Addr}
    {C_Unlike : Addr}
    {C_NoOutcome : Addr}
    {C_NoStep : Addr}
    {f_check_posts : Addr} {od_check_posts an_check_posts : Option Addr} {sl_check_posts : Array (Option Value)} {oc_check_posts kV_check_posts dc_check_posts pm_check_posts cd_check_posts ct_check_posts : Value}
    {f_check_rungs : Addr} {od_check_rungs an_check_rungs : Option Addr} {sl_check_rungs : Array (Option Value)} {oc_check_rungs kV_check_rungs dc_check_rungs pm_check_rungs cd_check_rungs ct_check_rungs : Value}
    {f_cross : Addr} {od_cross an_cross : Option Addr} {sl_cross : Array (Option Value)} {oc_cross kV_cross dc_cross pm_cross cd_cross ct_cross : Value}
    {f_Ladder_init : Addr} {od_Ladder_init an_Ladder_init : Option Addr} {sl_Ladder_init : Array (Option Value)} {oc_Ladder_init kV_Ladder_init dc_Ladder_init pm_Ladder_init cd_Ladder_init ct_Ladder_init : Value}
    {t_Ladder_init : Addr} {oct_Ladder_init : Value} {odt_Ladder_init : Option Addr} {nt_Ladder_init : Nat} {slt_Ladder_init : Array (Option Value)}
    {f_Ladder_ends : Addr} {od_Ladder_ends an_Ladder_ends : Option Addr} {sl_Ladder_ends : Array (Option Value)} {oc_Ladder_ends kV_Ladder_ends dc_Ladder_ends pm_Ladder_ends cd_Ladder_ends ct_Ladder_ends : Value}
    {f_Ladder_carried : Addr} {od_Ladder_carried an_Ladder_carried : Option Addr} {sl_Ladder_carried : Array (Option Value)} {oc_Ladder_carried kV_Ladder_carried dc_Ladder_carried pm_Ladder_carried cd_Ladder_carried ct_Ladder_carried : Value}
    {f_Ladder_turned : Addr} {od_Ladder_turned an_Ladder_turned : Option Addr} {sl_Ladder_turned : Array (Option Value)} {oc_Ladder_turned kV_Ladder_turned dc_Ladder_turned pm_Ladder_turned cd_Ladder_turned ct_Ladder_turned : Value}
    {f_changed : Addr} {od_changed an_changed : Option Addr} {sl_changed : Array (Option Value)} {oc_changed kV_changed dc_changed pm_changed cd_changed ct_changed : Value}
    {f_done : Addr} {od_done an_done : Option Addr} {sl_done : Array (Option Value)} {oc_done kV_done dc_done pm_done cd_done ct_done : Value}
    {f__law_cell_at : Addr} {od__law_cell_at an__law_cell_at : Option Addr} {sl__law_cell_at : Array (Option Value)} {oc__law_cell_at kV__law_cell_at dc__law_cell_at pm__law_cell_at cd__law_cell_at ct__law_cell_at : Value}
    {f__law_whole : Addr} {od__law_whole an__law_whole : Option Addr} {sl__law_whole : Array (Option Value)} {oc__law_whole kV__law_whole dc__law_whole pm__law_whole cd__law_whole ct__law_whole : Value}
    {f__law_posts_by : Addr} {od__law_posts_by an__law_posts_by : Option Addr} {sl__law_posts_by : Array (Option Value)} {oc__law_posts_by kV__law_posts_by dc__law_posts_by pm__law_posts_by cd__law_posts_by ct__law_posts_by : Value}
    {f__law_rungs_by : Addr} {od__law_rungs_by an__law_rungs_by : Option Addr} {sl__law_rungs_by : Array (Option Value)} {oc__law_rungs_by kV__law_rungs_by dc__law_rungs_by pm__law_rungs_by cd__law_rungs_by ct__law_rungs_by : Value}
    {f__law_put_in : Addr} {od__law_put_in an__law_put_in : Option Addr} {sl__law_put_in : Array (Option Value)} {oc__law_put_in kV__law_put_in dc__law_put_in pm__law_put_in cd__law_put_in ct__law_put_in : Value}
    {f__law_behind : Addr} {od__law_behind an__law_behind : Option Addr} {sl__law_behind : Array (Option Value)} {oc__law_behind kV__law_behind dc__law_behind pm__law_behind cd__law_behind ct__law_behind : Value}
    {f__law_at_by : Addr} {od__law_at_by an__law_at_by : Option Addr} {sl__law_at_by : Array (Option Value)} {oc__law_at_by kV__law_at_by dc__law_at_by pm__law_at_by cd__law_at_by ct__law_at_by : Value}
    {f__law_is : Addr} {od__law_is an__law_is : Option Addr} {sl__law_is : Array (Option Value)} {oc__law_is kV__law_is dc__law_is pm__law_is cd__law_is ct__law_is : Value}
    {f__law_refused : Addr} {od__law_refused an__law_refused : Option Addr} {sl__law_refused : Array (Option Value)} {oc__law_refused kV__law_refused dc__law_refused pm__law_refused cd__law_refused ct__law_refused : Value}
    {f_law : Addr} {od_law an_law : Option Addr} {sl_law : Array (Option Value)} {oc_law kV_law dc_law pm_law cd_law ct_law : Value}
    {t_MOST_POSTS : Tok}
    (a_Ladder : PySem.W.nsIn K mainGlobals "Ladder" = some (some (.ref C_Ladder)))
    (a_LotError : PySem.W.nsIn K mainGlobals "LotError" = some (some (.ref C_LotError)))
    (a_NoPost : PySem.W.nsIn K mainGlobals "NoPost" = some (some (.ref C_NoPost)))
    (a_NoRung : PySem.W.nsIn K mainGlobals "NoRung" = some (some (.ref C_NoRung)))
    (a_Unlike : PySem.W.nsIn K mainGlobals "Unlike" = some (some (.ref C_Unlike)))
    (a_NoOutcome : PySem.W.nsIn K mainGlobals "NoOutcome" = some (some (.ref C_NoOutcome)))
    (a_NoStep : PySem.W.nsIn K mainGlobals "NoStep" = some (some (.ref C_NoStep)))
    (a_check_posts : PySem.W.nsIn K mainGlobals "check_posts" = some (some (.ref f_check_posts)))
    (l_check_posts : K.lookup f_check_posts = some ⟨oc_check_posts, od_check_posts, .func (PySem.W.fnOf "check_posts" "check_posts" (defArgs s_check_posts) (defBody s_check_posts) (defScope s_check_posts) .none kV_check_posts dc_check_posts pm_check_posts an_check_posts cd_check_posts ct_check_posts), sl_check_posts⟩)
    (c_check_posts : PySem.W.codeIn K cd_check_posts "check_posts" = true)
    (k_check_posts : PySem.W.keepIn K (.ref f_check_posts) = true)
    (a_check_rungs : PySem.W.nsIn K mainGlobals "check_rungs" = some (some (.ref f_check_rungs)))
    (l_check_rungs : K.lookup f_check_rungs = some ⟨oc_check_rungs, od_check_rungs, .func (PySem.W.fnOf "check_rungs" "check_rungs" (defArgs s_check_rungs) (defBody s_check_rungs) (defScope s_check_rungs) .none kV_check_rungs dc_check_rungs pm_check_rungs an_check_rungs cd_check_rungs ct_check_rungs), sl_check_rungs⟩)
    (c_check_rungs : PySem.W.codeIn K cd_check_rungs "check_rungs" = true)
    (k_check_rungs : PySem.W.keepIn K (.ref f_check_rungs) = true)
    (a_cross : PySem.W.nsIn K mainGlobals "cross" = some (some (.ref f_cross)))
    (l_cross : K.lookup f_cross = some ⟨oc_cross, od_cross, .func (PySem.W.fnOf "cross" "cross" (defArgs s_cross) (defBody s_cross) (defScope s_cross) .none kV_cross dc_cross pm_cross an_cross cd_cross ct_cross), sl_cross⟩)
    (c_cross : PySem.W.codeIn K cd_cross "cross" = true)
    (k_cross : PySem.W.keepIn K (.ref f_cross) = true)
    (a_Ladder_init : PySem.W.findIn K (.ref C_Ladder) "__init__" = some (some (.ref f_Ladder_init)))
    (i_Ladder_init : PySem.W.isFn K (.ref f_Ladder_init) = true)
    (l_Ladder_init : K.lookup f_Ladder_init = some ⟨oc_Ladder_init, od_Ladder_init, .func (PySem.W.fnOf "__init__" "Ladder.__init__" (defArgs s_Ladder_init) (defBody s_Ladder_init) (defScope s_Ladder_init) (.ref t_Ladder_init) kV_Ladder_init dc_Ladder_init pm_Ladder_init an_Ladder_init cd_Ladder_init ct_Ladder_init), sl_Ladder_init⟩)
    (c_Ladder_init : PySem.W.codeIn K cd_Ladder_init "Ladder.__init__" = true)
    (k_Ladder_init : PySem.W.keepIn K (.ref f_Ladder_init) = true)
    (e_Ladder_init : K.lookup t_Ladder_init = some ⟨oct_Ladder_init, odt_Ladder_init, .seq #[Value.none] nt_Ladder_init, slt_Ladder_init⟩)
    (mk : PySem.W.makesIn K C_Ladder = true)
    (kC : PySem.W.keepIn K (.ref C_Ladder) = true)
    (a_Ladder_ends : PySem.W.findIn K (.ref C_Ladder) "ends" = some (some (.ref f_Ladder_ends)))
    (i_Ladder_ends : PySem.W.isFn K (.ref f_Ladder_ends) = true)
    (l_Ladder_ends : K.lookup f_Ladder_ends = some ⟨oc_Ladder_ends, od_Ladder_ends, .func (PySem.W.fnOf "ends" "Ladder.ends" (defArgs s_Ladder_ends) (defBody s_Ladder_ends) (defScope s_Ladder_ends) .none kV_Ladder_ends dc_Ladder_ends pm_Ladder_ends an_Ladder_ends cd_Ladder_ends ct_Ladder_ends), sl_Ladder_ends⟩)
    (c_Ladder_ends : PySem.W.codeIn K cd_Ladder_ends "Ladder.ends" = true)
    (k_Ladder_ends : PySem.W.keepIn K (.ref f_Ladder_ends) = true)
    (a_Ladder_carried : PySem.W.findIn K (.ref C_Ladder) "carried" = some (some (.ref f_Ladder_carried)))
    (i_Ladder_carried : PySem.W.isFn K (.ref f_Ladder_carried) = true)
    (l_Ladder_carried : K.lookup f_Ladder_carried = some ⟨oc_Ladder_carried, od_Ladder_carried, .func (PySem.W.fnOf "carried" "Ladder.carried" (defArgs s_Ladder_carried) (defBody s_Ladder_carried) (defScope s_Ladder_carried) .none kV_Ladder_carried dc_Ladder_carried pm_Ladder_carried an_Ladder_carried cd_Ladder_carried ct_Ladder_carried), sl_Ladder_carried⟩)
    (c_Ladder_carried : PySem.W.codeIn K cd_Ladder_carried "Ladder.carried" = true)
    (k_Ladder_carried : PySem.W.keepIn K (.ref f_Ladder_carried) = true)
    (a_Ladder_turned : PySem.W.findIn K (.ref C_Ladder) "turned" = some (some (.ref f_Ladder_turned)))
    (i_Ladder_turned : PySem.W.isFn K (.ref f_Ladder_turned) = true)
    (l_Ladder_turned : K.lookup f_Ladder_turned = some ⟨oc_Ladder_turned, od_Ladder_turned, .func (PySem.W.fnOf "turned" "Ladder.turned" (defArgs s_Ladder_turned) (defBody s_Ladder_turned) (defScope s_Ladder_turned) .none kV_Ladder_turned dc_Ladder_turned pm_Ladder_turned an_Ladder_turned cd_Ladder_turned ct_Ladder_turned), sl_Ladder_turned⟩)
    (c_Ladder_turned : PySem.W.codeIn K cd_Ladder_turned "Ladder.turned" = true)
    (k_Ladder_turned : PySem.W.keepIn K (.ref f_Ladder_turned) = true)
    (a_changed : PySem.W.nsIn K mainGlobals "changed" = some (some (.ref f_changed)))
    (l_changed : K.lookup f_changed = some ⟨oc_changed, od_changed, .func (PySem.W.fnOf "changed" "changed" (defArgs s_changed) (defBody s_changed) (defScope s_changed) .none kV_changed dc_changed pm_changed an_changed cd_changed ct_changed), sl_changed⟩)
    (c_changed : PySem.W.codeIn K cd_changed "changed" = true)
    (k_changed : PySem.W.keepIn K (.ref f_changed) = true)
    (a_done : PySem.W.nsIn K mainGlobals "done" = some (some (.ref f_done)))
    (l_done : K.lookup f_done = some ⟨oc_done, od_done, .func (PySem.W.fnOf "done" "done" (defArgs s_done) (defBody s_done) (defScope s_done) .none kV_done dc_done pm_done an_done cd_done ct_done), sl_done⟩)
    (c_done : PySem.W.codeIn K cd_done "done" = true)
    (k_done : PySem.W.keepIn K (.ref f_done) = true)
    (a__law_cell_at : PySem.W.nsIn K mainGlobals "_law_cell_at" = some (some (.ref f__law_cell_at)))
    (l__law_cell_at : K.lookup f__law_cell_at = some ⟨oc__law_cell_at, od__law_cell_at, .func (PySem.W.fnOf "_law_cell_at" "_law_cell_at" (defArgs s__law_cell_at) (defBody s__law_cell_at) (defScope s__law_cell_at) .none kV__law_cell_at dc__law_cell_at pm__law_cell_at an__law_cell_at cd__law_cell_at ct__law_cell_at), sl__law_cell_at⟩)
    (c__law_cell_at : PySem.W.codeIn K cd__law_cell_at "_law_cell_at" = true)
    (k__law_cell_at : PySem.W.keepIn K (.ref f__law_cell_at) = true)
    (a__law_whole : PySem.W.nsIn K mainGlobals "_law_whole" = some (some (.ref f__law_whole)))
    (l__law_whole : K.lookup f__law_whole = some ⟨oc__law_whole, od__law_whole, .func (PySem.W.fnOf "_law_whole" "_law_whole" (defArgs s__law_whole) (defBody s__law_whole) (defScope s__law_whole) .none kV__law_whole dc__law_whole pm__law_whole an__law_whole cd__law_whole ct__law_whole), sl__law_whole⟩)
    (c__law_whole : PySem.W.codeIn K cd__law_whole "_law_whole" = true)
    (k__law_whole : PySem.W.keepIn K (.ref f__law_whole) = true)
    (a__law_posts_by : PySem.W.nsIn K mainGlobals "_law_posts_by" = some (some (.ref f__law_posts_by)))
    (l__law_posts_by : K.lookup f__law_posts_by = some ⟨oc__law_posts_by, od__law_posts_by, .func (PySem.W.fnOf "_law_posts_by" "_law_posts_by" (defArgs s__law_posts_by) (defBody s__law_posts_by) (defScope s__law_posts_by) .none kV__law_posts_by dc__law_posts_by pm__law_posts_by an__law_posts_by cd__law_posts_by ct__law_posts_by), sl__law_posts_by⟩)
    (c__law_posts_by : PySem.W.codeIn K cd__law_posts_by "_law_posts_by" = true)
    (k__law_posts_by : PySem.W.keepIn K (.ref f__law_posts_by) = true)
    (a__law_rungs_by : PySem.W.nsIn K mainGlobals "_law_rungs_by" = some (some (.ref f__law_rungs_by)))
    (l__law_rungs_by : K.lookup f__law_rungs_by = some ⟨oc__law_rungs_by, od__law_rungs_by, .func (PySem.W.fnOf "_law_rungs_by" "_law_rungs_by" (defArgs s__law_rungs_by) (defBody s__law_rungs_by) (defScope s__law_rungs_by) .none kV__law_rungs_by dc__law_rungs_by pm__law_rungs_by an__law_rungs_by cd__law_rungs_by ct__law_rungs_by), sl__law_rungs_by⟩)
    (c__law_rungs_by : PySem.W.codeIn K cd__law_rungs_by "_law_rungs_by" = true)
    (k__law_rungs_by : PySem.W.keepIn K (.ref f__law_rungs_by) = true)
    (a__law_put_in : PySem.W.nsIn K mainGlobals "_law_put_in" = some (some (.ref f__law_put_in)))
    (l__law_put_in : K.lookup f__law_put_in = some ⟨oc__law_put_in, od__law_put_in, .func (PySem.W.fnOf "_law_put_in" "_law_put_in" (defArgs s__law_put_in) (defBody s__law_put_in) (defScope s__law_put_in) .none kV__law_put_in dc__law_put_in pm__law_put_in an__law_put_in cd__law_put_in ct__law_put_in), sl__law_put_in⟩)
    (c__law_put_in : PySem.W.codeIn K cd__law_put_in "_law_put_in" = true)
    (k__law_put_in : PySem.W.keepIn K (.ref f__law_put_in) = true)
    (a__law_behind : PySem.W.nsIn K mainGlobals "_law_behind" = some (some (.ref f__law_behind)))
    (l__law_behind : K.lookup f__law_behind = some ⟨oc__law_behind, od__law_behind, .func (PySem.W.fnOf "_law_behind" "_law_behind" (defArgs s__law_behind) (defBody s__law_behind) (defScope s__law_behind) .none kV__law_behind dc__law_behind pm__law_behind an__law_behind cd__law_behind ct__law_behind), sl__law_behind⟩)
    (c__law_behind : PySem.W.codeIn K cd__law_behind "_law_behind" = true)
    (k__law_behind : PySem.W.keepIn K (.ref f__law_behind) = true)
    (a__law_at_by : PySem.W.nsIn K mainGlobals "_law_at_by" = some (some (.ref f__law_at_by)))
    (l__law_at_by : K.lookup f__law_at_by = some ⟨oc__law_at_by, od__law_at_by, .func (PySem.W.fnOf "_law_at_by" "_law_at_by" (defArgs s__law_at_by) (defBody s__law_at_by) (defScope s__law_at_by) .none kV__law_at_by dc__law_at_by pm__law_at_by an__law_at_by cd__law_at_by ct__law_at_by), sl__law_at_by⟩)
    (c__law_at_by : PySem.W.codeIn K cd__law_at_by "_law_at_by" = true)
    (k__law_at_by : PySem.W.keepIn K (.ref f__law_at_by) = true)
    (a__law_is : PySem.W.nsIn K mainGlobals "_law_is" = some (some (.ref f__law_is)))
    (l__law_is : K.lookup f__law_is = some ⟨oc__law_is, od__law_is, .func (PySem.W.fnOf "_law_is" "_law_is" (defArgs s__law_is) (defBody s__law_is) (defScope s__law_is) .none kV__law_is dc__law_is pm__law_is an__law_is cd__law_is ct__law_is), sl__law_is⟩)
    (c__law_is : PySem.W.codeIn K cd__law_is "_law_is" = true)
    (k__law_is : PySem.W.keepIn K (.ref f__law_is) = true)
    (a__law_refused : PySem.W.nsIn K mainGlobals "_law_refused" = some (some (.ref f__law_refused)))
    (l__law_refused : K.lookup f__law_refused = some ⟨oc__law_refused, od__law_refused, .func (PySem.W.fnOf "_law_refused" "_law_refused" (defArgs s__law_refused) (defBody s__law_refused) (defScope s__law_refused) .none kV__law_refused dc__law_refused pm__law_refused an__law_refused cd__law_refused ct__law_refused), sl__law_refused⟩)
    (c__law_refused : PySem.W.codeIn K cd__law_refused "_law_refused" = true)
    (k__law_refused : PySem.W.keepIn K (.ref f__law_refused) = true)
    (a_law : PySem.W.nsIn K mainGlobals "law" = some (some (.ref f_law)))
    (l_law : K.lookup f_law = some ⟨oc_law, od_law, .func (PySem.W.fnOf "law" "law" (defArgs s_law) (defBody s_law) (defScope s_law) .none kV_law dc_law pm_law an_law cd_law ct_law), sl_law⟩)
    (c_law : PySem.W.codeIn K cd_law "law" = true)
    (k_law : PySem.W.keepIn K (.ref f_law) = true)
    (pg : PySem.W.plainGet K C_Ladder Str.empty = true)
    (hd : PySem.W.hasDictIn K C_Ladder = true)
    (po : PySem.W.plainOver K C_Ladder = true)
    (sa : PySem.W.findIn K (.ref C_Ladder) "__setattr__" = some (some (.builtin "object.__setattr__")))
    (na_posts : PySem.W.findIn K (.ref C_Ladder) "posts" = some none)
    (na_rungs : PySem.W.findIn K (.ref C_Ladder) "rungs" = some none)
    (lc : PySem.W.findIn K (.ref C_Ladder) "__class__" = some (some (.builtin "object.__class__")))
    (lg : PySem.W.specialIn K (.builtin "object.__class__") "__get__" = some (some (.builtin "getset_descriptor.__get__")))
    (lt : PySem.W.takesIn K (.builtin "object.__class__") = some true)
    (lm : PySem.W.mroIn K C_Ladder (.type "object") = some true)
    (x_NoPost : PySem.W.excIn K C_NoPost vErr "ValueError.__new__" = true)
    (y1_NoPost : PySem.W.isClsIn K C_NoPost = true)
    (y2_NoPost : PySem.W.findIn K (.ref C_NoPost) "__getattribute__" = some (some (.builtin "BaseException.__getattribute__")))
    (y3_NoPost : PySem.W.findIn K (.ref C_NoPost) "__getattr__" = some none)
    (y4_NoPost : PySem.W.findIn K (.ref C_NoPost) "__class__" = some (some (.builtin "object.__class__")))
    (y5_NoPost : PySem.W.mroIn K C_NoPost (.type "object") = some true)
    (y6_NoPost : PySem.W.mroIn K C_NoPost (.type "BaseException") = some true)
    (z_NoPost_LotError : PySem.W.mroIn K C_NoPost (.ref C_LotError) = some true)
    (q_NoPost_ValueError : PySem.W.kitOne K (.ref C_NoPost) (.type "ValueError") = some true)
    (q_NoPost_NoPost : PySem.W.kitOne K (.ref C_NoPost) (.ref C_NoPost) = some true)
    (q_NoPost_NoRung : PySem.W.kitOne K (.ref C_NoPost) (.ref C_NoRung) = some false)
    (q_NoPost_Unlike : PySem.W.kitOne K (.ref C_NoPost) (.ref C_Unlike) = some false)
    (q_NoPost_NoOutcome : PySem.W.kitOne K (.ref C_NoPost) (.ref C_NoOutcome) = some false)
    (q_NoPost_NoStep : PySem.W.kitOne K (.ref C_NoPost) (.ref C_NoStep) = some false)
    (x_NoRung : PySem.W.excIn K C_NoRung vErr "ValueError.__new__" = true)
    (y1_NoRung : PySem.W.isClsIn K C_NoRung = true)
    (y2_NoRung : PySem.W.findIn K (.ref C_NoRung) "__getattribute__" = some (some (.builtin "BaseException.__getattribute__")))
    (y3_NoRung : PySem.W.findIn K (.ref C_NoRung) "__getattr__" = some none)
    (y4_NoRung : PySem.W.findIn K (.ref C_NoRung) "__class__" = some (some (.builtin "object.__class__")))
    (y5_NoRung : PySem.W.mroIn K C_NoRung (.type "object") = some true)
    (y6_NoRung : PySem.W.mroIn K C_NoRung (.type "BaseException") = some true)
    (z_NoRung_LotError : PySem.W.mroIn K C_NoRung (.ref C_LotError) = some true)
    (q_NoRung_ValueError : PySem.W.kitOne K (.ref C_NoRung) (.type "ValueError") = some true)
    (q_NoRung_NoPost : PySem.W.kitOne K (.ref C_NoRung) (.ref C_NoPost) = some false)
    (q_NoRung_NoRung : PySem.W.kitOne K (.ref C_NoRung) (.ref C_NoRung) = some true)
    (q_NoRung_Unlike : PySem.W.kitOne K (.ref C_NoRung) (.ref C_Unlike) = some false)
    (q_NoRung_NoOutcome : PySem.W.kitOne K (.ref C_NoRung) (.ref C_NoOutcome) = some false)
    (q_NoRung_NoStep : PySem.W.kitOne K (.ref C_NoRung) (.ref C_NoStep) = some false)
    (x_Unlike : PySem.W.excIn K C_Unlike vErr "ValueError.__new__" = true)
    (y1_Unlike : PySem.W.isClsIn K C_Unlike = true)
    (y2_Unlike : PySem.W.findIn K (.ref C_Unlike) "__getattribute__" = some (some (.builtin "BaseException.__getattribute__")))
    (y3_Unlike : PySem.W.findIn K (.ref C_Unlike) "__getattr__" = some none)
    (y4_Unlike : PySem.W.findIn K (.ref C_Unlike) "__class__" = some (some (.builtin "object.__class__")))
    (y5_Unlike : PySem.W.mroIn K C_Unlike (.type "object") = some true)
    (y6_Unlike : PySem.W.mroIn K C_Unlike (.type "BaseException") = some true)
    (z_Unlike_LotError : PySem.W.mroIn K C_Unlike (.ref C_LotError) = some true)
    (q_Unlike_ValueError : PySem.W.kitOne K (.ref C_Unlike) (.type "ValueError") = some true)
    (q_Unlike_NoPost : PySem.W.kitOne K (.ref C_Unlike) (.ref C_NoPost) = some false)
    (q_Unlike_NoRung : PySem.W.kitOne K (.ref C_Unlike) (.ref C_NoRung) = some false)
    (q_Unlike_Unlike : PySem.W.kitOne K (.ref C_Unlike) (.ref C_Unlike) = some true)
    (q_Unlike_NoOutcome : PySem.W.kitOne K (.ref C_Unlike) (.ref C_NoOutcome) = some false)
    (q_Unlike_NoStep : PySem.W.kitOne K (.ref C_Unlike) (.ref C_NoStep) = some false)
    (x_NoStep : PySem.W.excIn K C_NoStep vErr "ValueError.__new__" = true)
    (y1_NoStep : PySem.W.isClsIn K C_NoStep = true)
    (y2_NoStep : PySem.W.findIn K (.ref C_NoStep) "__getattribute__" = some (some (.builtin "BaseException.__getattribute__")))
    (y3_NoStep : PySem.W.findIn K (.ref C_NoStep) "__getattr__" = some none)
    (y4_NoStep : PySem.W.findIn K (.ref C_NoStep) "__class__" = some (some (.builtin "object.__class__")))
    (y5_NoStep : PySem.W.mroIn K C_NoStep (.type "object") = some true)
    (y6_NoStep : PySem.W.mroIn K C_NoStep (.type "BaseException") = some true)
    (z_NoStep_LotError : PySem.W.mroIn K C_NoStep (.ref C_LotError) = some true)
    (q_NoStep_ValueError : PySem.W.kitOne K (.ref C_NoStep) (.type "ValueError") = some true)
    (q_NoStep_NoPost : PySem.W.kitOne K (.ref C_NoStep) (.ref C_NoPost) = some false)
    (q_NoStep_NoRung : PySem.W.kitOne K (.ref C_NoStep) (.ref C_NoRung) = some false)
    (q_NoStep_Unlike : PySem.W.kitOne K (.ref C_NoStep) (.ref C_Unlike) = some false)
    (q_NoStep_NoOutcome : PySem.W.kitOne K (.ref C_NoStep) (.ref C_NoOutcome) = some false)
    (q_NoStep_NoStep : PySem.W.kitOne K (.ref C_NoStep) (.ref C_NoStep) = some true)
    (c1_LotError : PySem.W.isClsIn K C_LotError = true)
    (c2_LotError : PySem.W.typeIn K (.ref C_LotError) = some (.type "type"))
    (c3_LotError : PySem.W.mroIn K C_LotError (.type "BaseException") = some true)
    (m_len : PySem.W.nsIn K mainGlobals "len" = some none)
    (m_range : PySem.W.nsIn K mainGlobals "range" = some none)
    (m_list : PySem.W.nsIn K mainGlobals "list" = some none)
    (m_tuple : PySem.W.nsIn K mainGlobals "tuple" = some none)
    (m_isinstance : PySem.W.nsIn K mainGlobals "isinstance" = some none)
    (m_int : PySem.W.nsIn K mainGlobals "int" = some none)
    (m_bool : PySem.W.nsIn K mainGlobals "bool" = some none)
    (m_ValueError : PySem.W.nsIn K mainGlobals "ValueError" = some none)
    (m_abs : PySem.W.nsIn K mainGlobals "abs" = some none)
    (m_max : PySem.W.nsIn K mainGlobals "max" = some none)
    (m_enumerate : PySem.W.nsIn K mainGlobals "enumerate" = some none)
    (g_MOST_POSTS : PySem.W.nsIn K mainGlobals "MOST_POSTS" = some (some (.int 100 t_MOST_POSTS)))
    : ∃ fd : FuncData, (∀ (s : Shared) (v : Value), BindsTo s fd ⟨[v], []⟩ [("_law_script", v)]) ∧ ∀ base : Heap, K.In base → base.Ns mainGlobals mg → FnOk l.prog w K mg base (CX1 l.prog w) 8 fa fd ["_law_script"] (spLaw K) := by
  have e := hfa.symm.trans (PySem.W.mg_of X G a_law)
  have e1 : f_law = fa := by cases e; rfl
  subst e1
  let T : TX K mg := {
    a_Ladder := C_Ladder, m_Ladder := PySem.W.mg_of X G a_Ladder,
    a_LotError := C_LotError, m_LotError := PySem.W.mg_of X G a_LotError,
    a_NoPost := C_NoPost, m_NoPost := PySem.W.mg_of X G a_NoPost,
    a_NoRung := C_NoRung, m_NoRung := PySem.W.mg_of X G a_NoRung,
    a_Unlike := C_Unlike, m_Unlike := PySem.W.mg_of X G a_Unlike,
    a_NoOutcome := C_NoOutcome, m_NoOutcome := PySem.W.mg_of X G a_NoOutcome,
    a_NoStep := C_NoStep, m_NoStep := PySem.W.mg_of X G a_NoStep,
    f_check_posts := f_check_posts, fd_check_posts := (PySem.W.fnOf "check_posts" "check_posts" (defArgs s_check_posts) (defBody s_check_posts) (defScope s_check_posts) .none kV_check_posts dc_check_posts pm_check_posts an_check_posts cd_check_posts ct_check_posts), F_check_posts := funD_mk l_check_posts c_check_posts k_check_posts,
    b_check_posts := (funD_mk (st := s_check_posts) l_check_posts c_check_posts k_check_posts).binds (ps := P_check_posts) fun _ _ _ _ _ _ us hl => match us, hl with | [_], _ => rfl,
    m_check_posts := PySem.W.mg_of X G a_check_posts,
    f_check_rungs := f_check_rungs, fd_check_rungs := (PySem.W.fnOf "check_rungs" "check_rungs" (defArgs s_check_rungs) (defBody s_check_rungs) (defScope s_check_rungs) .none kV_check_rungs dc_check_rungs pm_check_rungs an_check_rungs cd_check_rungs ct_check_rungs), F_check_rungs := funD_mk l_check_rungs c_check_rungs k_check_rungs,
    b_check_rungs := (funD_mk (st := s_check_rungs) l_check_rungs c_check_rungs k_check_rungs).binds (ps := P_check_rungs) fun _ _ _ _ _ _ us hl => match us, hl with | [_, _], _ => rfl,
    m_check_rungs := PySem.W.mg_of X G a_check_rungs,
    f_cross := f_cross, fd_cross := (PySem.W.fnOf "cross" "cross" (defArgs s_cross) (defBody s_cross) (defScope s_cross) .none kV_cross dc_cross pm_cross an_cross cd_cross ct_cross), F_cross := funD_mk l_cross c_cross k_cross,
    b_cross := (funD_mk (st := s_cross) l_cross c_cross k_cross).binds (ps := P_cross) fun _ _ _ _ _ _ us hl => match us, hl with | [_, _], _ => rfl,
    m_cross := PySem.W.mg_of X G a_cross,
    f_Ladder_init := f_Ladder_init, fd_Ladder_init := (PySem.W.fnOf "__init__" "Ladder.__init__" (defArgs s_Ladder_init) (defBody s_Ladder_init) (defScope s_Ladder_init) (.ref t_Ladder_init) kV_Ladder_init dc_Ladder_init pm_Ladder_init an_Ladder_init cd_Ladder_init ct_Ladder_init), F_Ladder_init := funD_mk l_Ladder_init c_Ladder_init k_Ladder_init,
    d_Ladder_init := (.ref t_Ladder_init),
    b_Ladder_init := fun s us KI hl => match us, hl with | [_, _, _], _ => PySem.W.binds_K KI rfl e_Ladder_init rfl rfl rfl,
    b1_Ladder_init := fun s us KI hl => by
      have hl' : us.length = 2 := by simpa using hl
      clear hl
      match us, hl' with
      | [_, _], _ => exact PySem.W.binds_K KI rfl e_Ladder_init rfl rfl rfl,
    mk_Ladder := ⟨mk, a_Ladder_init, i_Ladder_init, kC⟩,
    f_Ladder_ends := f_Ladder_ends, fd_Ladder_ends := (PySem.W.fnOf "ends" "Ladder.ends" (defArgs s_Ladder_ends) (defBody s_Ladder_ends) (defScope s_Ladder_ends) .none kV_Ladder_ends dc_Ladder_ends pm_Ladder_ends an_Ladder_ends cd_Ladder_ends ct_Ladder_ends), F_Ladder_ends := funD_mk l_Ladder_ends c_Ladder_ends k_Ladder_ends,
    b_Ladder_ends := (funD_mk (st := s_Ladder_ends) l_Ladder_ends c_Ladder_ends k_Ladder_ends).binds (ps := P_Ladder_ends) fun _ _ _ _ _ _ us hl => match us, hl with | [_], _ => rfl,
    mt_Ladder_ends := ⟨a_Ladder_ends, i_Ladder_ends, k_Ladder_ends⟩,
    f_Ladder_carried := f_Ladder_carried, fd_Ladder_carried := (PySem.W.fnOf "carried" "Ladder.carried" (defArgs s_Ladder_carried) (defBody s_Ladder_carried) (defScope s_Ladder_carried) .none kV_Ladder_carried dc_Ladder_carried pm_Ladder_carried an_Ladder_carried cd_Ladder_carried ct_Ladder_carried), F_Ladder_carried := funD_mk l_Ladder_carried c_Ladder_carried k_Ladder_carried,
    b_Ladder_carried := (funD_mk (st := s_Ladder_carried) l_Ladder_carried c_Ladder_carried k_Ladder_carried).binds (ps := P_Ladder_carried) fun _ _ _ _ _ _ us hl => match us, hl with | [_, _], _ => rfl,
    mt_Ladder_carried := ⟨a_Ladder_carried, i_Ladder_carried, k_Ladder_carried⟩,
    f_Ladder_turned := f_Ladder_turned, fd_Ladder_turned := (PySem.W.fnOf "turned" "Ladder.turned" (defArgs s_Ladder_turned) (defBody s_Ladder_turned) (defScope s_Ladder_turned) .none kV_Ladder_turned dc_Ladder_turned pm_Ladder_turned an_Ladder_turned cd_Ladder_turned ct_Ladder_turned), F_Ladder_turned := funD_mk l_Ladder_turned c_Ladder_turned k_Ladder_turned,
    b_Ladder_turned := (funD_mk (st := s_Ladder_turned) l_Ladder_turned c_Ladder_turned k_Ladder_turned).binds (ps := P_Ladder_turned) fun _ _ _ _ _ _ us hl => match us, hl with | [_], _ => rfl,
    mt_Ladder_turned := ⟨a_Ladder_turned, i_Ladder_turned, k_Ladder_turned⟩,
    f_changed := f_changed, fd_changed := (PySem.W.fnOf "changed" "changed" (defArgs s_changed) (defBody s_changed) (defScope s_changed) .none kV_changed dc_changed pm_changed an_changed cd_changed ct_changed), F_changed := funD_mk l_changed c_changed k_changed,
    b_changed := (funD_mk (st := s_changed) l_changed c_changed k_changed).binds (ps := P_changed) fun _ _ _ _ _ _ us hl => match us, hl with | [_, _], _ => rfl,
    m_changed := PySem.W.mg_of X G a_changed,
    f_done := f_done, fd_done := (PySem.W.fnOf "done" "done" (defArgs s_done) (defBody s_done) (defScope s_done) .none kV_done dc_done pm_done an_done cd_done ct_done), F_done := funD_mk l_done c_done k_done,
    b_done := (funD_mk (st := s_done) l_done c_done k_done).binds (ps := P_done) fun _ _ _ _ _ _ us hl => match us, hl with | [_, _], _ => rfl,
    m_done := PySem.W.mg_of X G a_done,
    f__law_cell_at := f__law_cell_at, fd__law_cell_at := (PySem.W.fnOf "_law_cell_at" "_law_cell_at" (defArgs s__law_cell_at) (defBody s__law_cell_at) (defScope s__law_cell_at) .none kV__law_cell_at dc__law_cell_at pm__law_cell_at an__law_cell_at cd__law_cell_at ct__law_cell_at), F__law_cell_at := funD_mk l__law_cell_at c__law_cell_at k__law_cell_at,
    b__law_cell_at := (funD_mk (st := s__law_cell_at) l__law_cell_at c__law_cell_at k__law_cell_at).binds (ps := P__law_cell_at) fun _ _ _ _ _ _ us hl => match us, hl with | [_, _], _ => rfl,
    m__law_cell_at := PySem.W.mg_of X G a__law_cell_at,
    f__law_whole := f__law_whole, fd__law_whole := (PySem.W.fnOf "_law_whole" "_law_whole" (defArgs s__law_whole) (defBody s__law_whole) (defScope s__law_whole) .none kV__law_whole dc__law_whole pm__law_whole an__law_whole cd__law_whole ct__law_whole), F__law_whole := funD_mk l__law_whole c__law_whole k__law_whole,
    b__law_whole := (funD_mk (st := s__law_whole) l__law_whole c__law_whole k__law_whole).binds (ps := P__law_whole) fun _ _ _ _ _ _ us hl => match us, hl with | [_], _ => rfl,
    m__law_whole := PySem.W.mg_of X G a__law_whole,
    f__law_posts_by := f__law_posts_by, fd__law_posts_by := (PySem.W.fnOf "_law_posts_by" "_law_posts_by" (defArgs s__law_posts_by) (defBody s__law_posts_by) (defScope s__law_posts_by) .none kV__law_posts_by dc__law_posts_by pm__law_posts_by an__law_posts_by cd__law_posts_by ct__law_posts_by), F__law_posts_by := funD_mk l__law_posts_by c__law_posts_by k__law_posts_by,
    b__law_posts_by := (funD_mk (st := s__law_posts_by) l__law_posts_by c__law_posts_by k__law_posts_by).binds (ps := P__law_posts_by) fun _ _ _ _ _ _ us hl => match us, hl with | [_], _ => rfl,
    m__law_posts_by := PySem.W.mg_of X G a__law_posts_by,
    f__law_rungs_by := f__law_rungs_by, fd__law_rungs_by := (PySem.W.fnOf "_law_rungs_by" "_law_rungs_by" (defArgs s__law_rungs_by) (defBody s__law_rungs_by) (defScope s__law_rungs_by) .none kV__law_rungs_by dc__law_rungs_by pm__law_rungs_by an__law_rungs_by cd__law_rungs_by ct__law_rungs_by), F__law_rungs_by := funD_mk l__law_rungs_by c__law_rungs_by k__law_rungs_by,
    b__law_rungs_by := (funD_mk (st := s__law_rungs_by) l__law_rungs_by c__law_rungs_by k__law_rungs_by).binds (ps := P__law_rungs_by) fun _ _ _ _ _ _ us hl => match us, hl with | [_, _, _], _ => rfl,
    m__law_rungs_by := PySem.W.mg_of X G a__law_rungs_by,
    f__law_put_in := f__law_put_in, fd__law_put_in := (PySem.W.fnOf "_law_put_in" "_law_put_in" (defArgs s__law_put_in) (defBody s__law_put_in) (defScope s__law_put_in) .none kV__law_put_in dc__law_put_in pm__law_put_in an__law_put_in cd__law_put_in ct__law_put_in), F__law_put_in := funD_mk l__law_put_in c__law_put_in k__law_put_in,
    b__law_put_in := (funD_mk (st := s__law_put_in) l__law_put_in c__law_put_in k__law_put_in).binds (ps := P__law_put_in) fun _ _ _ _ _ _ us hl => match us, hl with | [_, _, _], _ => rfl,
    m__law_put_in := PySem.W.mg_of X G a__law_put_in,
    f__law_behind := f__law_behind, fd__law_behind := (PySem.W.fnOf "_law_behind" "_law_behind" (defArgs s__law_behind) (defBody s__law_behind) (defScope s__law_behind) .none kV__law_behind dc__law_behind pm__law_behind an__law_behind cd__law_behind ct__law_behind), F__law_behind := funD_mk l__law_behind c__law_behind k__law_behind,
    b__law_behind := (funD_mk (st := s__law_behind) l__law_behind c__law_behind k__law_behind).binds (ps := P__law_behind) fun _ _ _ _ _ _ us hl => match us, hl with | [_, _, _], _ => rfl,
    m__law_behind := PySem.W.mg_of X G a__law_behind,
    f__law_at_by := f__law_at_by, fd__law_at_by := (PySem.W.fnOf "_law_at_by" "_law_at_by" (defArgs s__law_at_by) (defBody s__law_at_by) (defScope s__law_at_by) .none kV__law_at_by dc__law_at_by pm__law_at_by an__law_at_by cd__law_at_by ct__law_at_by), F__law_at_by := funD_mk l__law_at_by c__law_at_by k__law_at_by,
    b__law_at_by := (funD_mk (st := s__law_at_by) l__law_at_by c__law_at_by k__law_at_by).binds (ps := P__law_at_by) fun _ _ _ _ _ _ us hl => match us, hl with | [_, _, _, _], _ => rfl,
    m__law_at_by := PySem.W.mg_of X G a__law_at_by,
    f__law_is := f__law_is, fd__law_is := (PySem.W.fnOf "_law_is" "_law_is" (defArgs s__law_is) (defBody s__law_is) (defScope s__law_is) .none kV__law_is dc__law_is pm__law_is an__law_is cd__law_is ct__law_is), F__law_is := funD_mk l__law_is c__law_is k__law_is,
    b__law_is := (funD_mk (st := s__law_is) l__law_is c__law_is k__law_is).binds (ps := P__law_is) fun _ _ _ _ _ _ us hl => match us, hl with | [_, _, _], _ => rfl,
    m__law_is := PySem.W.mg_of X G a__law_is,
    f__law_refused := f__law_refused, fd__law_refused := (PySem.W.fnOf "_law_refused" "_law_refused" (defArgs s__law_refused) (defBody s__law_refused) (defScope s__law_refused) .none kV__law_refused dc__law_refused pm__law_refused an__law_refused cd__law_refused ct__law_refused), F__law_refused := funD_mk l__law_refused c__law_refused k__law_refused,
    b__law_refused := (funD_mk (st := s__law_refused) l__law_refused c__law_refused k__law_refused).binds (ps := P__law_refused) fun _ _ _ _ _ _ us hl => match us, hl with | [_, _], _ => rfl,
    m__law_refused := PySem.W.mg_of X G a__law_refused,
    f_law := f_law, fd_law := (PySem.W.fnOf "law" "law" (defArgs s_law) (defBody s_law) (defScope s_law) .none kV_law dc_law pm_law an_law cd_law ct_law), F_law := funD_mk l_law c_law k_law,
    b_law := (funD_mk (st := s_law) l_law c_law k_law).binds (ps := P_law) fun _ _ _ _ _ _ us hl => match us, hl with | [_], _ => rfl,
    m_law := PySem.W.mg_of X G a_law,
    cl_Ladder := ⟨pg, hd, po, sa⟩,
    na_posts := na_posts,
    na_rungs := na_rungs,
    lc := lc,
    lg := lg,
    lt := lt,
    lm := lm,
    x_NoPost := x_NoPost, y_NoPost := ⟨y1_NoPost, y2_NoPost, y3_NoPost, y4_NoPost, y5_NoPost, y6_NoPost⟩,
    z_NoPost_LotError := z_NoPost_LotError,
    q_NoPost_ValueError := q_NoPost_ValueError,
    q_NoPost_NoPost := q_NoPost_NoPost,
    q_NoPost_NoRung := q_NoPost_NoRung,
    q_NoPost_Unlike := q_NoPost_Unlike,
    q_NoPost_NoOutcome := q_NoPost_NoOutcome,
    q_NoPost_NoStep := q_NoPost_NoStep,
    x_NoRung := x_NoRung, y_NoRung := ⟨y1_NoRung, y2_NoRung, y3_NoRung, y4_NoRung, y5_NoRung, y6_NoRung⟩,
    z_NoRung_LotError := z_NoRung_LotError,
    q_NoRung_ValueError := q_NoRung_ValueError,
    q_NoRung_NoPost := q_NoRung_NoPost,
    q_NoRung_NoRung := q_NoRung_NoRung,
    q_NoRung_Unlike := q_NoRung_Unlike,
    q_NoRung_NoOutcome := q_NoRung_NoOutcome,
    q_NoRung_NoStep := q_NoRung_NoStep,
    x_Unlike := x_Unlike, y_Unlike := ⟨y1_Unlike, y2_Unlike, y3_Unlike, y4_Unlike, y5_Unlike, y6_Unlike⟩,
    z_Unlike_LotError := z_Unlike_LotError,
    q_Unlike_ValueError := q_Unlike_ValueError,
    q_Unlike_NoPost := q_Unlike_NoPost,
    q_Unlike_NoRung := q_Unlike_NoRung,
    q_Unlike_Unlike := q_Unlike_Unlike,
    q_Unlike_NoOutcome := q_Unlike_NoOutcome,
    q_Unlike_NoStep := q_Unlike_NoStep,
    x_NoStep := x_NoStep, y_NoStep := ⟨y1_NoStep, y2_NoStep, y3_NoStep, y4_NoStep, y5_NoStep, y6_NoStep⟩,
    z_NoStep_LotError := z_NoStep_LotError,
    q_NoStep_ValueError := q_NoStep_ValueError,
    q_NoStep_NoPost := q_NoStep_NoPost,
    q_NoStep_NoRung := q_NoStep_NoRung,
    q_NoStep_Unlike := q_NoStep_Unlike,
    q_NoStep_NoOutcome := q_NoStep_NoOutcome,
    q_NoStep_NoStep := q_NoStep_NoStep,
    c_LotError := ⟨c1_LotError, c2_LotError, c3_LotError⟩,
    m_len := PySem.W.mg_none_of X G m_len,
    m_range := PySem.W.mg_none_of X G m_range,
    m_list := PySem.W.mg_none_of X G m_list,
    m_tuple := PySem.W.mg_none_of X G m_tuple,
    m_isinstance := PySem.W.mg_none_of X G m_isinstance,
    m_int := PySem.W.mg_none_of X G m_int,
    m_bool := PySem.W.mg_none_of X G m_bool,
    m_ValueError := PySem.W.mg_none_of X G m_ValueError,
    m_abs := PySem.W.mg_none_of X G m_abs,
    m_max := PySem.W.mg_none_of X G m_max,
    m_enumerate := PySem.W.mg_none_of X G m_enumerate,
    t_MOST_POSTS := t_MOST_POSTS, g_MOST_POSTS := PySem.W.mg_of X G g_MOST_POSTS }
  exact ⟨T.fd_law, fun s v => .of_eq rfl, fun base _ _ => ok_law (P := l.prog) (w := w) (base := base) T⟩
theorem walk {l : PySem.W.OpenLaw} {q : Program} {loose : List Str} {XP : (Str → Option Value) → Heap → Prop} {YP : World → Heap → Prop} {d : DefRec} {K : Params → PySem.W.Frag} (hn : l.most = some 63) (hdf : d.params.defaults = [])
    (hY : ∀ (w : World) (h : Heap), YP w h → (K w.params).In h)
    (F : ∀ (w : World) (mg : Str → Option Value) (fa : Addr) (h : Heap), (K w.params).In h → h.Ns mainGlobals mg → mg d.name = some (.ref fa) →
      ∃ fd : FuncData, (∀ (s : Shared) (u : Value), BindsTo s fd ⟨[u], []⟩ [("_law_script", u)]) ∧ ∀ base : Heap, (K w.params).In base → base.Ns mainGlobals mg → FnOk l.prog w (K w.params) mg base (CX1 l.prog w) 8 fa fd ["_law_script"] (spLaw (K w.params))) :
    PySem.W.WalkO q loose XP YP l.row.toRowW d [] (fun f vs => PySem.call f vs) :=
  L2.walk_of (n := 63) (k := 8) (x := "_law_script") (CX := fun w => CX1 l.prog w) (sp := fun w => spLaw (K w.params)) hn (by decide) hdf ⟨rfl, by decide, by decide⟩ hY F (fun _ _ a ns hl _ hS => ⟨a, ns, rfl, hS, hl, fun _ => rfl⟩) fun _ _ _ _ _ z => by obtain ⟨_, _, _, _, _, _, _, _, _, q⟩ := z; exact q
end LL
open PySem PySem.W PyProof.Rows
set_option maxRecDepth 100000 in
set_option maxHeartbeats 0 in
theorem PySem.Challenge.cw_ladderlots_k07_a_step_holds : PySem.Challenge.rw_ladderlots_k07_a_step.Holds := by
  w_on; o_law; k_head; (case hw => w_witness2)
  k_fill
  refine LL.walk (l := PySem.Challenge.rw_ladderlots_k07_a_step) rfl rfl (fun w h Y => PySem.W.kIn_of Y) ?F
  case F =>
    intro w mg fa h KX G hmg
    refine' LL.all_mk KX G hmg ?a_Ladder ?a_LotError ?a_NoPost ?a_NoRung ?a_Unlike ?a_NoOutcome ?a_NoStep ?a_check_posts ?l_check_posts ?c_check_posts ?k_check_posts ?a_check_rungs ?l_check_rungs ?c_check_rungs ?k_check_rungs ?a_cross ?l_cross ?c_cross ?k_cross ?a_Ladder_init ?i_Ladder_init ?l_Ladder_init ?c_Ladder_init ?k_Ladder_init ?e_Ladder_init ?mk ?kC ?a_Ladder_ends ?i_Ladder_ends ?l_Ladder_ends ?c_Ladder_ends ?k_Ladder_ends ?a_Ladder_carried ?i_Ladder_carried ?l_Ladder_carried ?c_Ladder_carried ?k_Ladder_carried ?a_Ladder_turned ?i_Ladder_turned ?l_Ladder_turned ?c_Ladder_turned ?k_Ladder_turned ?a_changed ?l_changed ?c_changed ?k_changed ?a_done ?l_done ?c_done ?k_done ?a__law_cell_at ?l__law_cell_at ?c__law_cell_at ?k__law_cell_at ?a__law_whole ?l__law_whole ?c__law_whole ?k__law_whole ?a__law_posts_by ?l__law_posts_by ?c__law_posts_by ?k__law_posts_by ?a__law_rungs_by ?l__law_rungs_by ?c__law_rungs_by ?k__law_rungs_by ?a__law_put_in ?l__law_put_in ?c__law_put_in ?k__law_put_in ?a__law_behind ?l__law_behind ?c__law_behind ?k__law_behind ?a__law_at_by ?l__law_at_by ?c__law_at_by ?k__law_at_by ?a__law_is ?l__law_is ?c__law_is ?k__law_is ?a__law_refused ?l__law_refused ?c__law_refused ?k__law_refused ?a_law ?l_law ?c_law ?k_law ?pg ?hd ?po ?sa ?na_posts ?na_rungs ?lc ?lg ?lt ?lm ?x_NoPost ?y1_NoPost ?y2_NoPost ?y3_NoPost ?y4_NoPost ?y5_NoPost ?y6_NoPost ?z_NoPost_LotError ?q_NoPost_ValueError ?q_NoPost_NoPost ?q_NoPost_NoRung ?q_NoPost_Unlike ?q_NoPost_NoOutcome ?q_NoPost_NoStep ?x_NoRung ?y1_NoRung ?y2_NoRung ?y3_NoRung ?y4_NoRung ?y5_NoRung ?y6_NoRung ?z_NoRung_LotError ?q_NoRung_ValueError ?q_NoRung_NoPost ?q_NoRung_NoRung ?q_NoRung_Unlike ?q_NoRung_NoOutcome ?q_NoRung_NoStep ?x_Unlike ?y1_Unlike ?y2_Unlike ?y3_Unlike ?y4_Unlike ?y5_Unlike ?y6_Unlike ?z_Unlike_LotError ?q_Unlike_ValueError ?q_Unlike_NoPost ?q_Unlike_NoRung ?q_Unlike_Unlike ?q_Unlike_NoOutcome ?q_Unlike_NoStep ?x_NoStep ?y1_NoStep ?y2_NoStep ?y3_NoStep ?y4_NoStep ?y5_NoStep ?y6_NoStep ?z_NoStep_LotError ?q_NoStep_ValueError ?q_NoStep_NoPost ?q_NoStep_NoRung ?q_NoStep_Unlike ?q_NoStep_NoOutcome ?q_NoStep_NoStep ?c1_LotError ?c2_LotError ?c3_LotError ?m_len ?m_range ?m_list ?m_tuple ?m_isinstance ?m_int ?m_bool ?m_ValueError ?m_abs ?m_max ?m_enumerate ?g_MOST_POSTS
    (case a_Ladder => k_is)
    (case a_LotError => k_is)
    (case a_NoPost => k_is)
    (case a_NoRung => k_is)
    (case a_Unlike => k_is)
    (case a_NoOutcome => k_is)
    (case a_NoStep => k_is)
    (case a_check_posts => k_is)
    (case l_check_posts => k_is)
    (case c_check_posts => k_is)
    (case k_check_posts => k_is)
    (case a_check_rungs => k_is)
    (case l_check_rungs => k_is)
    (case c_check_rungs => k_is)
    (case k_check_rungs => k_is)
    (case a_cross => k_is)
    (case l_cross => k_is)
    (case c_cross => k_is)
    (case k_cross => k_is)
    (case a_Ladder_init => k_is)
    (case i_Ladder_init => k_is)
    (case l_Ladder_init => k_is)
    (case c_Ladder_init => k_is)
    (case k_Ladder_init => k_is)
    (case e_Ladder_init => k_is)
    (case mk => k_is)
    (case kC => k_is)
    (case a_Ladder_ends => k_is)
    (case i_Ladder_ends => k_is)
    (case l_Ladder_ends => k_is)
    (case c_Ladder_ends => k_is)
    (case k_Ladder_ends => k_is)
    (case a_Ladder_carried => k_is)
    (case i_Ladder_carried => k_is)
    (case l_Ladder_carried => k_is)
    (case c_Ladder_carried => k_is)
    (case k_Ladder_carried => k_is)
    (case a_Ladder_turned => k_is)
    (case i_Ladder_turned => k_is)
    (case l_Ladder_turned => k_is)
    (case c_Ladder_turned => k_is)
    (case k_Ladder_turned => k_is)
    (case a_changed => k_is)
    (case l_changed => k_is)
    (case c_changed => k_is)
    (case k_changed => k_is)
    (case a_done => k_is)
    (case l_done => k_is)
    (case c_done => k_is)
    (case k_done => k_is)
    (case a__law_cell_at => k_is)
    (case l__law_cell_at => k_is)
    (case c__law_cell_at => k_is)
    (case k__law_cell_at => k_is)
    (case a__law_whole => k_is)
    (case l__law_whole => k_is)
    (case c__law_whole => k_is)
    (case k__law_whole => k_is)
    (case a__law_posts_by => k_is)
    (case l__law_posts_by => k_is)
    (case c__law_posts_by => k_is)
    (case k__law_posts_by => k_is)
    (case a__law_rungs_by => k_is)
    (case l__law_rungs_by => k_is)
    (case c__law_rungs_by => k_is)
    (case k__law_rungs_by => k_is)
    (case a__law_put_in => k_is)
    (case l__law_put_in => k_is)
    (case c__law_put_in => k_is)
    (case k__law_put_in => k_is)
    (case a__law_behind => k_is)
    (case l__law_behind => k_is)
    (case c__law_behind => k_is)
    (case k__law_behind => k_is)
    (case a__law_at_by => k_is)
    (case l__law_at_by => k_is)
    (case c__law_at_by => k_is)
    (case k__law_at_by => k_is)
    (case a__law_is => k_is)
    (case l__law_is => k_is)
    (case c__law_is => k_is)
    (case k__law_is => k_is)
    (case a__law_refused => k_is)
    (case l__law_refused => k_is)
    (case c__law_refused => k_is)
    (case k__law_refused => k_is)
    (case a_law => k_is)
    (case l_law => k_is)
    (case c_law => k_is)
    (case k_law => k_is)
    (case pg => k_is)
    (case hd => k_is)
    (case po => k_is)
    (case sa => k_is)
    (case na_posts => k_is)
    (case na_rungs => k_is)
    (case lc => k_is)
    (case lg => k_is)
    (case lt => k_is)
    (case lm => k_is)
    (case x_NoPost => k_exc)
    (case y1_NoPost => k_is)
    (case y2_NoPost => k_is)
    (case y3_NoPost => k_is)
    (case y4_NoPost => k_is)
    (case y5_NoPost => k_is)
    (case y6_NoPost => k_is)
    (case z_NoPost_LotError => k_is)
    (case q_NoPost_ValueError => kit_is)
    (case q_NoPost_NoPost => kit_is)
    (case q_NoPost_NoRung => kit_is)
    (case q_NoPost_Unlike => kit_is)
    (case q_NoPost_NoOutcome => kit_is)
    (case q_NoPost_NoStep => kit_is)
    (case x_NoRung => k_exc)
    (case y1_NoRung => k_is)
    (case y2_NoRung => k_is)
    (case y3_NoRung => k_is)
    (case y4_NoRung => k_is)
    (case y5_NoRung => k_is)
    (case y6_NoRung => k_is)
    (case z_NoRung_LotError => k_is)
    (case q_NoRung_ValueError => kit_is)
    (case q_NoRung_NoPost => kit_is)
    (case q_NoRung_NoRung => kit_is)
    (case q_NoRung_Unlike => kit_is)
    (case q_NoRung_NoOutcome => kit_is)
    (case q_NoRung_NoStep => kit_is)
    (case x_Unlike => k_exc)
    (case y1_Unlike => k_is)
    (case y2_Unlike => k_is)
    (case y3_Unlike => k_is)
    (case y4_Unlike => k_is)
    (case y5_Unlike => k_is)
    (case y6_Unlike => k_is)
    (case z_Unlike_LotError => k_is)
    (case q_Unlike_ValueError => kit_is)
    (case q_Unlike_NoPost => kit_is)
    (case q_Unlike_NoRung => kit_is)
    (case q_Unlike_Unlike => kit_is)
    (case q_Unlike_NoOutcome => kit_is)
    (case q_Unlike_NoStep => kit_is)
    (case x_NoStep => k_exc)
    (case y1_NoStep => k_is)
    (case y2_NoStep => k_is)
    (case y3_NoStep => k_is)
    (case y4_NoStep => k_is)
    (case y5_NoStep => k_is)
    (case y6_NoStep => k_is)
    (case z_NoStep_LotError => k_is)
    (case q_NoStep_ValueError => kit_is)
    (case q_NoStep_NoPost => kit_is)
    (case q_NoStep_NoRung => kit_is)
    (case q_NoStep_Unlike => kit_is)
    (case q_NoStep_NoOutcome => kit_is)
    (case q_NoStep_NoStep => kit_is)
    (case c1_LotError => k_is)
    (case c2_LotError => k_is)
    (case c3_LotError => k_is)
    (case m_len => k_is)
    (case m_range => k_is)
    (case m_list => k_is)
    (case m_tuple => k_is)
    (case m_isinstance => k_is)
    (case m_int => k_is)
    (case m_bool => k_is)
    (case m_ValueError => k_is)
    (case m_abs => k_is)
    (case m_max => k_is)
    (case m_enumerate => k_is)
    (case g_MOST_POSTS => k_is)
