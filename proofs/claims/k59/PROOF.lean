import PyProof.Rows.All
import Wide.All
import OpenK.AllK
import Wide.FinOn
import Lean
import PyProof.EqAt
import PyProof.EqKinds
import PyProof.TupleCall
import PySem.Challenge.RW_mustmeet_k59_rows_too_long
set_option Elab.async false
set_option linter.all false
set_option maxRecDepth 100000
/-! THE HAND LAYER, for ints, bools, texts, own classes, LISTS and tuples (index, slices, in, append, pop ..), calls, loops. Paste it whole ahead of your own text; what your proof does not reach may be deleted. -/
namespace L2
open PySem PySem.Spec PyProof.Rows

/-- a key: an int or a str -/
abbrev Key := Sum Int Str
def keyIs : Key → Value → Bool
  | .inl k, v => Value.isInt k v
  | .inr x, v => Value.isStrOf x v
def keyH (w : World) : Key → Int
  | .inl k => hashInt k
  | .inr x => hashStr w x
theorem keyIs_shape : ∀ {k : Key} {v : Value}, keyIs k v = true → (∃ i t, k = Sum.inl i ∧ v = Value.int i t) ∨ (∃ x t, k = Sum.inr x ∧ v = Value.str x t)
  | .inl i, v, h => by
    obtain ⟨t, e⟩ := Value.isInt_shape (k := i) (v := v) h
    exact .inl ⟨i, t, rfl, e⟩
  | .inr x, v, h => by
    obtain ⟨t, e⟩ := Value.isStrOf_shape (x := x) (v := v) h
    exact .inr ⟨x, t, rfl, e⟩
theorem keyIs_int (i : Int) (t : Tok) : keyIs (.inl i) (.int i t) = true := by simp [keyIs, Value.isInt]
theorem keyIs_str (x : Str) (t : Tok) : keyIs (.inr x) (.str x t) = true := by simp [keyIs, Value.isStrOf]
theorem key_ll (a b : Int) : decide ((Sum.inl a : Key) = Sum.inl b) = (a == b) := by
  by_cases e : a = b
  · subst e; simp
  · have h : ¬ (Sum.inl a : Key) = Sum.inl b := fun q => e (Sum.inl.inj q)
    rw [decide_eq_false h]
    exact (beq_eq_false_iff_ne.mpr e).symm
theorem key_rr (a b : Str) : decide ((Sum.inr a : Key) = Sum.inr b) = decide (a = b) := by
  by_cases e : a = b
  · subst e; simp
  · have h : ¬ (Sum.inr a : Key) = Sum.inr b := fun q => e (Sum.inr.inj q)
    rw [decide_eq_false h, decide_eq_false e]
theorem key_lr (a : Int) (b : Str) : decide ((Sum.inl a : Key) = Sum.inr b) = false := decide_eq_false (fun q => nomatch q)
theorem key_rl (a : Str) (b : Int) : decide ((Sum.inr a : Key) = Sum.inl b) = false := decide_eq_false (fun q => nomatch q)

def mixKind (prog : Program) (w : World) : PySem.KeyKind prog w Key where
  is := keyIs
  hash := keyH w
  inj := fun v a b ha hb => by
    rcases keyIs_shape ha with ⟨i, t, rfl, rfl⟩ | ⟨x, t, rfl, rfl⟩
    · rcases keyIs_shape hb with ⟨j, u, rfl, e⟩ | ⟨y, u, rfl, e⟩
      · injection e with e1 _; rw [e1]
      · exact nomatch e
    · rcases keyIs_shape hb with ⟨j, u, rfl, e⟩ | ⟨y, u, rfl, e⟩
      · exact nomatch e
      · injection e with e1 _; rw [e1]
  byValue := fun k v h => by
    rcases keyIs_shape h with ⟨i, t, rfl, rfl⟩ | ⟨x, t, rfl, rfl⟩ <;> rfl
  pyHash := fun hv h => by
    rcases keyIs_shape hv with ⟨i, t, rfl, rfl⟩ | ⟨x, t, rfl, rfl⟩
    · exact wpAny_pyHash_int h
    · exact wpAny_pyHash_str h
  eqBool := fun hu hv h => by
    rcases keyIs_shape hu with ⟨i, t, rfl, rfl⟩ | ⟨x, t, rfl, rfl⟩
    · rcases keyIs_shape hv with ⟨j, u, rfl, rfl⟩ | ⟨y, u, rfl, rfl⟩
      · rw [key_ll] at h; exact wpAny_eqBool_int h
      · rw [key_lr] at h; exact SeqAt.EqAt.int_str i t y u _ _ _ _ h
    · rcases keyIs_shape hv with ⟨j, u, rfl, rfl⟩ | ⟨y, u, rfl, rfl⟩
      · rw [key_rl] at h; exact SeqAt.EqAt.str_int x t j u _ _ _ _ h
      · rw [key_rr] at h; exact wpAny_eqBool_str h
  «strs» := fun k x t v h => by
    rcases keyIs_shape h with ⟨i, u, rfl, e⟩ | ⟨y, u, rfl, e⟩
    · exact nomatch e
    · injection e with e1 _
      subst e1
      cases v <;> rfl

theorem mixKind_int (prog : Program) (w : World) (i : Int) (t : Tok) : (mixKind prog w).is (.inl i) (.int i t) = true := keyIs_int i t
theorem mixKind_str (prog : Program) (w : World) (x : Str) (t : Tok) : (mixKind prog w).is (.inr x) (.str x t) = true := keyIs_str x t
end L2

namespace L2
open PySem PySem.Spec PyProof.Rows

/-- a value, without the heap -/
inductive V where
  | non | bl (b : Bool) | int (i : Int) | str (x : Str) | byt (b : Array UInt8) | flt (b : UInt64) | ref (a : Addr) | ty (n : String)
  deriving DecidableEq

def RelV : V → Value → Prop
  | .non, u => u = Value.none
  | .bl b, u => u = Value.bool b
  | .int i, u => ∃ t, u = Value.int i t
  | .str x, u => ∃ t, u = Value.str x t
  | .byt b, u => ∃ t, u = Value.bytes b t
  | .flt b, u => ∃ t, u = Value.float b t
  | .ref a, u => u = Value.ref a
  | .ty n, u => u = Value.type n

abbrev Vals : List V → List Value → Prop := Paired RelV
theorem Vals.length {xs : List V} {us : List Value} (r : Vals xs us) : xs.length = us.length := Paired.length r
theorem Vals.get : ∀ {xs : List V} {us : List Value} {i : Nat} {x : V}, Vals xs us → xs[i]? = some x → ∃ u, us[i]? = some u ∧ RelV x u
  | _, _, _, _, .nil, e => by simp at e
  | _, _, 0, _, .cons r _, e => by simp at e; subst e; exact ⟨_, rfl, r⟩
  | _, _, i + 1, x, .cons _ t, e => by
    obtain ⟨u, h1, h2⟩ := Vals.get (i := i) (x := x) t (by simpa using e)
    exact ⟨u, by simpa using h1, h2⟩
theorem Vals.set {x : V} {u : Value} (r : RelV x u) : ∀ {xs : List V} {us : List Value} (i : Nat), Vals xs us → Vals (xs.set i x) (us.set i u)
  | _, _, _, .nil => .nil
  | _, _, 0, .cons _ t => .cons r t
  | _, _, i + 1, .cons q t => .cons q (Vals.set r i t)
theorem Vals.append : ∀ {xs ys : List V} {us ws : List Value}, Vals xs us → Vals ys ws → Vals (xs ++ ys) (us ++ ws)
  | _, _, _, _, .nil, s => s
  | _, _, _, _, .cons r t, s => .cons r (Vals.append t s)
theorem Vals.take : ∀ {xs : List V} {us : List Value} (n : Nat), Vals xs us → Vals (xs.take n) (us.take n)
  | _, _, 0, _ => .nil
  | _, _, _ + 1, .nil => .nil
  | _, _, n + 1, .cons r t => .cons r (Vals.take n t)
theorem Vals.drop : ∀ {xs : List V} {us : List Value} (n : Nat), Vals xs us → Vals (xs.drop n) (us.drop n)
  | _, _, 0, r => r
  | _, _, _ + 1, .nil => .nil
  | _, _, n + 1, .cons _ t => Vals.drop n t
theorem Vals.none_of : ∀ {xs : List V} {us : List Value} {i : Nat}, Vals xs us → xs[i]? = none → us[i]? = none := fun {xs us i} r e => by
  have h1 := r.length
  have h2 : xs.length ≤ i := List.getElem?_eq_none_iff.mp e
  exact List.getElem?_eq_none_iff.mpr (by omega)

def RelO : Option V → Option Value → Prop
  | some v, some u => RelV v u
  | none, none => True
  | _, _ => False
def KV {κ : Type} : List (κ × V) → List (κ × Value) → Prop := Paired fun (p : κ × V) (q : κ × Value) => p.1 = q.1 ∧ RelV p.2 q.2

/-- a key of a dict (00_mix): an int or a text -/
def kV : Key → V
  | .inl i => .int i
  | .inr x => .str x

/-- what stands at a tracked address -/
inductive HO where
  /-- a list -/
  | lst (xs : List V)
  /-- a tuple (never changes) -/
  | tup (xs : List V)
  /-- a dict whose keys are ints and texts; one whose keys are tuples of ints and texts (the empty one is both) -/
  | dK (kvs : List (Key × V)) | dT (kvs : List (List Key × V))
  /-- a set of ints: its members, its size -/
  | set (S : Int → Bool) (n : Nat)
  /-- an instance of the class at C, its dict at dx, its attributes -/
  | ins (C dx : Addr) (fs : List (Str × V))
  /-- the dict of the instance at x -/
  | own (x : Addr)
  /-- the dict of an exception -/
  | xd (fs : List (Str × V))
  /-- a bound method, f of x -/
  | met (f x : Addr)
  /-- a range object lo, lo + 1, .. below hi -/
  | rng (lo hi : Int)
  /-- a thing that is known to the object (the script; a dict while a loop walks it): read, never written while it is so -/
  | frz (o : Obj) (u : HO)
  /-- a code object's table -/
  | tbl (ps : Array Value)
  /-- any other thing, by what is true of its one object (a def of one's own: SetO a S n := HO.ext fun h => ..) -/
  | ext (φ : Heap → Prop)

abbrev Hp := Addr → Option HO
def upd (H : Hp) (a : Addr) (o : HO) : Hp := fun b => if b = a then some o else H b
theorem upd_same {H : Hp} {a : Addr} {o : HO} : upd H a o a = some o := by unfold upd; rw [if_pos rfl]
theorem upd_ne {H : Hp} {a b : Addr} {o : HO} (h : b ≠ a) : upd H a o b = H b := by unfold upd; rw [if_neg h]
/-- two objects of different content stand apart -/
theorem ne_of {H : Hp} {a b : Addr} {o u : HO} (h : H a = some o) (h' : H b = some u) (d : o ≠ u) : a ≠ b := by
  intro e; subst e; rw [h] at h'; exact d (Option.some.inj h')
theorem ne_of_none {H : Hp} {a b : Addr} {o : HO} (h : H a = some o) (h' : H b = none) : a ≠ b := by
  intro e; subst e; rw [h] at h'; cases h'

section
variable (P : Program) (w : World)
def ObjOk (H : Hp) (h : Heap) (a : Addr) : HO → Prop
  | .lst xs => xs.length ≤ sizeLine ∧ ∃ (its : List Value) (n : Nat), Vals xs its ∧ h.get? a = some { cls := .type "list", data := .seq its.toArray n }
  | .tup xs => xs.length ≤ sizeLine ∧ ∃ its : List Value, Vals xs its ∧ IsTup h a its.toArray
  | .dK kvs => kvs.length ≤ sizeLine ∧ (a == sysModules) = false ∧ ∃ vs, KV kvs vs ∧ h.DictOf (mixKind P w) a vs
  | .dT kvs => kvs.length ≤ sizeLine ∧ (a == sysModules) = false ∧ ∃ xs : List (List Key × Addr × Value),
      Paired (fun (p : List Key × V) (q : List Key × Addr × Value) => p.1 = q.1 ∧ H q.2.1 = some (.tup (p.1.map kV)) ∧ RelV p.2 q.2.2) kvs xs ∧
      ∃ o es ep, h.get? a = some o ∧ o.ExactDict ∧ o.data = .dict es ep ∧ es.toList = xs.map (entryOfKey (tupleKind (mixKind P w))) ∧ (xs.map (·.1)).Nodup
  | .set S n => h.SetOf (intKind P w) a S n
  | .ins C dx fs => H dx = some (.own a) ∧ fs.length ≤ 1000 ∧ dx ≠ a ∧ h.get? a = some (PySem.W.instObj C dx) ∧
      ∃ mA, h.Ns1 dx mA ∧ (∀ f, RelO (fs.lookup f) (mA f)) ∧ PySem.Within mA (fs.map (·.1))
  | .own _ => ∃ o, h.get? a = some o
  | .xd fs => ∃ mA, h.Ns1 a mA ∧ ∀ f, RelO (fs.lookup f) (mA f)
  | .rng lo hi => ∃ t u v, h.get? a = some { cls := .type "range", data := .fields #[.int lo t, .int hi u, .int 1 v] }
  | .frz o u => h.get? a = some o ∧ ObjOk H h a u
  | .tbl ps => h.get? a = some { cls := .none, data := .fields ps }
  | .met f x => h.get? a = some (PySem.W.methodObj (.ref f) (.ref x))
  | .ext φ => φ h ∧ (∃ o, h.get? a = some o) ∧ ∀ h1 h2 : Heap, φ h1 → (∀ o, h1.get? a = some o → h2.get? a = some o) → φ h2
/-- the abstract heap is held -/
def HOk (H : Hp) (h : Heap) : Prop := ∀ a o, H a = some o → ObjOk P w H h a o
end

section
variable {P : Program} {w : World} {H H' : Hp} {h h' : Heap} {a : Addr} {o : HO}
theorem ObjOk.lt (x : ObjOk P w H h a o) : a < h.objs.size := by
  cases o with
  | lst xs => obtain ⟨_, _, _, _, e⟩ := x; exact Heap.lt_size e
  | tup xs => obtain ⟨_, _, _, p⟩ := x; exact p.lt
  | dK kvs => obtain ⟨_, _, _, _, o, _, _, e, _⟩ := x; exact Heap.lt_size e
  | dT kvs => obtain ⟨_, _, _, _, o, _, _, e, _⟩ := x; exact Heap.lt_size e
  | set S n => obtain ⟨o, _, _, _, e, _⟩ := x; exact Heap.lt_size e
  | ins C dx fs => obtain ⟨_, _, _, e, _⟩ := x; exact Heap.lt_size e
  | own y => obtain ⟨_, e⟩ := x; exact Heap.lt_size e
  | xd fs => obtain ⟨_, ⟨_, _, _, e, _⟩, _⟩ := x; exact Heap.lt_size e
  | rng lo hi => obtain ⟨_, _, _, e⟩ := x; exact Heap.lt_size e
  | frz ob u => obtain ⟨e, _⟩ := x; exact Heap.lt_size e
  | tbl ps => exact Heap.lt_size (show h.get? a = some _ from x)
  | met f y => exact Heap.lt_size (show h.get? a = some _ from x)
  | ext φ => obtain ⟨_, ⟨_, e⟩, _⟩ := x; exact Heap.lt_size e
theorem Paired.mapP {α β : Type} {F G : α → β → Prop} : ∀ {l₁ : List α} {l₂ : List β}, Paired F l₁ l₂ → (∀ a b, F a b → G a b) → Paired G l₁ l₂
  | _, _, .nil, _ => .nil
  | _, _, .cons r t, f => .cons (f _ _ r) (Paired.mapP t f)
/-- what an object's description leans on: its own object, its own dict, the tuples -/
theorem ObjOk.stay (x : ObjOk P w H h a o) (k : ∀ b u, (b = a ∨ H b = some (.own a)) → h.get? b = some u → h'.get? b = some u)
    (ho : ∀ b, H b = some (.own a) → H' b = some (.own a)) (ht : ∀ b xs, H b = some (.tup xs) → H' b = some (.tup xs)) : ObjOk P w H' h' a o := by
  induction o with
  | lst xs => obtain ⟨z, its, n, r, e⟩ := x; exact ⟨z, its, n, r, k _ _ (.inl rfl) e⟩
  | tup xs => obtain ⟨z, its, r, ob, e, c⟩ := x; exact ⟨z, its, r, ob, k _ _ (.inl rfl) e, c⟩
  | dK kvs => obtain ⟨z, y, vs, r, ob, es, ep, e, c⟩ := x; exact ⟨z, y, vs, r, ob, es, ep, k _ _ (.inl rfl) e, c⟩
  | dT kvs =>
    obtain ⟨z, y, xs, r, ob, es, ep, e, c⟩ := x
    exact ⟨z, y, xs, Paired.mapP r fun p q z => ⟨z.1, ht _ _ z.2.1, z.2.2⟩, ob, es, ep, k _ _ (.inl rfl) e, c⟩
  | set S n => obtain ⟨ob, es, ep, t, e, c⟩ := x; exact ⟨ob, es, ep, t, k _ _ (.inl rfl) e, c⟩
  | ins C dx fs =>
    obtain ⟨d, z, ne, e, mA, ⟨od, es, ep, e2, c⟩, r⟩ := x
    exact ⟨ho _ d, z, ne, k _ _ (.inl rfl) e, mA, ⟨od, es, ep, k _ _ (.inr d) e2, c⟩, r⟩
  | own y => obtain ⟨ob, e⟩ := x; exact ⟨ob, k _ _ (.inl rfl) e⟩
  | xd fs => obtain ⟨mA, ⟨od, es, ep, e, c⟩, r⟩ := x; exact ⟨mA, ⟨od, es, ep, k _ _ (.inl rfl) e, c⟩, r⟩
  | rng lo hi => obtain ⟨t, u, v, e⟩ := x; exact ⟨t, u, v, k _ _ (.inl rfl) e⟩
  | frz ob u ih => obtain ⟨e, q⟩ := x; exact ⟨k _ _ (.inl rfl) e, ih q⟩
  | tbl ps =>
    have e : h.get? a = some { cls := .none, data := .fields ps } := x
    show h'.get? a = some { cls := .none, data := .fields ps }
    exact k a _ (.inl rfl) e
  | met f y =>
    have e : h.get? a = some (PySem.W.methodObj (.ref f) (.ref y)) := x
    show h'.get? a = some (PySem.W.methodObj (.ref f) (.ref y))
    exact k a _ (.inl rfl) e
  | ext φ => obtain ⟨p, ⟨o, e⟩, st⟩ := x; exact ⟨st _ _ p fun o q => k _ _ (.inl rfl) q, ⟨o, k _ _ (.inl rfl) e⟩, st⟩
theorem HOk.lt (x : HOk P w H h) (e : H a = some o) : a < h.objs.size := (x a o e).lt
theorem HOk.fresh (x : HOk P w H h) (e : h.objs.size ≤ a) : H a = none := by
  cases q : H a with
  | none => rfl
  | some u => exact absurd (Nat.lt_of_lt_of_le (x.lt q) e) (Nat.lt_irrefl _)
/-- every object of the heap is kept -/
theorem HOk.kept (x : HOk P w H h) (k : ∀ b u, h.get? b = some u → h'.get? b = some u) : HOk P w H h' := fun a o e =>
  (x a o e).stay (fun b u _ q => k b u q) (fun _ q => q) fun _ _ q => q
/-- a new object is laid and tracked -/
theorem HOk.laid (x : HOk P w H h) (k : ∀ b u, h.get? b = some u → h'.get? b = some u) (hp : h.objs.size ≤ a) (new : ObjOk P w (upd H a o) h' a o) : HOk P w (upd H a o) h' := fun b u e => by
  have hn := x.fresh hp
  by_cases hb : b = a
  · subst hb; rw [upd_same] at e; cases e; exact new
  · rw [upd_ne hb] at e
    exact (x b u e).stay (fun c v _ q => k c v q) (fun c q => by rw [upd_ne (ne_of_none q hn)]; exact q) fun c xs q => by rw [upd_ne (ne_of_none q hn)]; exact q
end

/-- what may be read as u: it is u, or a known u -/
def Rd (H : Hp) (a : Addr) (u : HO) : Prop := H a = some u ∨ ∃ o, H a = some (.frz o u)
theorem Rd.of {H : Hp} {a : Addr} {u : HO} (h : H a = some u) : Rd H a u := .inl h
theorem Rd.ok {P : Program} {w : World} {H : Hp} {h : Heap} {a : Addr} {u : HO} (r : Rd H a u) (x : HOk P w H h) : ObjOk P w H h a u := by
  rcases r with r | ⟨o, r⟩
  · exact x a u r
  · obtain ⟨_, q⟩ := x a _ r
    exact q
/-- what may be written -/
def Mut : Option HO → Prop
  | some (.lst _) => True
  | some (.dK _) => True
  | some (.dT _) => True
  | some (.set _ _) => True
  | some (.ins _ _ _) => True
  | some (.ext _) => True
  | _ => False
section
variable {P : Program} {w : World} {H : Hp} {h h' : Heap} {x e : Addr} {o' : HO}
/-- the object at e is changed: x itself, or the dict of the instance x -/
theorem HOk.write (ok : HOk P w H h) (mu : Mut (H x)) (he : e = x ∨ H e = some (.own x)) (k : ∀ b u, b ≠ e → h.get? b = some u → h'.get? b = some u) (heo : ∃ u, h'.get? e = some u)
    (new : ObjOk P w (upd H x o') h' x o') : HOk P w (upd H x o') h' := fun b u q => by
  have nown : ∀ c y, H c = some (.own y) → c ≠ x := fun c y r z => by subst z; rw [r] at mu; exact mu
  have ntup : ∀ c xs, H c = some (.tup xs) → c ≠ x := fun c xs r z => by subst z; rw [r] at mu; exact mu
  by_cases hb : b = x
  · subst hb; rw [upd_same] at q; cases q; exact new
  · rw [upd_ne hb] at q
    by_cases hbe : b = e
    · have q' : H b = some (.own x) := by
        rcases he with z | z
        · exact absurd (hbe.trans z) hb
        · rw [hbe]; exact z
      rw [q] at q'; cases q'
      obtain ⟨v, hv⟩ := heo
      exact ⟨v, by rw [hbe]; exact hv⟩
    · refine (ok b u q).stay (fun c v hc r => k c v ?_ r) (fun c r => by rw [upd_ne (nown c b r)]; exact r) fun c xs r => by rw [upd_ne (ntup c xs r)]; exact r
      rcases hc with rfl | hc
      · exact hbe
      · rintro rfl
        rcases he with z | z
        · exact nown c b hc z
        · rw [hc] at z; cases z; exact hb rfl
end

/-! ### kept unless tracked; of the frames at fs (the callers') the slots may change (an exception that passes writes there); of the records at ex (iterators) nothing is said -/
structure Un (fs ex : List Addr) (H H' : Hp) (h h' : Heap) : Prop where
  keep : ∀ b o, h.get? b = some o → H b = none → b ∉ fs → b ∉ ex → h'.get? b = some o
  slot : ∀ b o, h.get? b = some o → H b = none → b ∈ fs → b ∉ ex → ∃ sl, h'.get? b = some { o with slots := sl }
  free : ∀ b o, h.get? b = some o → H b = none → b ∉ ex → H' b = none
  there : ∀ b o, h.get? b = some o → b ∉ ex → ∃ o', h'.get? b = some o'
  tups : ∀ b xs, H b = some (.tup xs) → H' b = some (.tup xs)
  frzs : ∀ b o u, H b = some (.frz o u) → H' b = some (.frz o u)
  tbls : ∀ b ps, H b = some (.tbl ps) → ∃ more, H' b = some (.tbl (ps ++ more))
section
variable {fs fs' ex ex' : List Addr} {H H1 H2 : Hp} {h h1 h2 h' : Heap} {a x e : Addr} {o : HO}
theorem Un.any (u : Un fs ex H H1 h h1) {b : Addr} {ob : Obj} (q : h.get? b = some ob) (n : H b = none) (hx : b ∉ ex) : ∃ sl, h1.get? b = some { ob with slots := sl } := by
  by_cases hb : b ∈ fs
  · exact u.slot b ob q n hb hx
  · exact ⟨ob.slots, u.keep b ob q n hb hx⟩
theorem Un.trans (a : Un fs ex H H1 h h1) (b : Un fs ex H1 H2 h1 h2) : Un fs ex H H2 h h2 where
  keep := fun c ob q n hc hx => b.keep c ob (a.keep c ob q n hc hx) (a.free c ob q n hx) hc hx
  slot := fun c ob q n hc hx => by
    obtain ⟨sl, e1⟩ := a.slot c ob q n hc hx
    obtain ⟨sl', e2⟩ := b.slot c _ e1 (a.free c ob q n hx) hc hx
    exact ⟨sl', e2⟩
  free := fun c ob q n hx => by
    obtain ⟨o', e1⟩ := a.there c ob q hx
    exact b.free c o' e1 (a.free c ob q n hx) hx
  there := fun c ob q hx => by
    obtain ⟨o', e1⟩ := a.there c ob q hx
    exact b.there c o' e1 hx
  tups := fun c xs q => b.tups c xs (a.tups c xs q)
  frzs := fun c ob xs q => b.frzs c ob xs (a.frzs c ob xs q)
  tbls := fun c ps q => by
    obtain ⟨m1, e1⟩ := a.tbls c ps q
    obtain ⟨m2, e2⟩ := b.tbls c _ e1
    exact ⟨m1 ++ m2, by rw [e2, Array.append_assoc]⟩
theorem Un.kept (k : ∀ b u, h.get? b = some u → h'.get? b = some u) : Un fs ex H H h h' :=
  ⟨fun b ob q _ _ _ => k b ob q, fun b ob q _ _ _ => ⟨ob.slots, k b ob q⟩, fun _ _ _ n _ => n, fun b ob q _ => ⟨ob, k b ob q⟩, fun _ _ q => q, fun _ _ _ q => q, fun _ ps q => ⟨#[], by rw [q]; simp⟩⟩
theorem Un.refl : Un fs ex H H h h := Un.kept fun _ _ q => q
theorem Un.laid (k : ∀ b u, h.get? b = some u → h'.get? b = some u) (hp : h.objs.size ≤ a) (hn : H a = none) : Un fs ex H (upd H a o) h h' where
  keep := fun b u q _ _ _ => k b u q
  slot := fun b u q _ _ _ => ⟨u.slots, k b u q⟩
  free := fun b u q n _ => by rw [upd_ne (Nat.ne_of_lt (Nat.lt_of_lt_of_le (Heap.lt_size q) hp))]; exact n
  there := fun b u q _ => ⟨u, k b u q⟩
  tups := fun b xs q => by rw [upd_ne (ne_of_none q hn)]; exact q
  frzs := fun b u xs q => by rw [upd_ne (ne_of_none q hn)]; exact q
  tbls := fun b ps q => ⟨#[], by rw [upd_ne (ne_of_none q hn), q]; simp⟩
theorem Un.write (mu : Mut (H x)) (he : e = x ∨ H e = some (.own x)) (k : ∀ b u, b ≠ e → h.get? b = some u → h'.get? b = some u) (heo : ∃ u, h'.get? e = some u) : Un fs ex H (upd H x o) h h' := by
  have hx : ∀ b, H b = none → b ≠ x := fun b n z => by subst z; rw [n] at mu; exact mu
  have hb : ∀ b, H b = none → b ≠ e := fun b n z => by
    subst z
    rcases he with r | r
    · exact hx b n r
    · rw [n] at r; cases r
  have hm : ∀ b u, H b = some u → ¬ Mut (some u) → b ≠ x := fun b u q nm z => by subst z; rw [q] at mu; exact nm mu
  refine ⟨fun b u q n _ _ => k b u (hb b n) q, fun b u q n _ _ => ⟨u.slots, k b u (hb b n) q⟩, fun b u q n _ => by rw [upd_ne (hx b n)]; exact n, fun b u q _ => ?_,
    fun b xs q => by rw [upd_ne (hm b _ q fun z => z)]; exact q, fun b u xs q => by rw [upd_ne (hm b _ q fun z => z)]; exact q, fun b ps q => ⟨#[], by rw [upd_ne (hm b _ q fun z => z), q]; simp⟩⟩
  by_cases hbe : b = e
  · subst hbe; exact heo
  · exact ⟨u, k b u hbe q⟩
theorem Un.mono (u : Un fs ex H H1 h h1) (hs : ∀ b ∈ fs, b ∈ fs') (hx : ∀ b ∈ ex, b ∈ ex') : Un fs' ex' H H1 h h1 :=
  ⟨fun b ob q n hb he => u.keep b ob q n (fun z => hb (hs b z)) fun z => he (hx b z), fun _ _ q n _ he => u.any q n fun z => he (hx _ z), fun b ob q n he => u.free b ob q n fun z => he (hx b z), fun b ob q he => u.there b ob q fun z => he (hx b z), u.tups, u.frzs, u.tbls⟩
end

/-! ### the heap without what is tracked -/
def trk (h : Heap) (H : Hp) : List Addr := (List.range h.objs.size).filter fun a => (H a).isSome
def hidT (h : Heap) (H : Hp) : Heap := PySem.W.hideAll h (trk h H)
theorem hidT_size (h : Heap) (H : Hp) : (hidT h H).objs.size = h.objs.size := PySem.W.hideAll_size _ _
theorem hidT_get {h : Heap} {H : Hp} {b : Addr} {o : Obj} (e : h.get? b = some o) (n : H b = none) : (hidT h H).get? b = some o :=
  PySem.W.hideAll_get _ e fun hm => by
    have q : (H b).isSome = true := (List.mem_filter.mp hm).2
    rw [n] at q; simp at q
theorem of_hidT {h : Heap} {H : Hp} {b : Addr} {o : Obj} (e : (hidT h H).get? b = some o) : h.get? b = some o ∧ H b = none := by
  have e' : h.get? b = some o := PySem.W.of_hideAll (trk h H) e
  refine ⟨e', ?_⟩
  cases q : H b with
  | none => rfl
  | some x =>
    have hm : b ∈ trk h H := List.mem_filter.mpr ⟨List.mem_range.mpr (Heap.lt_size e'), by simp [q]⟩
    have z : (hidT h H).get? b = none := PySem.W.hideAll_none (trk h H) hm
    rw [z] at e; cases e

/-! ### OpenK's ledger, filled with every new object but one -/
def allNews (g h : Heap) (L : Addr) : List (Addr × Obj) := (List.range h.objs.size).filterMap fun a => if a = L ∨ (g.get? a).isSome = true then none else (h.get? a).map fun o => (a, o)
def rest (g h : Heap) (L d : Addr) : List (Addr × Obj) := (allNews g h L).filter fun p => decide (p.1 ≠ d)
end L2

namespace L2
open PySem PySem.Spec PyProof.Rows

/-- the module's facts, over the base: the heap at the law's entry without what is tracked there -/
structure Mod (K : PySem.W.Frag) (mg : Str → Option Value) (base : Heap) : Prop where
  kin : K.In base
  glob : base.Ns mainGlobals mg
  blt : ∃ mb, base.Ns builtinsNs mb ∧ ∀ x : Str, x ≠ "__name__" → mb x = bootBuiltins x
  nolimit : base.NoLimit

/-- the context: a def's body (or a comprehension's block) running. base: fixed through the whole law; s₀, H₀: the entry; outer: the frames whose slots others may change (a def's callers); stack: all frames that run;
   ex: iterators that were made ahead of the entry and are walked here (a comprehension's); fn: the names whose cells were made at the entry (a def: all; a comprehension's block: its own); calm: not within an except suite; pn: pins that every state bears; xe: what is wanted of an exception that leaves the code -/
structure Cx where
  prog : Program
  w : World
  K : PySem.W.Frag
  mg : Str → Option Value
  base : Heap
  A : Around
  N : List Str
  s₀ : Shared
  H₀ : Hp
  env : Env
  outer : List Env
  stack : List Env
  ex : List Addr
  fn : Str → Bool
  calm : Bool
  pn : List (Addr × Obj)
  xe : Value → Shared → Prop
/-- the callers' frames -/
def frs (l : List Env) : List Addr := l.filterMap (·.frame)
abbrev Cx.fs (X : Cx) : List Addr := frs X.outer

def Vis (sc : Scope) (x : Str) : Prop := sc.names.lookup x = some .local ∨ sc.names.lookup x = some .cell ∨ sc.names.lookup x = some .free
def Loc (sc : Scope) (x : Str) : Prop := sc.names.lookup x = some .local ∨ sc.names.lookup x = some .cell
def Look (env : Env) (h : Heap) (m : Str → Option Value) (x : Str) (u : Value) : Prop :=
  (env.kindOf x = some .local ∧ m x = some u) ∨ ((env.kindOf x = some .cell ∨ env.kindOf x = some .free) ∧ ∃ c, env.cells.lookup x = some c ∧ h.IsCell c (some u))

structure Cx.Ok (X : Cx) : Prop where
  mod : Mod X.K X.mg X.base
  kind : X.env.scope.kind = .function
  glob : X.env.globals = mainGlobals
  blt : X.env.builtins = builtinsNs
  above : X.s₀.heap.objs.size ≤ X.env.locals
  inj : ∀ x y c, X.env.cells.lookup x = some c → X.env.cells.lookup y = some c → x = y
  has : ∀ x, (X.env.kindOf x = some .cell ∨ X.env.kindOf x = some .free) → ∃ c, X.env.cells.lookup x = some c
  cab : ∀ x c, X.fn x = true → X.env.cells.lookup x = some c → X.s₀.heap.objs.size ≤ c
  hd : X.calm = true → X.A.handled = none
  frames : X.A.frames = some X.stack
  stk : X.stack = X.outer ∨ (X.stack = X.env :: X.outer ∧ X.env.frame = some X.env.locals)
  exf : ∀ b ∈ X.ex, b ≠ X.env.locals ∧ ∀ x c, X.env.cells.lookup x = some c → c ≠ b
  bs : ∀ b o, X.base.get? b = some o → X.s₀.heap.get? b = some o ∧ X.H₀ b = none
  bsz : X.base.objs.size ≤ X.s₀.heap.objs.size
  noex : ∀ b o, X.base.get? b = some o → b ∉ X.ex
  exfs : ∀ b ∈ X.ex, b ∉ X.fs
  funs : X.s₀.heap.FunFrames X.base X.outer
  frf : ∀ b ∈ X.fs, X.H₀ b = none

structure Inv (X : Cx) (pins : List (Addr × Obj)) (σ : List (Option V)) (H : Hp) (s : Shared) : Prop where
  ok : X.Ok
  os : s.os = X.s₀.os
  bare : AllBare s.gens
  base : Un X.fs X.ex X.H₀ H X.s₀.heap s.heap
  loc : ∃ m, s.heap.Ns X.env.locals m ∧ ∀ (i : Nat) (x : Str) (v : V), X.N[i]? = some x → σ[i]? = some (some v) → Vis X.env.scope x → ∃ u, RelV v u ∧ Look X.env s.heap m x u
  cell : ∀ x c, X.env.cells.lookup x = some c → ∃ v, s.heap.IsCell c v
  free : H X.env.locals = none
  freeC : ∀ x c, X.env.cells.lookup x = some c → H c = none
  pin : ∀ p ∈ X.pn ++ pins, s.heap.get? p.1 = some p.2 ∧ H p.1 = none ∧ p.1 ≠ X.env.locals ∧ p.1 ∉ X.fs ∧ ∀ v, p.2.data ≠ .cell v
  hok : HOk X.prog X.w H s.heap
  len : σ.length = X.N.length

section
variable {X : Cx} {pins : List (Addr × Obj)} {σ : List (Option V)} {H H' : Hp} {s : Shared} {h' : Heap}

theorem Cx.Ok.nofr (ok : X.Ok) {b : Addr} {o : Obj} (e : X.base.get? b = some o) : b ∉ X.fs := fun hb => by
  have := (ok.funs.mem hb).1
  rw [e] at this; cases this
theorem Inv.bs (I : Inv X pins σ H s) : ∀ b o, X.base.get? b = some o → s.heap.get? b = some o ∧ H b = none := fun b o e =>
  ⟨I.base.keep b o (I.ok.bs b o e).1 (I.ok.bs b o e).2 (I.ok.nofr e) (I.ok.noex b o e), I.base.free b o (I.ok.bs b o e).1 (I.ok.bs b o e).2 (I.ok.noex b o e)⟩
theorem Inv.bk (I : Inv X pins σ H s) : ∀ b o, X.base.get? b = some o → s.heap.get? b = some o := fun b o e => (I.bs b o e).1
theorem Inv.mod (I : Inv X pins σ H s) : Mod X.K X.mg X.base := I.ok.mod
theorem Inv.kIn (I : Inv X pins σ H s) : X.K.In s.heap := I.ok.mod.kin.keeps I.bk
theorem Inv.nolimit (I : Inv X pins σ H s) : s.heap.NoLimit := I.ok.mod.nolimit.keeps I.bk
/-- the frame over the base: for OpenK's rules (K.In X.base is I.mod.kin) -/
theorem Inv.fr (I : Inv X pins σ H s) : ∃ m, Fr X.base X.env.locals s.heap m :=
  let ⟨m, hn, _⟩ := I.loc
  ⟨m, hn, I.bk, Nat.le_trans I.ok.bsz I.ok.above⟩
theorem Inv.lt (I : Inv X pins σ H s) : X.env.locals < s.heap.objs.size := let ⟨_, hn, _⟩ := I.loc; hn.lt
theorem Inv.sz (I : Inv X pins σ H s) : X.s₀.heap.objs.size ≤ s.heap.objs.size := Nat.le_trans I.ok.above (Nat.le_of_lt I.lt)
theorem Inv.nofs (I : Inv X pins σ H s) {a : Addr} (h : s.heap.objs.size ≤ a) : a ∉ X.fs := fun hb => by
  obtain ⟨_, o, ho, _⟩ := I.ok.funs.mem hb
  exact absurd (Nat.lt_of_lt_of_le (Heap.lt_size ho) (Nat.le_trans I.sz h)) (Nat.lt_irrefl _)
theorem Inv.cne (I : Inv X pins σ H s) : ∀ x c, X.env.cells.lookup x = some c → c ≠ X.env.locals := fun x c e z => by
  obtain ⟨v, o, ho, hd⟩ := I.cell x c e
  obtain ⟨m, ⟨o', es, ep, ho', hd', _⟩, _⟩ := I.loc
  rw [z, ho'] at ho; cases ho; rw [hd'] at hd; cases hd
theorem Inv.funs (I : Inv X pins σ H s) : s.heap.FunFrames X.base X.outer := by
  have all : ∀ (l : List Env), (∀ b ∈ frs l, b ∈ X.fs) → X.s₀.heap.FunFrames X.base l → s.heap.FunFrames X.base l := by
    intro l
    induction l with
    | nil => intro _ _; trivial
    | cons env r ih =>
      intro hs hl
      obtain ⟨hk, ⟨L, o, hf, hn, ho, hd⟩, hr⟩ := hl
      have hL : L ∈ X.fs := hs L (by unfold frs; rw [List.filterMap_cons, hf]; exact List.mem_cons_self)
      obtain ⟨sl, e⟩ := I.base.slot L o ho (I.ok.frf L hL) hL fun z => I.ok.exfs L z hL
      exact ⟨hk, ⟨L, _, hf, hn, e, hd⟩, ih (fun b hb => hs b (by unfold frs; rw [List.filterMap_cons, hf]; exact List.mem_cons_of_mem _ hb)) hr⟩
  exact all X.outer (fun _ hb => hb) I.ok.funs

/-- the frames that run, for a call -/
theorem Inv.stack (I : Inv X pins σ H s) : s.heap.FunFrames X.base X.stack := by
  rcases I.ok.stk with e | ⟨e, hf⟩
  · rw [e]; exact I.funs
  · rw [e]
    obtain ⟨m, hn, _⟩ := I.loc
    refine .cons (by rw [I.ok.kind]; decide) hf hn ?_ I.funs
    exact Heap.get?_none_of_le (Nat.le_trans I.ok.bsz I.ok.above)
theorem Inv.stkSub (I : Inv X pins σ H s) : ∀ b ∈ frs X.stack, b ∈ X.env.locals :: X.fs := fun b hb => by
  rcases I.ok.stk with e | ⟨e, hf⟩
  · rw [e] at hb; exact List.mem_cons_of_mem _ hb
  · rw [e] at hb
    unfold frs at hb
    rw [List.filterMap_cons, hf] at hb
    exact hb
theorem Inv.stkFree (I : Inv X pins σ H s) : ∀ b ∈ frs X.stack, H b = none := fun b hb => by
  rcases List.mem_cons.mp (I.stkSub b hb) with e | hb
  · rw [e]; exact I.free
  · obtain ⟨_, o, ho, _⟩ := I.ok.funs.mem hb
    exact I.base.free b o ho (I.ok.frf b hb) fun z => I.ok.exfs b z hb

/-- THE STEP: the untracked objects but the frame and the records at ch are kept (the callers' frames up to slots), the frame's map is kept, the new abstract heap is held -/
theorem Inv.step {g' : Array GenState} {t' : Nat} {d' : Drawn} {ch : List Addr} (I : Inv X pins σ H s)
    (hch : ∀ b ∈ ch, (b ∈ X.ex ∨ X.s₀.heap.objs.size ≤ b) ∧ b ≠ X.env.locals ∧ (∀ x c, X.env.cells.lookup x = some c → c ≠ b) ∧ ∀ p ∈ X.pn ++ pins, p.1 ≠ b)
    (keep : ∀ b o, b ≠ X.env.locals → b ∉ X.fs → b ∉ ch → s.heap.get? b = some o → H b = none → h'.get? b = some o)
    (slot : ∀ b o, b ≠ X.env.locals → b ∈ X.fs → b ∉ ch → s.heap.get? b = some o → H b = none → ∃ sl, h'.get? b = some { o with slots := sl }) (free : ∀ b o, b ∉ ch → s.heap.get? b = some o → H b = none → H' b = none)
    (there : ∀ b o, b ∉ ch → s.heap.get? b = some o → ∃ o', h'.get? b = some o')
    (tups : ∀ b xs, H b = some (.tup xs) → H' b = some (.tup xs)) (frzs : ∀ b o u, H b = some (.frz o u) → H' b = some (.frz o u)) (tbls : ∀ b ps, H b = some (.tbl ps) → ∃ more, H' b = some (.tbl (ps ++ more)))
    (ns : ∀ m, s.heap.Ns X.env.locals m → h'.Ns X.env.locals m) (hok : HOk X.prog X.w H' h') (hg : AllBare g') :
    Inv X pins σ H' { s with heap := h', gens := g', drawn := d', toks := t' } := by
  have neL : ∀ b o, X.s₀.heap.get? b = some o → b ≠ X.env.locals := fun b o e => Nat.ne_of_lt (Nat.lt_of_lt_of_le (Heap.lt_size e) I.ok.above)
  have neC : ∀ b o, X.s₀.heap.get? b = some o → b ∉ X.ex → b ∉ ch := fun b o e hx hb => by
    rcases (hch b hb).1 with z | z
    · exact hx z
    · exact absurd (Nat.lt_of_lt_of_le (Heap.lt_size e) z) (Nat.lt_irrefl _)
  have cellK : ∀ x c, X.env.cells.lookup x = some c → ∀ v, s.heap.IsCell c v → h'.IsCell c v := fun x c e v ⟨o, ho, hd⟩ => by
    have nch : c ∉ ch := fun z => (hch c z).2.2.1 x c e rfl
    by_cases hc : c ∈ X.fs
    · obtain ⟨sl, q⟩ := slot c o (I.cne x c e) hc nch ho (I.freeC x c e)
      exact ⟨_, q, hd⟩
    · exact ⟨o, keep c o (I.cne x c e) hc nch ho (I.freeC x c e), hd⟩
  refine ⟨I.ok, I.os, hg, ⟨fun b o e n hb hx => ?_, fun b o e n hb hx => ?_, fun b o e n hx => ?_, fun b o e hx => ?_, fun b xs e => tups b xs (I.base.tups b xs e), fun b o xs e => frzs b o xs (I.base.frzs b o xs e), fun b ps e => ?_⟩, ?_, fun x c e => ?_, ?_, fun x c e => ?_, fun p hp => ?_, hok, I.len⟩
  · exact keep b o (neL b o e) hb (neC b o e hx) (I.base.keep b o e n hb hx) (I.base.free b o e n hx)
  · obtain ⟨sl, e1⟩ := I.base.slot b o e n hb hx
    obtain ⟨sl', e2⟩ := slot b _ (neL b o e) hb (neC b o e hx) e1 (I.base.free b o e n hx)
    exact ⟨sl', e2⟩
  · obtain ⟨o', e1⟩ := I.base.there b o e hx
    exact free b o' (neC b o e hx) e1 (I.base.free b o e n hx)
  · obtain ⟨o', e1⟩ := I.base.there b o e hx
    exact there b o' (neC b o e hx) e1
  · obtain ⟨m1, e1⟩ := I.base.tbls b ps e
    obtain ⟨m2, e2⟩ := tbls b _ e1
    exact ⟨m1 ++ m2, by rw [e2, Array.append_assoc]⟩
  · obtain ⟨m, hn, hl⟩ := I.loc
    refine ⟨m, ns m hn, fun i x v e1 e2 e3 => ?_⟩
    obtain ⟨u, r, l⟩ := hl i x v e1 e2 e3
    refine ⟨u, r, ?_⟩
    rcases l with l | ⟨k, c, e, z⟩
    · exact .inl l
    · exact .inr ⟨k, c, e, cellK x c e _ z⟩
  · obtain ⟨v, z⟩ := I.cell x c e
    exact ⟨v, cellK x c e v z⟩
  · obtain ⟨m, ⟨o, _, _, ho, _⟩, _⟩ := I.loc
    exact free _ o (fun z => (hch _ z).2.1 rfl) ho I.free
  · obtain ⟨v, o, ho, hd⟩ := I.cell x c e
    exact free c o (fun z => (hch c z).2.2.1 x c e rfl) ho (I.freeC x c e)
  · obtain ⟨e, n, ne, nf, d⟩ := I.pin p hp
    have nch : p.1 ∉ ch := fun z => (hch p.1 z).2.2.2 p hp rfl
    exact ⟨keep p.1 p.2 ne nf nch e n, free p.1 p.2 nch e n, ne, nf, d⟩
/-- .. where the frame's own object is kept too -/
theorem Inv.un {t' : Nat} (I : Inv X pins σ H s) (u : Un X.fs [] H H' s.heap h') (hok : HOk X.prog X.w H' h') : Inv X pins σ H' { s with heap := h', toks := t' } := by
  obtain ⟨m, ⟨o, es, ep, ho, r⟩, _⟩ := id I.loc
  obtain ⟨sl, hL⟩ := u.any ho I.free (by simp)
  exact I.step (g' := s.gens) (d' := s.drawn) (ch := []) (fun _ z => nomatch z) (fun b o _ hb _ e n => u.keep b o e n hb (by simp)) (fun b o _ hb _ e n => u.slot b o e n hb (by simp)) (fun b o _ e n => u.free b o e n (by simp)) (fun b o _ e => u.there b o e (by simp)) u.tups u.frzs u.tbls (fun m' hm => by
    obtain ⟨o', es', ep', ho', r'⟩ := hm
    rw [ho] at ho'; cases ho'
    exact ⟨_, es', ep', hL, r'⟩) hok I.bare
/-- behind a call (or a comprehension's block): the slots of this frame may have changed too, the records at ch may have turned -/
theorem Inv.call {g' : Array GenState} {t' : Nat} {d' : Drawn} {ch : List Addr} (I : Inv X pins σ H s) (u : Un (frs X.stack) ch H H' s.heap h') (hok : HOk X.prog X.w H' h') (hg : AllBare g')
    (hch : ∀ b ∈ ch, (b ∈ X.ex ∨ X.s₀.heap.objs.size ≤ b) ∧ b ≠ X.env.locals ∧ (∀ x c, X.env.cells.lookup x = some c → c ≠ b) ∧ ∀ p ∈ X.pn ++ pins, p.1 ≠ b) :
    Inv X pins σ H' { s with heap := h', gens := g', drawn := d', toks := t' } := by
  obtain ⟨m, ⟨o, es, ep, ho, r⟩, _⟩ := id I.loc
  obtain ⟨sl, hL⟩ := u.any ho I.free fun z => (hch _ z).2.1 rfl
  exact I.step (ch := ch) hch (fun b o hL hb hc e n => u.keep b o e n (fun z => (List.mem_cons.mp (I.stkSub b z)).elim hL hb) hc) (fun b o _ _ hc e n => u.any e n hc) (fun b o hc e n => u.free b o e n hc) (fun b o hc e => u.there b o e hc) u.tups u.frzs u.tbls (fun m' hm => by
    obtain ⟨o', es', ep', ho', r'⟩ := hm
    rw [ho] at ho'; cases ho'
    exact ⟨_, es', ep', hL, r'⟩) hok hg
/-- an untracked record of ours (an iterator) has turned -/
theorem Inv.turned {t' : Nat} {it : Addr} (I : Inv X pins σ H s) (k : ∀ b o, b ≠ it → s.heap.get? b = some o → h'.get? b = some o) (hn : H it = none) (hL : it ≠ X.env.locals)
    (h1 : it ∈ X.ex ∨ X.s₀.heap.objs.size ≤ it) (h2 : ∀ x c, X.env.cells.lookup x = some c → c ≠ it) (h3 : ∀ p ∈ X.pn ++ pins, p.1 ≠ it) : Inv X pins σ H { s with heap := h', toks := t' } := by
  have nit : ∀ b u, H b = some u → b ≠ it := fun b u e z => by rw [z, hn] at e; cases e
  refine I.step (g' := s.gens) (d' := s.drawn) (ch := [it]) (fun b hb => ?_) (fun b o _ _ hc e _ => k b o (fun z => hc (by simp [z])) e) (fun b o _ _ hc e _ => ⟨o.slots, k b o (fun z => hc (by simp [z])) e⟩) (fun _ _ _ _ n => n)
    (fun b o hc e => ⟨o, k b o (fun z => hc (by simp [z])) e⟩) (fun _ _ e => e) (fun _ _ _ e => e) (fun b ps e => ⟨#[], by rw [e]; simp⟩) (fun m hm => ?_) (fun b u e => ?_) I.bare
  · have e : b = it := by simpa using hb
    subst e
    exact ⟨h1, hL, h2, h3⟩
  · obtain ⟨o, es, ep, ho, r⟩ := hm
    exact ⟨o, es, ep, k _ o (Ne.symm hL) ho, r⟩
  · refine (I.hok b u e).stay (fun c v hc q => k c v ?_ q) (fun _ q => q) fun _ _ q => q
    rcases hc with z | z
    · rw [z]; exact nit b u e
    · exact nit c _ z
theorem Inv.tok (I : Inv X pins σ H s) (t : Nat) : Inv X pins σ H { s with toks := t } := I.un (h' := s.heap) (t' := t) Un.refl I.hok
/-- all objects kept -/
theorem Inv.kept {t' : Nat} (I : Inv X pins σ H s) (k : ∀ b u, s.heap.get? b = some u → h'.get? b = some u) : Inv X pins σ H { s with heap := h', toks := t' } := I.un (Un.kept k) (I.hok.kept k)
/-- a new object laid and tracked -/
theorem Inv.laid {a : Addr} {o : HO} {t' : Nat} (I : Inv X pins σ H s) (k : ∀ b u, s.heap.get? b = some u → h'.get? b = some u) (hp : s.heap.objs.size ≤ a) (new : ObjOk X.prog X.w (upd H a o) h' a o) :
    Inv X pins σ (upd H a o) { s with heap := h', toks := t' } := I.un (Un.laid k hp (I.hok.fresh hp)) (I.hok.laid k hp new)
/-- an object written -/
theorem Inv.write {x e : Addr} {o : HO} {t' : Nat} (I : Inv X pins σ H s) (mu : Mut (H x)) (he : e = x ∨ H e = some (.own x)) (k : ∀ b u, b ≠ e → s.heap.get? b = some u → h'.get? b = some u) (heo : ∃ u, h'.get? e = some u)
    (new : ObjOk X.prog X.w (upd H x o) h' x o) : Inv X pins σ (upd H x o) { s with heap := h', toks := t' } := I.un (Un.write mu he k heo) (I.hok.write mu he k heo new)
/-- forgetting slots, pins -/
theorem Inv.weak {σ' : List (Option V)} (I : Inv X pins σ H s) (hl : σ'.length = σ.length) (w : ∀ (i : Nat) v, σ'[i]? = some (some v) → σ[i]? = some (some v)) : Inv X pins σ' H s :=
  ⟨I.ok, I.os, I.bare, I.base, let ⟨m, hn, hl'⟩ := I.loc; ⟨m, hn, fun i x v e1 e2 e3 => hl' i x v e1 (w i v e2) e3⟩, I.cell, I.free, I.freeC, I.pin, I.hok, hl.trans I.len⟩
theorem Inv.pins_of {pins' : List (Addr × Obj)} (I : Inv X pins σ H s) (h : ∀ p ∈ pins', s.heap.get? p.1 = some p.2 ∧ H p.1 = none ∧ p.1 ≠ X.env.locals ∧ p.1 ∉ X.fs ∧ ∀ v, p.2.data ≠ .cell v) : Inv X pins' σ H s :=
  ⟨I.ok, I.os, I.bare, I.base, I.loc, I.cell, I.free, I.freeC, fun p hp => (List.mem_append.mp hp).elim (fun z => I.pin p (List.mem_append_left _ z)) (h p), I.hok, I.len⟩

theorem nodup_ix {N : List Str} (hN : N.Nodup) {i j : Nat} {x : Str} (a : N[i]? = some x) (b : N[j]? = some x) : i = j := by
  obtain ⟨h1, e1⟩ := List.getElem?_eq_some_iff.mp a
  obtain ⟨h2, e2⟩ := List.getElem?_eq_some_iff.mp b
  exact (List.getElem_inj hN).mp (e1.trans e2.symm)

/-- a name is stored; what changed -/
theorem store_ok2 {M : Model} {A : Around} {E : Value → Shared → Prop} {i : Nat} {x : Str} {v : V} {u : Value} {Q : Unit → Shared → Prop} (I : Inv X pins σ H s) (hN : X.N.Nodup) (hi : X.N[i]? = some x) (hx : Loc X.env.scope x) (r : RelV v u)
    (h : ∀ s', Inv X pins (σ.set i (some v)) H s' → (∃ a, Heap.SameBut a s.heap s'.heap ∧ (a = X.env.locals ∨ X.env.cells.lookup x = some a)) → Q () s') (hf : X.fn x = true ∨ X.env.scope.names.lookup x = some .local := by first | exact .inl rfl | exact .inr rfl | assumption) : wpAny M A (storeName X.env x u) Q E s := by
  obtain ⟨m, hn, hl⟩ := id I.loc
  have hcls : (X.env.scope.kind == .class || (X.env.scope.kind == .module && X.env.locals != X.env.globals)) = false := by rw [I.ok.kind]; rfl
  have hiσ : i < σ.length := by rw [I.len]; exact (List.getElem?_eq_some_iff.mp hi).1
  have cne := I.cne
  have tracked : ∀ {a : Addr} {h' : Heap}, (∃ o, s.heap.get? a = some o ∧ H a = none) → Heap.SameBut a s.heap h' → HOk X.prog X.w H h' := fun {a h'} ha hs b ob e => by
    obtain ⟨_, _, hfree⟩ := ha
    refine (I.hok b ob e).stay (fun c w' hc q => (hs.2 c ?_).trans q) (fun _ q => q) fun _ _ q => q
    rintro rfl
    rcases hc with rfl | hc
    · rw [hfree] at e; cases e
    · rw [hfree] at hc; cases hc
  rcases hx with hk | hk
  · refine wpAny_storeName_local hk hn (fun h' hn' hs => ?_) hcls
    obtain ⟨oL, _, _, hoL, _⟩ := id hn
    refine h _ ⟨I.ok, I.os, I.bare, ⟨fun b o e n hb hx => ?_, fun b o e n hb hx => ?_, I.base.free, fun b o e hx => ?_, I.base.tups, I.base.frzs, I.base.tbls⟩, ⟨_, hn', fun j y v' e1 e2 e3 => ?_⟩, fun y c e => ?_, I.free, I.freeC, fun p hp => ?_, tracked ⟨oL, hoL, I.free⟩ hs, by simpa using I.len⟩ ⟨_, hs, .inl rfl⟩
    · exact (hs.2 b (Nat.ne_of_lt (Nat.lt_of_lt_of_le (Heap.lt_size e) I.ok.above))).trans (I.base.keep b o e n hb hx)
    · obtain ⟨sl, e1⟩ := I.base.slot b o e n hb hx
      exact ⟨sl, (hs.2 b (Nat.ne_of_lt (Nat.lt_of_lt_of_le (Heap.lt_size e) I.ok.above))).trans e1⟩
    · obtain ⟨o', e1⟩ := I.base.there b o e hx
      exact ⟨o', (hs.2 b (Nat.ne_of_lt (Nat.lt_of_lt_of_le (Heap.lt_size e) I.ok.above))).trans e1⟩
    · by_cases hj : j = i
      · subst hj
        rw [hi] at e1; cases e1
        rw [List.getElem?_set_self hiσ] at e2
        cases e2
        exact ⟨u, r, .inl ⟨hk, by simp⟩⟩
      · rw [List.getElem?_set_ne (Ne.symm hj)] at e2
        obtain ⟨u', r', q⟩ := hl j y v' e1 e2 e3
        refine ⟨u', r', ?_⟩
        rcases q with ⟨k, e⟩ | ⟨k, c, e, z⟩
        · refine .inl ⟨k, ?_⟩
          have : y ≠ x := fun e => hj (nodup_ix hN e1 (e ▸ hi))
          simp [this, e]
        · exact .inr ⟨k, c, e, z.sameBut hs (cne y c e)⟩
    · obtain ⟨w', z⟩ := I.cell y c e
      exact ⟨w', z.sameBut hs (cne y c e)⟩
    · obtain ⟨e, n, ne, nf, d⟩ := I.pin p hp
      exact ⟨(hs.2 p.1 ne).trans e, n, ne, nf, d⟩
  · have hfn : X.fn x = true := by
      rcases hf with z | z
      · exact z
      · rw [z] at hk; cases hk
    obtain ⟨c, hc⟩ := I.ok.has x (.inl hk)
    obtain ⟨w', z⟩ := I.cell x c hc
    refine wpAny_storeName_cell I.ok.kind hk hc z (fun h' hc' hs => ?_)
    obtain ⟨oc, hoc, hocd⟩ := id z
    refine h { s with heap := h' } ⟨I.ok, I.os, I.bare, ⟨fun b o e n hb hx => ?_, fun b o e n hb hx => ?_, I.base.free, fun b o e hx => ?_, I.base.tups, I.base.frzs, I.base.tbls⟩, ⟨m, hn.sameBut hs (Ne.symm (cne x c hc)), fun j y v' e1 e2 e3 => ?_⟩, fun y c' e => ?_, I.free, I.freeC, fun p hp => ?_, tracked ⟨oc, hoc, I.freeC x c hc⟩ hs, by simpa using I.len⟩ ⟨c, hs, .inr hc⟩
    · exact (hs.2 b (Nat.ne_of_lt (Nat.lt_of_lt_of_le (Heap.lt_size e) (I.ok.cab x c hfn hc)))).trans (I.base.keep b o e n hb hx)
    · obtain ⟨sl, e1⟩ := I.base.slot b o e n hb hx
      exact ⟨sl, (hs.2 b (Nat.ne_of_lt (Nat.lt_of_lt_of_le (Heap.lt_size e) (I.ok.cab x c hfn hc)))).trans e1⟩
    · obtain ⟨o', e1⟩ := I.base.there b o e hx
      exact ⟨o', (hs.2 b (Nat.ne_of_lt (Nat.lt_of_lt_of_le (Heap.lt_size e) (I.ok.cab x c hfn hc)))).trans e1⟩
    · by_cases hj : j = i
      · subst hj
        rw [hi] at e1; cases e1
        rw [List.getElem?_set_self hiσ] at e2
        cases e2
        exact ⟨u, r, .inr ⟨.inl hk, c, hc, hc'⟩⟩
      · rw [List.getElem?_set_ne (Ne.symm hj)] at e2
        obtain ⟨u', r', q⟩ := hl j y v' e1 e2 e3
        refine ⟨u', r', ?_⟩
        rcases q with q | ⟨k, c', e, z'⟩
        · exact .inl q
        · refine .inr ⟨k, c', e, z'.sameBut hs ?_⟩
          rintro rfl
          exact hj (nodup_ix hN e1 (I.ok.inj _ _ _ e hc ▸ hi))
    · by_cases hcc : c' = c
      · subst hcc; exact ⟨_, hc'⟩
      · obtain ⟨w2, z2⟩ := I.cell y c' e
        exact ⟨w2, z2.sameBut hs hcc⟩
    · obtain ⟨e, n, ne, nf, d⟩ := I.pin p hp
      refine ⟨(hs.2 p.1 ?_).trans e, n, ne, nf, d⟩
      intro q
      rw [q, hoc] at e
      have q' : oc = p.2 := Option.some.inj e
      exact d w' (by rw [← q']; exact hocd)
theorem store_ok {M : Model} {A : Around} {E : Value → Shared → Prop} {i : Nat} {x : Str} {v : V} {u : Value} {Q : Unit → Shared → Prop} (I : Inv X pins σ H s) (hN : X.N.Nodup) (hi : X.N[i]? = some x) (hx : Loc X.env.scope x) (r : RelV v u)
    (h : ∀ s', Inv X pins (σ.set i (some v)) H s' → Q () s') (hf : X.fn x = true ∨ X.env.scope.names.lookup x = some .local := by first | exact .inl rfl | exact .inr rfl | assumption) : wpAny M A (storeName X.env x u) Q E s :=
  store_ok2 I hN hi hx r (fun s' I' _ => h s' I') hf
/-- behind a call or a block, the state as it is -/
theorem Inv.call' {s' : Shared} {ch : List Addr} (I : Inv X pins σ H s) (ho : s'.os = s.os) (u : Un (frs X.stack) ch H H' s.heap s'.heap) (hok : HOk X.prog X.w H' s'.heap) (hg : AllBare s'.gens)
    (hch : ∀ b ∈ ch, (b ∈ X.ex ∨ X.s₀.heap.objs.size ≤ b) ∧ b ≠ X.env.locals ∧ (∀ x c, X.env.cells.lookup x = some c → c ≠ b) ∧ ∀ p ∈ X.pn ++ pins, p.1 ≠ b) : Inv X pins σ H' s' := by
  obtain ⟨h', g', d', t', o'⟩ := s'
  have e : o' = s.os := ho
  subst e
  exact I.call (g' := g') (t' := t') (d' := d') u hok hg hch
end

/-! ### the judgements -/
/-- an exception: its class, its own dict's address (where it has one), the abstract heap behind it -/
abbrev XK := Value → Option Addr → Hp → Prop
abbrev St := List (Option V)
abbrev VK := V → Hp → Prop
/-- an expression's reading; a test's; an argument list's -/
abbrev TE := St → Hp → VK → Prop
abbrev TT := St → Hp → (Bool → Hp → Prop) → Prop
abbrev TA := St → Hp → (List V → Hp → Prop) → Prop
/-- what is wanted behind a statement -/
structure Ends where
  nx : St → Hp → Prop
  rt : VK
  bk : St → Hp → Prop := fun _ _ => False
  ct : St → Hp → Prop := fun _ _ => False
abbrev TS := Ends → St → Hp → Prop

def EP (X : Cx) (pins : List (Addr × Obj)) (σ : St) (Q : VK) (u : Value) (s' : Shared) : Prop := ∃ v H', Inv X pins σ H' s' ∧ RelV v u ∧ Q v H'
def TP (X : Cx) (pins : List (Addr × Obj)) (σ : St) (Q : Bool → Hp → Prop) (b : Bool) (s' : Shared) : Prop := ∃ H', Inv X pins σ H' s' ∧ Q b H'
def AP (X : Cx) (pins : List (Addr × Obj)) (σ : St) (Q : List V → Hp → Prop) (us : List Value) (s' : Shared) : Prop := ∃ vs H', Inv X pins σ H' s' ∧ Vals vs us ∧ Q vs H'
def SP (X : Cx) (pins : List (Addr × Obj)) (D : Ends) (f : Flow) (s' : Shared) : Prop :=
  match f with
  | .next => ∃ σ' H', Inv X pins σ' H' s' ∧ D.nx σ' H'
  | .brk => ∃ σ' H', Inv X pins σ' H' s' ∧ D.bk σ' H'
  | .cont => ∃ σ' H', Inv X pins σ' H' s' ∧ D.ct σ' H'
  | .ret u => ∃ v σ' H', Inv X pins σ' H' s' ∧ RelV v u ∧ D.rt v H'

def PE (X : Cx) (e : Expr) (t : TE) : Prop :=
  ∀ (pins : List (Addr × Obj)) (s : Shared) (σ : St) (H : Hp) (Q : VK), Inv X pins σ H s → t σ H Q → wpAny (model X.prog X.w) X.A (eval e X.env) (EP X pins σ Q) X.xe s
def PT (X : Cx) (e : Expr) (t : TT) : Prop :=
  ∀ (pins : List (Addr × Obj)) (s : Shared) (σ : St) (H : Hp) (Q : Bool → Hp → Prop), Inv X pins σ H s → t σ H Q → wpAny (model X.prog X.w) X.A (isTrue e X.env (eval e X.env)) (TP X pins σ Q) X.xe s
/-- a test whatever its 'whole' is (and, or) -/
def PW (X : Cx) (e : Expr) (t : TT) : Prop :=
  ∀ (whole : Sem Value) (pins : List (Addr × Obj)) (s : Shared) (σ : St) (H : Hp) (Q : Bool → Hp → Prop), Inv X pins σ H s → t σ H Q → wpAny (model X.prog X.w) X.A (isTrue e X.env whole) (TP X pins σ Q) X.xe s
theorem PW.pt {X : Cx} {e : Expr} {t : TT} (h : PW X e t) : PT X e t := h _
/-- an argument list (no star), from the left -/
def PA (X : Cx) (es : List Expr) (t : TA) : Prop :=
  ∀ (pos : Pos) (pins : List (Addr × Obj)) (s : Shared) (σ : St) (H : Hp) (Q : List V → Hp → Prop), Inv X pins σ H s → t σ H Q → wpAny (model X.prog X.w) X.A (spliced (backTo pos (starEach es X.env))) (AP X pins σ Q) X.xe s
def PS (X : Cx) (st : Stmt) (t : TS) : Prop :=
  ∀ (pins : List (Addr × Obj)) (s : Shared) (σ : St) (H : Hp) (D : Ends), Inv X pins σ H s → t D σ H → wpAny (model X.prog X.w) X.A (exec st X.env) (SP X pins D) X.xe s
def PSs (X : Cx) (st : List Stmt) (t : TS) : Prop :=
  ∀ (pins : List (Addr × Obj)) (s : Shared) (σ : St) (H : Hp) (D : Ends), Inv X pins σ H s → t D σ H → wpAny (model X.prog X.w) X.A (execs st X.env) (SP X pins D) X.xe s
/-- weaken the end -/
theorem thn {α : Type} {t : Sem α} {Q Q' : α → Shared → Prop} {M : Model} {A : Around} {E : Value → Shared → Prop} {s : Shared} (h : wpAny M A t Q E s) (hQ : ∀ a s, Q a s → Q' a s) : wpAny M A t Q' E s := wpAny_mono h hQ fun _ _ x => x
end L2

namespace L2
open PySem PySem.Spec PyProof.Rows
section
variable {X : Cx}

/-! ### names and constants -/
def tVar (i : Nat) : TE := fun σ H Q => ∃ v, σ[i]? = some (some v) ∧ Q v H
def tC (v : V) : TE := fun _ H Q => Q v H
theorem pe_var {i : Nat} {x : Str} {pos : Pos} (hN : X.N[i]? = some x) (hv : Vis X.env.scope x) (hd : (x == ("__debug__" : Str)) = false := by decide) (hcd : (x == ("__classdict__" : Str)) = false := by decide) : PE X (.Name x pos) (tVar i) := by
  intro pins s σ H Q I h
  obtain ⟨v, e, h⟩ := h
  obtain ⟨m, hn, hl⟩ := I.loc
  obtain ⟨u, r, l⟩ := hl i x v hN e hv
  have fin : EP X pins σ Q u s := ⟨v, H, I, r, h⟩
  rcases l with ⟨hk, hm⟩ | ⟨hk, c, hc, hcell⟩
  · exact wpAny_Name (wpAny_loadName_local I.ok.kind hk hn hm fin) hd
  · rcases hk with hk | hk
    · exact wpAny_Name (wpAny_loadName_cell I.ok.kind hk hc hcell fin) hd
    · exact wpAny_Name (wpAny_loadName_free I.ok.kind hk hc hcell fin hcd) hd
theorem pe_int {i j pos} : PE X (.Constant (.int i) j pos) (tC (.int i)) := fun _ _ _ H _ I h => wpAny_Constant_int ⟨.int i, H, I.tok _, ⟨_, rfl⟩, h⟩
theorem pe_bl {b j pos} : PE X (.Constant (.bool b) j pos) (tC (.bl b)) := fun _ _ _ H _ I h => Constant_bool ⟨.bl b, H, I, rfl, h⟩
theorem pe_non {j pos} : PE X (.Constant .none j pos) (tC .non) := fun _ _ _ H _ I h => Constant_none ⟨.non, H, I, rfl, h⟩
theorem pe_str {x j pos} : PE X (.Constant (.str x) j pos) (tC (.str x)) := fun _ _ _ H _ I h => Calls.Constant_str ⟨.str x, H, I.tok _, ⟨_, rfl⟩, h⟩

/-- a global name of the def -/
def Gl (X : Cx) (x : Str) : Prop := X.env.kindOf x = some .globalImplicit
theorem ld_glob {E : Value → Shared → Prop} {pins : List (Addr × Obj)} {s : Shared} {σ : St} {H : Hp} {x : Str} {u : Value} {pos : Pos} {Q : Value → Shared → Prop} (I : Inv X pins σ H s) (hg : Gl X x) (hm : X.mg x = some u) (h : Q u s)
    (hd : (x == ("__debug__" : Str)) = false := by decide) : wpAny (model X.prog X.w) X.A (eval (.Name x pos) X.env) Q E s :=
  Calls.Name_function_global I.ok.kind hg (Calls.loadGlobal_global (by rw [I.ok.glob]; exact I.mod.glob.keeps I.bk) hm h) hd
theorem ld_blt {E : Value → Shared → Prop} {pins : List (Addr × Obj)} {s : Shared} {σ : St} {H : Hp} {x : Str} {u : Value} {pos : Pos} {Q : Value → Shared → Prop} (I : Inv X pins σ H s) (hg : Gl X x) (hm : X.mg x = none) (hv : bootBuiltins x = some u) (h : Q u s)
    (hn : x ≠ "__name__" := by decide) (hd : (x == ("__debug__" : Str)) = false := by decide) : wpAny (model X.prog X.w) X.A (eval (.Name x pos) X.env) Q E s := by
  obtain ⟨mb, h1, h2⟩ := I.mod.blt
  exact Calls.Name_function_global I.ok.kind hg (Calls.loadGlobal_builtin (by rw [I.ok.glob]; exact I.mod.glob.keeps I.bk) hm (by rw [I.ok.blt]; exact h1.keeps I.bk) ((h2 x hn).trans hv) h) hd
/-- a module's constant, a class, a function, as a value -/
theorem pe_glob {x : Str} {v : V} {u : Value} {pos : Pos} (hg : Gl X x) (hm : X.mg x = some u) (r : RelV v u) (hd : (x == ("__debug__" : Str)) = false := by decide) : PE X (.Name x pos) (tC v) :=
  fun _ _ _ H _ I h => ld_glob I hg hm ⟨v, H, I, r, h⟩ hd
theorem pe_bltn {x : Str} {v : V} {u : Value} {pos : Pos} (hg : Gl X x) (hm : X.mg x = none) (hv : bootBuiltins x = some u) (r : RelV v u) (hn : x ≠ "__name__" := by decide) (hd : (x == ("__debug__" : Str)) = false := by decide) : PE X (.Name x pos) (tC v) :=
  fun _ _ _ H _ I h => ld_blt I hg hm hv ⟨v, H, I, r, h⟩ hn hd

/-! ### arithmetic -/
variable {a b : Expr} {ta tb : TE} {pos : Pos}
/-! ### comparisons -/
/-- a comparison as a value, as a test -/
def tB (t : TE) : TT := fun σ H Q => t σ H fun x H1 => ∃ c, x = .bl c ∧ Q c H1
/-- an expression whose value is a bool, as a test -/
theorem pt_val {e : Expr} {t : TE} (h : PE X e t) (he : ∀ whole, isTrue e X.env whole = (do let v ← whole; standAt e.pos; holding [v] (truthy v)) := by intro _; rfl) : PT X e (tB t) := by
  intro pins s σ H Q I hw
  refine isTrue_plain (thn (h pins s σ H _ I hw) fun v s1 ⟨x, H1, I1, r1, q1⟩ => ?_) (he _)
  obtain ⟨d, rfl, q⟩ := q1
  cases r1
  exact wpAny_truthy_bool ⟨H1, I1, q⟩

/-! ### and, or, not -/
variable {tA tB' : TT} {rest : List Expr}
def tAnd (t u : TT) : TT := fun σ H Q => t σ H fun c H1 => if c = true then u σ H1 Q else Q false H1
def tOr (t u : TT) : TT := fun σ H Q => t σ H fun c H1 => if c = true then Q true H1 else u σ H1 Q
def tNot (t : TT) : TT := fun σ H Q => t σ H fun c H1 => Q (!c) H1
theorem pw_and1 (ha : PT X a tA) : PW X (.BoolOp .And [a] pos) tA := by
  intro wh pins s σ H Q I h
  refine isTrue_and (thn (ha pins s σ H Q I h) fun c s1 e => ?_)
  cases c with
  | true => exact isTrue_and_nil e
  | false => exact e
theorem pw_or1 (ha : PT X a tA) : PW X (.BoolOp .Or [a] pos) tA := by
  intro wh pins s σ H Q I h
  refine isTrue_or (thn (ha pins s σ H Q I h) fun c s1 e => ?_)
  cases c with
  | false => exact isTrue_or_nil e
  | true => exact e
theorem pw_and (ha : PT X a tA) (hb : PW X (.BoolOp .And (b :: rest) pos) tB') : PW X (.BoolOp .And (a :: b :: rest) pos) (tAnd tA tB') := by
  intro wh pins s σ H Q I h
  refine isTrue_and (thn (ha pins s σ H _ I h) fun c s1 ⟨H1, I1, q1⟩ => ?_)
  cases c with
  | true => exact hb wh pins s1 σ H1 Q I1 q1
  | false => exact ⟨H1, I1, q1⟩
theorem pw_or (ha : PT X a tA) (hb : PW X (.BoolOp .Or (b :: rest) pos) tB') : PW X (.BoolOp .Or (a :: b :: rest) pos) (tOr tA tB') := by
  intro wh pins s σ H Q I h
  refine isTrue_or (thn (ha pins s σ H _ I h) fun c s1 ⟨H1, I1, q1⟩ => ?_)
  cases c with
  | true => exact ⟨H1, I1, q1⟩
  | false => exact hb wh pins s1 σ H1 Q I1 q1
theorem pt_not (ha : PT X a tA) : PT X (.UnaryOp .Not a pos) (tNot tA) := by
  intro pins s σ H Q I h
  exact isTrue_not (ha pins s σ H (fun c H1 => Q (!c) H1) I h)
end
end L2

namespace L2
open PySem PySem.Spec PyProof.Rows

/-! ### a list, a tuple that is read: tracked, frozen, or an object of the module -/
def SqL (K : PySem.W.Frag) (H : Hp) (a : Addr) (xs : List V) : Prop :=
  Rd H a (.lst xs) ∨
    ∃ (o : Obj) (its : Array Value) (n : Nat), K.lookup a = some o ∧ o.cls = .type "list" ∧ o.dict = none ∧ o.data = .seq its n ∧ its.size ≤ sizeLine ∧ Vals xs its.toList
def SqT (K : PySem.W.Frag) (H : Hp) (a : Addr) (xs : List V) : Prop :=
  Rd H a (.tup xs) ∨
    ∃ (o : Obj) (its : Array Value) (n : Nat), K.lookup a = some o ∧ o.cls = .type "tuple" ∧ o.data = .seq its n ∧ its.size ≤ sizeLine ∧ Vals xs its.toList
def absV : Value → Option V
  | .none => some .non
  | .bool b => some (.bl b)
  | .int i _ => some (.int i)
  | .str x _ => some (.str x)
  | .bytes b _ => some (.byt b)
  | .float b _ => some (.flt b)
  | .ref a => some (.ref a)
  | .type n => some (.ty n)
  | _ => none
theorem RelV.abs {x : V} {u : Value} (r : RelV x u) : absV u = some x := by
  cases x with
  | non => cases r; rfl
  | bl _ => cases r; rfl
  | int _ => obtain ⟨t, rfl⟩ := r; rfl
  | str _ => obtain ⟨t, rfl⟩ := r; rfl
  | byt _ => obtain ⟨t, rfl⟩ := r; rfl
  | flt _ => obtain ⟨t, rfl⟩ := r; rfl
  | ref _ => cases r; rfl
  | ty _ => cases r; rfl
theorem RelV.inj {x y : V} {u : Value} (r : RelV x u) (q : RelV y u) : x = y := Option.some.inj (r.abs.symm.trans q.abs)
theorem Vals.inj : ∀ {xs ys : List V} {us : List Value}, Vals xs us → Vals ys us → xs = ys
  | _, _, _, .nil, .nil => rfl
  | _, _, _, .cons r t, .cons r' t' => by rw [r.inj r', Vals.inj t t']
section
variable {X : Cx} {pins : List (Addr × Obj)} {σ : St} {H : Hp} {s : Shared} {a : Addr} {xs ys : List V}
theorem SqL.of {K : PySem.W.Frag} (h : H a = some (.lst xs)) : SqL K H a xs := .inl (.inl h)
theorem SqT.of {K : PySem.W.Frag} (h : H a = some (.tup xs)) : SqT K H a xs := .inl (.inl h)
theorem Inv.list (I : Inv X pins σ H s) (h : SqL X.K H a xs) : ∃ its : List Value, Vals xs its ∧ PlainL s.heap a its.toArray ∧ xs.length ≤ sizeLine := by
  rcases h with h | ⟨o, its, n, hk, hc, hd, hs, hz, r⟩
  · obtain ⟨z, its, n, r, e⟩ := h.ok I.hok
    exact ⟨its, r, ⟨_, n, e, rfl, rfl, rfl⟩, z⟩
  · refine ⟨its.toList, r, ⟨o, n, I.kIn a o hk, hc, hd, by simpa using hs⟩, ?_⟩
    have e := r.length
    simp only [Array.length_toList] at e
    omega
theorem Inv.tuple (I : Inv X pins σ H s) (h : SqT X.K H a xs) : ∃ its : List Value, Vals xs its ∧ IsTup s.heap a its.toArray ∧ xs.length ≤ sizeLine := by
  rcases h with h | ⟨o, its, n, hk, hc, hs, hz, r⟩
  · obtain ⟨z, its, r, p⟩ := h.ok I.hok
    exact ⟨its, r, p, z⟩
  · refine ⟨its.toList, r, ⟨o, I.kIn a o hk, hc, n, by simpa using hs⟩, ?_⟩
    have e := r.length
    simp only [Array.length_toList] at e
    omega
theorem Inv.list_inj (I : Inv X pins σ H s) (h : SqL X.K H a xs) (h' : SqL X.K H a ys) : xs = ys := by
  obtain ⟨its, r, ⟨o, n, e, _, _, d⟩, _⟩ := I.list h
  obtain ⟨its', r', ⟨o', n', e', _, _, d'⟩, _⟩ := I.list h'
  rw [e] at e'; cases e'
  rw [d] at d'
  injection d' with d1 _
  have : its = its' := by simpa using congrArg Array.toList d1
  subst this
  exact r.inj r'
theorem Inv.tuple_inj (I : Inv X pins σ H s) (h : SqT X.K H a xs) (h' : SqT X.K H a ys) : xs = ys := by
  obtain ⟨its, r, ⟨o, e, _, n, d⟩, _⟩ := I.tuple h
  obtain ⟨its', r', ⟨o', e', _, n', d'⟩, _⟩ := I.tuple h'
  rw [e] at e'; cases e'
  rw [d] at d'
  injection d' with d1 _
  have : its = its' := by simpa using congrArg Array.toList d1
  subst this
  exact r.inj r'
end

/-! ### another wish about exceptions -/
abbrev Cx.wish (X : Cx) (E : Value → Shared → Prop) : Cx := { X with xe := E }
/-- no exception leaves -/
abbrev Cx.nox (X : Cx) : Cx := X.wish fun _ _ => False
theorem Cx.Ok.wish {X : Cx} (ok : X.Ok) (E : Value → Shared → Prop) : (X.wish E).Ok :=
  ⟨ok.mod, ok.kind, ok.glob, ok.blt, ok.above, ok.inj, ok.has, ok.cab, ok.hd, ok.frames, ok.stk, ok.exf, ok.bs, ok.bsz, ok.noex, ok.exfs, ok.funs, ok.frf⟩
theorem Cx.Ok.unwish {X : Cx} {E : Value → Shared → Prop} (ok : (X.wish E).Ok) : X.Ok :=
  ⟨ok.mod, ok.kind, ok.glob, ok.blt, ok.above, ok.inj, ok.has, ok.cab, ok.hd, ok.frames, ok.stk, ok.exf, ok.bs, ok.bsz, ok.noex, ok.exfs, ok.funs, ok.frf⟩
section
variable {X : Cx} {pins : List (Addr × Obj)} {σ : St} {H : Hp} {s : Shared} {E : Value → Shared → Prop}
theorem Inv.wish (I : Inv X pins σ H s) (E : Value → Shared → Prop) : Inv (X.wish E) pins σ H s := ⟨I.ok.wish E, I.os, I.bare, I.base, I.loc, I.cell, I.free, I.freeC, I.pin, I.hok, I.len⟩
theorem Inv.unwish (I : Inv (X.wish E) pins σ H s) : Inv X pins σ H s := ⟨I.ok.unwish, I.os, I.bare, I.base, I.loc, I.cell, I.free, I.freeC, I.pin, I.hok, I.len⟩
theorem SP.unwish {D : Ends} {f : Flow} {s' : Shared} (h : SP (X.wish E) pins D f s') : SP X pins D f s' := by
  cases f with
  | next => obtain ⟨σ', H', I, q⟩ := h; exact ⟨σ', H', I.unwish, q⟩
  | brk => obtain ⟨σ', H', I, q⟩ := h; exact ⟨σ', H', I.unwish, q⟩
  | cont => obtain ⟨σ', H', I, q⟩ := h; exact ⟨σ', H', I.unwish, q⟩
  | ret u => obtain ⟨v, σ', H', I, r, q⟩ := h; exact ⟨v, σ', H', I.unwish, r, q⟩
theorem PE.nox {e : Expr} {t : TE} (h : PE X.nox e t) : PE X e t := fun pins s σ H Q I hw =>
  wpAny_mono (h pins s σ H Q (I.wish _) hw) (fun _ _ ⟨v, H', I', r, q⟩ => ⟨v, H', I'.unwish, r, q⟩) fun _ _ z => False.elim z
theorem PT.nox {e : Expr} {t : TT} (h : PT X.nox e t) : PT X e t := fun pins s σ H Q I hw =>
  wpAny_mono (h pins s σ H Q (I.wish _) hw) (fun _ _ ⟨H', I', q⟩ => ⟨H', I'.unwish, q⟩) fun _ _ z => False.elim z
theorem PSs.nox {st : List Stmt} {t : TS} (h : PSs X.nox st t) : PSs X st t := fun pins s σ H D I hw =>
  wpAny_mono (h pins s σ H D (I.wish _) hw) (fun _ _ q => q.unwish) fun _ _ z => False.elim z
end

/-! ### blocks and small statements -/
section
variable {X : Cx} {st : Stmt} {rest : List Stmt} {t u : TS} {e : Expr} {te : TE} {pos : Pos}
def tNext : TS := fun D σ H => D.nx σ H
def tSeq (t u : TS) : TS := fun D σ H => t { D with nx := u D } σ H
theorem pss_nil : PSs X [] tNext := fun _ _ σ H _ I h => wpAny_execs_nil ⟨σ, H, I, h⟩
theorem pss_cons (h1 : PS X st t) (h2 : PSs X rest u) : PSs X (st :: rest) (tSeq t u) := by
  intro pins s σ H D I h
  refine wpAny_execs_cons (thn (h1 pins s σ H { D with nx := u D } I h) fun f s1 q => ?_)
  cases f with
  | next =>
    obtain ⟨σ', H', I', q⟩ := q
    exact h2 pins s1 σ' H' D I' q
  | ret v => exact q
  | brk => exact q
  | cont => exact q
theorem pss_one (h1 : PS X st t) : PSs X [st] t := by
  intro pins s σ H D I h
  refine wpAny_execs_cons (thn (h1 pins s σ H D I h) fun f s1 q => ?_)
  cases f with
  | next => exact wpAny_execs_nil q
  | ret v => exact q
  | brk => exact q
  | cont => exact q
/-- in a def's body nothing is shown -/
theorem Inv.quiet {pins : List (Addr × Obj)} {σ : St} {H : Hp} {s : Shared} (I : Inv X pins σ H s) : interactive X.env = false := by simp [interactive, I.ok.kind]
/-- an expression whose value is dropped -/
def tDrop (te : TE) : TS := fun D σ H => te σ H fun _ H1 => D.nx σ H1
theorem ps_expr (he : PE X e te) (hs : swapsWith e none pos.line X.env = pure false := by rfl) : PS X (.Expr e pos) (tDrop te) := by
  intro pins s σ H D I h
  exact wpAny_Expr_any (thn (he pins s σ H _ I h) fun v s1 ⟨x, H1, I1, r1, q1⟩ => ⟨σ, H1, I1, q1⟩) I.quiet hs
def tRet (te : TE) : TS := fun D σ H => te σ H D.rt
theorem ps_ret (he : PE X e te) : PS X (.Return (some e) pos) (tRet te) := by
  intro pins s σ H D I h
  exact wpAny_Return_some (thn (he pins s σ H _ I h) fun v s1 ⟨x, H1, I1, r1, q1⟩ => ⟨x, σ, H1, I1, r1, q1⟩)
def tIfS (c : TT) (t u : TS) : TS := fun D σ H => c σ H fun b H1 => if b = true then t D σ H1 else u D σ H1
theorem ps_if {c : Expr} {a b : List Stmt} {tc : TT} (hc : PT X c tc) (ha : PSs X a t) (hb : PSs X b u) : PS X (.If c a b pos) (tIfS tc t u) := by
  intro pins s σ H D I h
  refine wpAny_If (thn (hc pins s σ H _ I h) fun d s1 ⟨H1, I1, q1⟩ => ?_)
  cases d with
  | true => exact ha pins s1 σ H1 D I1 q1
  | false => exact hb pins s1 σ H1 D I1 q1
end

/-! ### targets -/
abbrev TG := V → St → Hp → (St → Hp → Prop) → Prop
abbrev TGs := List V → St → Hp → (St → Hp → Prop) → Prop
def PG (X : Cx) (target : Expr) (t : TG) : Prop :=
  ∀ (pins : List (Addr × Obj)) (s : Shared) (σ : St) (H : Hp) (v : V) (u : Value) (Q : St → Hp → Prop), Inv X pins σ H s → RelV v u → t v σ H Q →
    wpAny (model X.prog X.w) X.A (assign target X.env u) (fun _ s' => ∃ σ' H', Inv X pins σ' H' s' ∧ Q σ' H') X.xe s
/-- several targets, one after another -/
def PGs (X : Cx) (ts : List Expr) (t : TGs) : Prop :=
  ∀ (pins : List (Addr × Obj)) (s : Shared) (σ : St) (H : Hp) (vs : List V) (us : List Value) (Q : St → Hp → Prop), Inv X pins σ H s → Vals vs us → t vs σ H Q →
    wpAny (model X.prog X.w) X.A (assignInOrder ((assignEach ts X.env).map (·.2)) us) (fun _ s' => ∃ σ' H', Inv X pins σ' H' s' ∧ Q σ' H') X.xe s
/-- o[i] = v, by values -/
abbrev TSet := V → V → V → Hp → (Hp → Prop) → Prop
def PSet (X : Cx) (t : TSet) : Prop :=
  ∀ (pins : List (Addr × Obj)) (s : Shared) (σ : St) (H : Hp) (o i v : V) (ov iv u : Value) (Q : Hp → Prop), Inv X pins σ H s → RelV o ov → RelV i iv → RelV v u → t o i v H Q →
    wpAny (model X.prog X.w) X.A (setItem ov iv u) (fun _ s' => ∃ H', Inv X pins σ H' s' ∧ Q H') X.xe s
section
variable {X : Cx} {pos : Pos}
def gName (i : Nat) : TG := fun v σ H Q => Q (σ.set i (some v)) H
theorem pg_name {i : Nat} {x : Str} (hN : X.N.Nodup) (hi : X.N[i]? = some x) (hx : Loc X.env.scope x) (hf : X.fn x = true ∨ X.env.scope.names.lookup x = some .local := by first | exact .inl rfl | exact .inr rfl | assumption) : PG X (.Name x pos) (gName i) := by
  intro pins s σ H v u Q I r h
  exact wpAny_assign_Name (store_ok I hN hi hx r (fun s' I' => ⟨_, H, I', h⟩) hf)
def gNil : TGs := fun vs σ H Q => vs = [] ∧ Q σ H
def gCons (t : TG) (u : TGs) : TGs := fun vs σ H Q => ∃ v r, vs = v :: r ∧ t v σ H fun σ' H' => u r σ' H' Q
theorem pgs_nil : PGs X [] gNil := by
  intro pins s σ H vs us Q I r h
  obtain ⟨e, h⟩ := h
  subst e
  cases r
  exact assignInOrder_nil ⟨σ, H, I, h⟩
theorem pgs_cons {e : Expr} {es : List Expr} {t : TG} {u : TGs} (h1 : PG X e t) (h2 : PGs X es u)
    (hs : (assignEach (e :: es) X.env).map (·.2) = assign e X.env :: (assignEach es X.env).map (·.2) := by rfl) : PGs X (e :: es) (gCons t u) := by
  intro pins s σ H vs us Q I r h
  obtain ⟨v, vr, e1, h⟩ := h
  subst e1
  cases r with
  | cons r rr =>
    rw [hs]
    refine assignInOrder_cons (thn (h1 pins s σ H _ _ _ I r h) fun _ s1 ⟨σ1, H1, I1, q1⟩ => ?_)
    exact h2 pins s1 σ1 H1 _ _ Q I1 rr q1
/-- (a, b, ..) = a tuple of that length -/
def gTup (K : PySem.W.Frag) (n : Nat) (t : TGs) : TG := fun v σ H Q => ∃ a xs, v = .ref a ∧ SqT K H a xs ∧ xs.length = n ∧ t xs σ H Q
theorem pg_tup {es : List Expr} {k : Nat} {t : TGs} {n : Nat} (hc : X.calm = true) (h : PGs X es t)
    (hn : (assignEach es X.env).length = n := by rfl) (hst : (assignEach es X.env).findIdx? (·.1) = none := by rfl) : PG X (.Tuple es k pos) (gTup X.K n t) := by
  intro pins s σ H v u Q I r hw
  obtain ⟨a, xs, e1, hq, hl, hw⟩ := hw
  subst e1
  cases r
  obtain ⟨its, rv, ht, hz⟩ := I.tuple hq
  refine assign_Tuple_tuple (I.ok.hd hc) ht (by simp [hn, ← hl, rv.length]) hst fun h' hx => ?_
  have I1 : Inv X pins σ H { s with heap := h' } := I.kept (t' := s.toks) fun b o e => hx b o (Nat.ne_of_lt (Heap.lt_size e)) e
  exact h pins _ σ H xs _ Q I1 (by simpa using rv) hw
/-- o[i] = .. -/
def gSub (to ti : TE) (t : TSet) : TG := fun v σ H Q => to σ H fun o H1 => ti σ H1 fun i H2 => t o i v H2 fun H3 => Q σ H3
theorem pg_sub {o i : Expr} {to ti : TE} {t : TSet} (ho : PE X o to) (hi : PE X i ti) (hs : PSet X t)
    (ha : ∀ v, assign (.Subscript o i pos) X.env v = (do
      let ov ← holding [v] (eval o X.env)
      let iv ← holding [v, ov] (eval i X.env)
      standAt pos
      holding [v, ov, iv] (setItem ov iv v)
      release [v, ov, iv] []) := by intro _; rfl) : PG X (.Subscript o i pos) (gSub to ti t) := by
  intro pins s σ H v u Q I r h
  rw [ha]
  refine wpAny_bind (wpAny_holding (thn (ho pins s σ H _ I h) fun ov s1 ⟨x, H1, I1, r1, q1⟩ => ?_))
  refine wpAny_bind (wpAny_holding (thn (hi pins s1 σ H1 _ I1 q1) fun iv s2 ⟨y, H2, I2, r2, q2⟩ => ?_))
  refine wpAny_bind (wpAny_standAt (wpAny_bind (wpAny_holding (thn (hs pins s2 σ H2 x y v ov iv u _ I2 r1 r2 r q2) fun _ s3 ⟨H3, I3, q3⟩ => ?_))))
  exact wpAny_release ⟨σ, H3, I3, q3⟩
/-- target = value -/
def tAsg (te : TE) (g : TG) : TS := fun D σ H => te σ H fun x H1 => g x σ H1 D.nx
theorem ps_asg {tg e : Expr} {te : TE} {g : TG} (he : PE X e te) (hg : PG X tg g) (hs : swapsWithSole [tg] e pos.line X.env = pure false := by rfl) (hw : swappedStores [tg] e X.env = pure none := by rfl)
    (h1 : (assignEach [tg] X.env).map (·.2) = [assign tg X.env] := by rfl) : PS X (.Assign [tg] e pos) (tAsg te g) := by
  intro pins s σ H D I h
  refine wpAny_Assign_stores (thn (he pins s σ H _ I h) fun v s1 ⟨x, H1, I1, r1, q1⟩ => ?_) hs hw
  rw [h1]
  exact thn (hg pins s1 σ H1 x v _ I1 r1 q1) fun _ s2 q => q
/-- name = value -/
theorem ps_set {i : Nat} {x : Str} {e : Expr} {te : TE} {pos' : Pos} (hN : X.N.Nodup) (hi : X.N[i]? = some x) (hx : Loc X.env.scope x) (he : PE X e te) (hs : swapsWith e (some (.Name x pos')) pos.line X.env = pure false := by rfl) (hf : X.fn x = true ∨ X.env.scope.names.lookup x = some .local := by first | exact .inl rfl | exact .inr rfl | assumption) :
    PS X (.Assign [.Name x pos'] e pos) (tAsg te (gName i)) := by
  intro pins s σ H D I h
  refine wpAny_Assign_Name (thn (he pins s σ H _ I h) fun v s1 ⟨y, H1, I1, r1, q1⟩ => ?_) hs
  exact store_ok I1 hN hi hx r1 (fun s2 I2 => ⟨_, H1, I2, q1⟩) hf
end

/-! ### while -/
section
variable {X : Cx} {pos : Pos}
end

/-! ### what a loop or a comprehension walks -/
/-- at turn i: it yields x (the heap may grow), or it stops -/
structure It where
  go : Nat → Hp → Prop
  yld : Nat → Hp → V → Hp → Prop
  stop : Nat → Hp → Prop
/-- the iterator's own objects may turn: they are not the frame's, not pinned, younger than the entry (or a comprehension's own) -/
def FpOk (X : Cx) (pins : List (Addr × Obj)) (H : Hp) (b : Addr) : Prop :=
  H b = none ∧ b ≠ X.env.locals ∧ b ∉ X.fs ∧ (b ∈ X.ex ∨ X.s₀.heap.objs.size ≤ b) ∧ (∀ x c, X.env.cells.lookup x = some c → c ≠ b) ∧ ∀ p ∈ X.pn ++ pins, p.1 ≠ b
theorem Inv.fpOk {X : Cx} {pins : List (Addr × Obj)} {σ : St} {H H' : Hp} {s : Shared} {b : Addr} (I : Inv X pins σ H s) (hb : s.heap.objs.size ≤ b) (hn : H' b = none) : FpOk X pins H' b := by
  refine ⟨hn, Nat.ne_of_gt (Nat.lt_of_lt_of_le I.lt hb), I.nofs hb, .inr (Nat.le_trans I.sz hb), fun x c e z => ?_, fun p hp z => ?_⟩
  · obtain ⟨v, q⟩ := I.cell x c e
    exact absurd (Nat.lt_of_lt_of_le q.lt (by rw [z]; exact hb)) (Nat.lt_irrefl _)
  · exact absurd (Nat.lt_of_lt_of_le (Heap.lt_size (I.pin p hp).1) (by rw [z]; exact hb)) (Nat.lt_irrefl _)
structure Turn (P : Program) (w : World) (K : PySem.W.Frag) (tg : Expr) (J : It) (fp : List Addr) (it : Addr) (tn : Nat → Heap → Prop) : Prop where
  mem : it ∈ fp
  obj : ∀ i h, tn i h → ∀ b ∈ fp, ∃ o, h.get? b = some o ∧ ∀ v, o.data ≠ .cell v
  keep : ∀ i h h', tn i h → (∀ b ∈ fp, ∀ o, h.get? b = some o → h'.get? b = some o) → tn i h'
  item : ∀ (X : Cx), X.prog = P → X.w = w → X.K = K → X.calm = true → ∀ (i : Nat) (pins : List (Addr × Obj)) (s : Shared) (σ : St) (H : Hp) (E : Value → Shared → Prop), Inv X pins σ H s → (∀ b ∈ fp, FpOk X pins H b) → tn i s.heap → J.go i H →
    wpAny (model P w) X.A (pyNext (.ref it)) (fun r s1 => ∃ u, r = some u ∧
      wpAny (model P w) X.A (letOwnedTupleGo tg (.ref it) u) (fun _ s2 => ∃ x H', Inv X pins σ H' s2 ∧ RelV x u ∧ J.yld i H x H' ∧ tn (i + 1) s2.heap ∧ ∀ b ∈ fp, H' b = none) E s1) E s
  done : ∀ (X : Cx), X.prog = P → X.w = w → X.K = K → X.calm = true → ∀ (i : Nat) (pins : List (Addr × Obj)) (s : Shared) (σ : St) (H : Hp) (E : Value → Shared → Prop), Inv X pins σ H s → (∀ b ∈ fp, FpOk X pins H b) → tn i s.heap → J.stop i H →
    wpAny (model P w) X.A (pyNext (.ref it)) (fun r s1 => r = none ∧ Inv X pins σ H s1) E s
  self : ∀ (A : Around) (i : Nat) (s : Shared) (Q : Value → Shared → Prop) (E : Value → Shared → Prop), tn i s.heap → Q (.ref it) s → wpAny (model P w) A (pyIter (.ref it)) Q E s
abbrev TI := St → Hp → (It → Hp → Prop) → Prop
/-- an iterator has come -/
def PIE (X : Cx) (pins : List (Addr × Obj)) (σ : St) (tg : Expr) (R : It → Hp → Prop) (itv : Value) (s2 : Shared) : Prop :=
  ∃ (it : Addr) (fp : List Addr) (tn : Nat → Heap → Prop) (J : It) (H' : Hp), itv = .ref it ∧ Inv X pins σ H' s2 ∧ Turn X.prog X.w X.K tg J fp it tn ∧ tn 0 s2.heap ∧ (∀ b ∈ fp, FpOk X pins H' b) ∧ R J H'
def PI (X : Cx) (tg iter : Expr) (wi : TI) : Prop :=
  ∀ (pins : List (Addr × Obj)) (s : Shared) (σ : St) (H : Hp) (R : It → Hp → Prop), Inv X pins σ H s → wi σ H R →
    wpAny (model X.prog X.w) X.A (eval iter X.env) (fun v s1 => wpAny (model X.prog X.w) X.A (pyIter v) (PIE X pins σ tg R) X.xe s1) X.xe s

/-- the step ahead of the store is nothing for an iterator that keeps no tuple -/
theorem go_of {M : Model} {A : Around} {E : Value → Shared → Prop} {s : Shared} {tg : Expr} {it : Addr} {u : Value} {o : Obj} {n : String} {vs : Array Value} {Q : Unit → Shared → Prop} (ho : s.heap.get? it = some o) (hc : o.cls = .type n) (hd : o.data = .fields vs)
    (hn : ["enumerate", "zip", "dict_itemiterator", "dict_reverseitemiterator", "odict_iterator", "itertools.zip_longest", "itertools.pairwise"].contains n = false) (hQ : Q () s) : wpAny M A (letOwnedTupleGo tg (.ref it) u) Q E s := by
  unfold letOwnedTupleGo
  cases tg <;> first
    | exact wpAny_pure hQ
    | (cases u <;> first
        | exact wpAny_pure hQ
        | (refine wpAny_bind (wpAny_load ho ?_)
           rw [hc, hd]
           show wpAny M A (if (["enumerate", "zip", "dict_itemiterator", "dict_reverseitemiterator", "odict_iterator", "itertools.zip_longest", "itertools.pairwise"].contains n && vs[0]? == some (rawInt _)) = true then _ else _) Q E s
           rw [if_neg (by intro h; rw [hn, Bool.false_and] at h; cases h)]
           exact wpAny_pure hQ))

/-- the list at a, as it stands at each turn (a loop may append to it) -/
def Itl (K : PySem.W.Frag) (a : Addr) : It :=
  ⟨fun i H => ∃ xs x, SqL K H a xs ∧ xs[i]? = some x, fun i H x H' => H' = H ∧ ∀ xs, SqL K H a xs → xs[i]? = some x, fun i H => ∃ xs, SqL K H a xs ∧ xs.length ≤ i⟩
def Itt (K : PySem.W.Frag) (a : Addr) : It :=
  ⟨fun i H => ∃ xs x, SqT K H a xs ∧ xs[i]? = some x, fun i H x H' => H' = H ∧ ∀ xs, SqT K H a xs → xs[i]? = some x, fun i H => ∃ xs, SqT K H a xs ∧ xs.length ≤ i⟩
/-- lo, lo + 1, .. (n of them) -/
def Itr (lo : Int) (n : Nat) : It := ⟨fun i _ => i < n, fun i H x H' => H' = H ∧ x = .int (lo + i), fun i _ => n ≤ i⟩
theorem turn_list {P : Program} {w : World} {K : PySem.W.Frag} {tg : Expr} (a it : Addr) : Turn P w K tg (Itl K a) [it] it (fun i h => h.IsListIter it a i) where
  mem := by simp
  obj := fun i h st b hb => by
    have e : b = it := by simpa using hb
    subst e
    obtain ⟨o, e, c, d⟩ := st
    exact ⟨o, e, fun v z => by rw [d] at z; cases z⟩
  keep := fun i h h' st k => st.at fun o e => k it (by simp) o e
  item := by
    intro X hP hw hK hc i pins s σ H E I hf st hg
    subst hP hw hK
    obtain ⟨xs, x, hq, hx⟩ := hg
    obtain ⟨its, rv, p, hz⟩ := I.list hq
    obtain ⟨u, hu, ru⟩ := rv.get hx
    obtain ⟨f0, f1, f2, f3, f4, f5⟩ := hf it (by simp)
    refine wpAny_pyNext_list_item st p.isList (x := u) (by simpa using hu) fun h' st' sb => ?_
    have I1 : Inv X pins σ H { s with heap := h' } := I.turned (t' := s.toks) (fun b o hb e => (sb.2 b hb).trans e) f0 f1 f3 f4 f5
    obtain ⟨o, e, c, d⟩ := id st'
    exact ⟨u, rfl, go_of (s := { s with heap := h' }) e c d (by decide) ⟨x, H, I1, ru, ⟨rfl, fun ys hy => by rw [I.list_inj hy hq]; exact hx⟩, st', fun b hb => (hf b hb).1⟩⟩
  done := by
    intro X hP hw hK hc i pins s σ H E I hf st hg
    subst hP hw hK
    obtain ⟨xs, hq, hx⟩ := hg
    obtain ⟨its, rv, p, hz⟩ := I.list hq
    obtain ⟨f0, f1, f2, f3, f4, f5⟩ := hf it (by simp)
    have hl := rv.length
    exact wpAny_pyNext_list_end (I.ok.hd hc) st p.isList (by simp; omega) fun h' eb => ⟨rfl, I.turned (t' := s.toks) (fun b o hb e => eb b o hb e) f0 f1 f3 f4 f5⟩
  self := fun _ _ _ _ _ st h => wpAny_pyIter_listiter st h
theorem turn_tuple {P : Program} {w : World} {K : PySem.W.Frag} {tg : Expr} (a it : Addr) : Turn P w K tg (Itt K a) [it] it (fun i h => h.IsTupleIter it a i) where
  mem := by simp
  obj := fun i h st b hb => by
    have e : b = it := by simpa using hb
    subst e
    obtain ⟨o, e, c, d⟩ := st
    exact ⟨o, e, fun v z => by rw [d] at z; cases z⟩
  keep := fun i h h' st k => st.at fun o e => k it (by simp) o e
  item := by
    intro X hP hw hK hc i pins s σ H E I hf st hg
    subst hP hw hK
    obtain ⟨xs, x, hq, hx⟩ := hg
    obtain ⟨its, rv, p, hz⟩ := I.tuple hq
    obtain ⟨u, hu, ru⟩ := rv.get hx
    obtain ⟨f0, f1, f2, f3, f4, f5⟩ := hf it (by simp)
    refine wpAny_pyNext_tuple_item st (show s.heap.IsTuple a its.toArray from p) (x := u) (by simpa using hu) fun h' st' sb => ?_
    have I1 : Inv X pins σ H { s with heap := h' } := I.turned (t' := s.toks) (fun b o hb e => (sb.2 b hb).trans e) f0 f1 f3 f4 f5
    obtain ⟨o, e, c, d⟩ := id st'
    exact ⟨u, rfl, go_of (s := { s with heap := h' }) e c d (by decide) ⟨x, H, I1, ru, ⟨rfl, fun ys hy => by rw [I.tuple_inj hy hq]; exact hx⟩, st', fun b hb => (hf b hb).1⟩⟩
  done := by
    intro X hP hw hK hc i pins s σ H E I hf st hg
    subst hP hw hK
    obtain ⟨xs, hq, hx⟩ := hg
    obtain ⟨its, rv, p, hz⟩ := I.tuple hq
    obtain ⟨f0, f1, f2, f3, f4, f5⟩ := hf it (by simp)
    have hl := rv.length
    exact wpAny_pyNext_tuple_end (I.ok.hd hc) st (show s.heap.IsTuple a its.toArray from p) (by simp; omega) fun h' eb => ⟨rfl, I.turned (t' := s.toks) (fun b o hb e => eb b o hb e) f0 f1 f3 f4 f5⟩
  self := fun _ _ _ _ _ st h => wpAny_pyIter_tupleiter st h
theorem turn_range {P : Program} {w : World} {K : PySem.W.Frag} {tg : Expr} (it : Addr) (lo : Int) (n : Nat) : Turn P w K tg (Itr lo n) [it] it (fun i h => IsRangeIter h it (lo + (i : Nat) * 1) ((n : Int) - (i : Nat)) 1) where
  mem := by simp
  obj := fun i h st b hb => by
    have e : b = it := by simpa using hb
    subst e
    exact ⟨_, st, fun v z => by
      have z' : Data.fields _ = Data.cell v := z
      cases z'⟩
  keep := fun i h h' st k => k it (by simp) _ st
  item := by
    intro X hP hw hK hc i pins s σ H E I hf st hg
    subst hP hw hK
    obtain ⟨f0, f1, f2, f3, f4, f5⟩ := hf it (by simp)
    have W := Walks.range (prog := X.prog) (w := X.w) (I.ok.hd hc) it lo 1 n
    refine W.item i s _ _ hg st fun v h' tk hv st' kk => ?_
    obtain ⟨t, rfl⟩ := hv
    have I1 : Inv X pins σ H { s with heap := h', toks := tk } := I.turned (fun b o hb e => kk b o (by simpa using hb) e) f0 f1 f3 f4 f5
    refine ⟨_, rfl, go_of (s := { s with heap := h', toks := tk }) (n := "range_iterator") st' rfl rfl (by decide) ⟨.int (lo + i), H, I1, ⟨t, ?_⟩, ⟨rfl, rfl⟩, st', fun b hb => (hf b hb).1⟩⟩
    rw [Int.mul_one]
  done := by
    intro X hP hw hK hc i pins s σ H E I hf st hg
    subst hP hw hK
    obtain ⟨f0, f1, f2, f3, f4, f5⟩ := hf it (by simp)
    exact wpAny_pyNext_range_end (I.ok.hd hc) st (by have : n ≤ i := hg; omega) fun h' eb => ⟨rfl, I.turned (t' := s.toks) (fun b o hb e => eb b o hb e) f0 f1 f3 f4 f5⟩
  self := fun _ _ _ _ _ st h => wpAny_pyIter_rangeiter st h
end L2

namespace L2
open PySem PySem.Spec PyProof.Rows
section
variable {X : Cx} {tg : Expr}
def iList (K : PySem.W.Frag) (tl : TE) : TI := fun σ H R => tl σ H fun x H1 => ∃ a, x = .ref a ∧ (∃ xs, SqL K H1 a xs) ∧ R (Itl K a) H1
def iTup (K : PySem.W.Frag) (tl : TE) : TI := fun σ H R => tl σ H fun x H1 => ∃ a, x = .ref a ∧ (∃ xs, SqT K H1 a xs) ∧ R (Itt K a) H1
theorem pi_list {l : Expr} {tl : TE} (hl : PE X l tl) : PI X tg l (iList X.K tl) := by
  intro pins s σ H R I h
  refine thn (hl pins s σ H _ I h) fun v s1 ⟨x, H1, I1, r1, q1⟩ => ?_
  obtain ⟨a, e, ⟨xs, hq⟩, q⟩ := q1
  subst e
  cases r1
  obtain ⟨its, rv, p, hz⟩ := I1.list hq
  refine wpAny_pyIter_list p.isList ?_
  refine ⟨s1.heap.objs.size, [s1.heap.objs.size], _, _, H1, rfl, I1.kept (t' := s1.toks) fun b o e => Heap.get?_push_of_some _ e, turn_list a _, ⟨_, Heap.get?_push_size _ rfl, rfl, rfl⟩, fun b hb => ?_, q⟩
  have e : b = s1.heap.objs.size := by simpa using hb
  subst e
  exact I1.fpOk (Nat.le_refl _) (I1.hok.fresh (Nat.le_refl _))
theorem pi_tup {l : Expr} {tl : TE} (hl : PE X l tl) : PI X tg l (iTup X.K tl) := by
  intro pins s σ H R I h
  refine thn (hl pins s σ H _ I h) fun v s1 ⟨x, H1, I1, r1, q1⟩ => ?_
  obtain ⟨a, e, ⟨xs, hq⟩, q⟩ := q1
  subst e
  cases r1
  obtain ⟨its, rv, p, hz⟩ := I1.tuple hq
  refine wpAny_pyIter_tuple (show s1.heap.IsTuple a its.toArray from p) ?_
  refine ⟨s1.heap.objs.size, [s1.heap.objs.size], _, _, H1, rfl, I1.kept (t' := s1.toks) fun b o e => Heap.get?_push_of_some _ e, turn_tuple a _, ⟨_, Heap.get?_push_size _ rfl, rfl, rfl⟩, fun b hb => ?_, q⟩
  have e : b = s1.heap.objs.size := by simpa using hb
  subst e
  exact I1.fpOk (Nat.le_refl _) (I1.hok.fresh (Nat.le_refl _))
/-- a range object just made, walked -/
theorem range_it {pins : List (Addr × Obj)} {σ : St} {H : Hp} {s : Shared} {R : It → Hp → Prop} {E : Value → Shared → Prop} {lo hi : Int} {t u v : Tok} {tk : Nat} (I : Inv X pins σ H s) (h1 : -(2 ^ 62) ≤ lo) (h2 : lo < 2 ^ 62) (h3 : -(2 ^ 62) ≤ hi) (h4 : hi < 2 ^ 62)
    (q : R (Itr lo (hi - lo).toNat) H) : wpAny (model X.prog X.w) X.A (pyIter (.ref s.heap.objs.size)) (PIE X pins σ tg R) E { s with heap := s.heap.push { cls := .type "range", data := .fields #[.int lo t, .int hi u, .int 1 v] }, toks := tk } := by
  refine wpAny_pyIter_range (IsRange.new ..) (small_one h1 h2 h3 h4) ?_
  have I1 : Inv X pins σ H { s with heap := s.heap.push { cls := .type "range", data := .fields #[.int lo t, .int hi u, .int 1 v] }, toks := tk } := I.kept fun b o e => Heap.get?_push_of_some _ e
  refine ⟨(s.heap.push { cls := .type "range", data := .fields #[.int lo t, .int hi u, .int 1 v] }).objs.size, [(s.heap.push { cls := .type "range", data := .fields #[.int lo t, .int hi u, .int 1 v] }).objs.size], _, _, H, rfl,
    I1.kept (t' := tk) fun b o e => Heap.get?_push_of_some _ e, turn_range _ lo (hi - lo).toNat, ?_, fun b hb => ?_, q⟩
  · have e1 : lo + ((0 : Nat) : Int) * 1 = lo := by simp
    have e2 : (((hi - lo).toNat : Nat) : Int) - ((0 : Nat) : Int) = Builtin.Range.rangeSize lo hi 1 := by rw [rangeSize_one]; split <;> omega
    show IsRangeIter _ _ (lo + ((0 : Nat) : Int) * 1) ((((hi - lo).toNat : Nat) : Int) - ((0 : Nat) : Int)) 1
    rw [e1, e2]
    exact Heap.get?_push_size _ rfl
  · have e : b = (s.heap.push { cls := .type "range", data := .fields #[.int lo t, .int hi u, .int 1 v] }).objs.size := by simpa using hb
    subst e
    exact I1.fpOk (Nat.le_refl _) (I1.hok.fresh (Nat.le_refl _))
def iRng1 (ta : TA) : TI := fun σ H R => ta σ H fun vs H1 => ∃ j : Int, vs = [.int j] ∧ -(2 ^ 62) ≤ j ∧ j < 2 ^ 62 ∧ R (Itr 0 j.toNat) H1
def iRng2 (ta : TA) : TI := fun σ H R => ta σ H fun vs H1 => ∃ i j : Int, vs = [.int i, .int j] ∧ (-(2 ^ 62) ≤ i ∧ i < 2 ^ 62 ∧ -(2 ^ 62) ≤ j ∧ j < 2 ^ 62) ∧ R (Itr i (j - i).toNat) H1
theorem pi_range1 {a : Expr} {ta : TA} {p pos : Pos} (hg : Gl X "range") (hm : X.mg "range" = none) (ha : PA X [a] ta) (hs : starEach [a] X.env = [(false, eval a X.env)] := by rfl) : PI X tg (.Call (.Name "range" p) [a] [] pos) (iRng1 ta) := by
  intro pins s σ H R I h
  refine Call_ (ld_blt I hg hm boot_range (PyProof.Rows.callWith_type1 (thn (ha pos pins s σ H _ I h) fun us s1 ⟨vs, H1, I1, r1, q1⟩ => ?_) hs rfl))
  obtain ⟨j, e, q1, q2, q⟩ := q1
  subst e
  cases r1 with
  | cons r rr =>
    cases rr
    obtain ⟨t, rfl⟩ := r
    exact call_range_1 (range_it I1 (by omega) (by omega) q1 q2 (by simpa using q))
theorem pi_range2 {a b : Expr} {ta : TA} {p pos : Pos} (hg : Gl X "range") (hm : X.mg "range" = none) (ha : PA X [a, b] ta) (hs : starEach [a, b] X.env = [(false, eval a X.env), (false, eval b X.env)] := by rfl) (hs2 : starEach [b] X.env = [(false, eval b X.env)] := by rfl) :
    PI X tg (.Call (.Name "range" p) [a, b] [] pos) (iRng2 ta) := by
  intro pins s σ H R I h
  refine Call_ (ld_blt I hg hm boot_range (PyProof.Rows.callWith_type1 (thn (ha pos pins s σ H _ I h) fun us s1 ⟨vs, H1, I1, r1, q1⟩ => ?_) (by rw [hs, hs2]) (by rw [hs2]; rfl)))
  obtain ⟨i, j, e, ⟨q1, q2, q3, q4⟩, q⟩ := q1
  subst e
  cases r1 with
  | cons r rr =>
    cases rr with
    | cons r' rr =>
      cases rr
      obtain ⟨t, rfl⟩ := r
      obtain ⟨t', rfl⟩ := r'
      exact call_range_2 (range_it I1 q1 q2 q3 q4 q)

/-! ### for -/
/-- W: the invariant by the turn and a measure; N: what the body is to reach -/
def tFor (wi : TI) (g : TG) (tb : TS) : TS := fun D σ H => wi σ H fun J H1 => ∃ W : Nat → Nat → St → Hp → Prop, (∃ m, W 0 m σ H1) ∧ ∀ i m σ H, W i m σ H →
  (J.stop i H ∧ D.nx σ H) ∨ (J.go i H ∧ ∃ N : St → Hp → Prop, (∀ σ' H', N σ' H' → ∃ m', m' < m ∧ W (i + 1) m' σ' H') ∧ ∀ x H', J.yld i H x H' → g x σ H' fun σ2 H2 => tb { D with nx := N, ct := N, bk := D.nx } σ2 H2)
/-- the records at fp as they stand -/
def pinsAt (fp : List Addr) (h : Heap) : List (Addr × Obj) := fp.filterMap fun b => (h.get? b).map fun o => (b, o)
theorem mem_pinsAt {fp : List Addr} {h : Heap} {b : Addr} {o : Obj} (hb : b ∈ fp) (e : h.get? b = some o) : (b, o) ∈ pinsAt fp h := List.mem_filterMap.mpr ⟨b, hb, by rw [e]; rfl⟩
theorem of_pinsAt {fp : List Addr} {h : Heap} {p : Addr × Obj} (hp : p ∈ pinsAt fp h) : p.1 ∈ fp ∧ h.get? p.1 = some p.2 := by
  obtain ⟨b, hb, e⟩ := List.mem_filterMap.mp hp
  cases q : h.get? b with
  | none => rw [q] at e; cases e
  | some o =>
    rw [q] at e
    have e' : (b, o) = p := Option.some.inj e
    subst e'
    exact ⟨hb, q⟩
theorem Inv.pinned {pins : List (Addr × Obj)} {σ : St} {H : Hp} {s : Shared} {fp : List Addr} (I : Inv X pins σ H s) (hf : ∀ b ∈ fp, FpOk X pins H b) (ho : ∀ b ∈ fp, ∃ o, s.heap.get? b = some o ∧ ∀ v, o.data ≠ .cell v) : Inv X (pins ++ pinsAt fp s.heap) σ H s :=
  I.pins_of fun p hp => (List.mem_append.mp hp).elim (fun z => I.pin p (List.mem_append_right _ z)) fun z => by
    obtain ⟨hb, e⟩ := of_pinsAt z
    obtain ⟨f0, f1, f2, _⟩ := hf p.1 hb
    obtain ⟨o, e', d⟩ := ho p.1 hb
    rw [e] at e'; cases e'
    exact ⟨e, f0, f1, f2, d⟩
theorem Inv.unpinned {pins pl : List (Addr × Obj)} {σ : St} {H : Hp} {s : Shared} (I : Inv X (pins ++ pl) σ H s) : Inv X pins σ H s := I.pins_of fun p hp => I.pin p (List.mem_append_right _ (List.mem_append_left _ hp))
theorem ps_for {iter : Expr} {body : List Stmt} {wi : TI} {g : TG} {tb : TS} {pos : Pos} (hp : PassesOwn (model X.prog X.w) X.A X.env X.xe) (hc : X.calm = true) (hi : PI X tg iter wi) (hg : PG X tg g) (hb : PSs X body tb)
    (hs : ∀ x, foldedSetIterable iter X.env x = pure x := by intro _; rfl) : PS X (.For tg iter body [] pos) (tFor wi g tb) := by
  intro pins s σ H D I h
  refine wpAny_For (thn (hi pins s σ H _ I h) fun v s1 h1 => thn h1 fun itv s2 h2 => ?_) hs
  obtain ⟨it, fp, tn, J, H2, e, I2, T, st2, f2, W, ⟨m0, w0⟩, turn⟩ := h2
  subst e
  -- what stays true of the iterator's objects through the loop
  have stat : ∀ {H' : Hp}, (∀ b ∈ fp, H' b = none) → ∀ b ∈ fp, FpOk X pins H' b := fun hn b hb => ⟨hn b hb, (f2 b hb).2⟩
  refine codeAny_forLoop_any (fun n s' => ∃ i σ' H', Inv X pins σ' H' s' ∧ tn i s'.heap ∧ (∀ b ∈ fp, H' b = none) ∧ W i n σ' H') ?_ m0 ⟨0, σ, H2, I2, st2, fun b hb => (f2 b hb).1, w0⟩
  rintro n s3 ⟨i, σ3, H3, I3, st3, fr3, w3⟩
  rcases turn i n σ3 H3 w3 with ⟨stop, qn⟩ | ⟨go, N, hN, step⟩
  · refine wpAny_passesOwn hp (thn (T.done X rfl rfl rfl hc i pins s3 σ3 H3 X.xe I3 (stat fr3) st3 stop) fun r s4 ⟨hr, I4⟩ => ?_)
    subst hr
    exact wpAny_execs_nil ⟨σ3, H3, I4, qn⟩
  · refine wpAny_passesOwn hp (thn (T.item X rfl rfl rfl hc i pins s3 σ3 H3 X.xe I3 (stat fr3) st3 go) fun r s4 ⟨u, hr, h4⟩ => ?_)
    subst hr
    refine wpAny_passesOwn hp (thn h4 fun _ s5 ⟨x, H5, I5, r5, y5, st5, fr5⟩ => ?_)
    have I5' := I5.pinned (stat fr5) (T.obj _ _ st5)
    refine wpAny_passesOwn hp (thn (hg _ s5 σ3 H5 x u _ I5' r5 (step x H5 y5)) fun _ s6 ⟨σ6, H6, I6, q6⟩ => ?_)
    refine wpAny_passesOwn hp (thn (hb _ s6 σ6 H6 _ I6 q6) fun f s7 q7 => ?_)
    have again : ∀ {σ7 : St} {H7 : Hp}, Inv X (pins ++ pinsAt fp s5.heap) σ7 H7 s7 → N σ7 H7 → ∃ m, m < n ∧ ∃ i σ' H', Inv X pins σ' H' s7 ∧ tn i s7.heap ∧ (∀ b ∈ fp, H' b = none) ∧ W i m σ' H' := fun {σ7 H7} I7 n7 => by
      obtain ⟨m', hm, w7⟩ := hN σ7 H7 n7
      refine ⟨m', hm, i + 1, σ7, H7, I7.unpinned, T.keep _ _ _ st5 fun b hb o e => (I7.pin (b, o) (List.mem_append_right _ (List.mem_append_right _ (mem_pinsAt hb e)))).1, fun b hb => ?_, w7⟩
      obtain ⟨o, e, d⟩ := T.obj _ _ st5 b hb
      exact (I7.pin (b, o) (List.mem_append_right _ (List.mem_append_right _ (mem_pinsAt hb e)))).2.1
    cases f with
    | next => obtain ⟨σ7, H7, I7, n7⟩ := q7; exact again I7 n7
    | cont => obtain ⟨σ7, H7, I7, n7⟩ := q7; exact again I7 n7
    | brk => obtain ⟨σ7, H7, I7, q7⟩ := q7; exact ⟨σ7, H7, I7.unpinned, q7⟩
    | ret v => obtain ⟨x7, σ7, H7, I7, r7, q7⟩ := q7; exact ⟨x7, σ7, H7, I7.unpinned, r7, q7⟩
end

/-! ### the forms one uses -/
/-- over a list that the body leaves as it is -/
theorem for_list {K : PySem.W.Frag} {a : Addr} {xs : List V} {g : TG} {tb : TS} {D : Ends} {σ : St} {H : Hp} (Pv : Nat → St → Hp → Prop) (h0 : Pv 0 σ H) (hl : ∀ i σ H, i ≤ xs.length → Pv i σ H → SqL K H a xs)
    (hs : ∀ i x σ H, xs[i]? = some x → Pv i σ H → g x σ H fun σ2 H2 => tb { D with nx := Pv (i + 1), ct := Pv (i + 1), bk := D.nx } σ2 H2) (hd : ∀ σ H, Pv xs.length σ H → D.nx σ H) :
    ∃ W : Nat → Nat → St → Hp → Prop, (∃ m, W 0 m σ H) ∧ ∀ i m σ H, W i m σ H →
      ((Itl K a).stop i H ∧ D.nx σ H) ∨ ((Itl K a).go i H ∧ ∃ N : St → Hp → Prop, (∀ σ' H', N σ' H' → ∃ m', m' < m ∧ W (i + 1) m' σ' H') ∧ ∀ x H', (Itl K a).yld i H x H' → g x σ H' fun σ2 H2 => tb { D with nx := N, ct := N, bk := D.nx } σ2 H2) := by
  refine ⟨fun i m σ H => m = xs.length - i ∧ i ≤ xs.length ∧ Pv i σ H, ⟨xs.length, by simp, Nat.zero_le _, h0⟩, ?_⟩
  rintro i m σ H ⟨rfl, hi, p⟩
  have q := hl i σ H hi p
  by_cases hlt : i < xs.length
  · refine .inr ⟨⟨xs, xs[i], q, by simp [hlt]⟩, Pv (i + 1), fun σ' H' p' => ⟨xs.length - (i + 1), by omega, rfl, hlt, p'⟩, fun x H' y => ?_⟩
    obtain ⟨e, y⟩ := y
    subst e
    exact hs i x σ _ (y xs q) p
  · have e : i = xs.length := by omega
    subst e
    exact .inl ⟨⟨xs, q, Nat.le_refl _⟩, hd σ H p⟩
theorem for_tup {K : PySem.W.Frag} {a : Addr} {xs : List V} {g : TG} {tb : TS} {D : Ends} {σ : St} {H : Hp} (Pv : Nat → St → Hp → Prop) (h0 : Pv 0 σ H) (hl : ∀ i σ H, i ≤ xs.length → Pv i σ H → SqT K H a xs)
    (hs : ∀ i x σ H, xs[i]? = some x → Pv i σ H → g x σ H fun σ2 H2 => tb { D with nx := Pv (i + 1), ct := Pv (i + 1), bk := D.nx } σ2 H2) (hd : ∀ σ H, Pv xs.length σ H → D.nx σ H) :
    ∃ W : Nat → Nat → St → Hp → Prop, (∃ m, W 0 m σ H) ∧ ∀ i m σ H, W i m σ H →
      ((Itt K a).stop i H ∧ D.nx σ H) ∨ ((Itt K a).go i H ∧ ∃ N : St → Hp → Prop, (∀ σ' H', N σ' H' → ∃ m', m' < m ∧ W (i + 1) m' σ' H') ∧ ∀ x H', (Itt K a).yld i H x H' → g x σ H' fun σ2 H2 => tb { D with nx := N, ct := N, bk := D.nx } σ2 H2) := by
  refine ⟨fun i m σ H => m = xs.length - i ∧ i ≤ xs.length ∧ Pv i σ H, ⟨xs.length, by simp, Nat.zero_le _, h0⟩, ?_⟩
  rintro i m σ H ⟨rfl, hi, p⟩
  have q := hl i σ H hi p
  by_cases hlt : i < xs.length
  · refine .inr ⟨⟨xs, xs[i], q, by simp [hlt]⟩, Pv (i + 1), fun σ' H' p' => ⟨xs.length - (i + 1), by omega, rfl, hlt, p'⟩, fun x H' y => ?_⟩
    obtain ⟨e, y⟩ := y
    subst e
    exact hs i x σ _ (y xs q) p
  · have e : i = xs.length := by omega
    subst e
    exact .inl ⟨⟨xs, q, Nat.le_refl _⟩, hd σ H p⟩
theorem for_range {lo : Int} {n : Nat} {g : TG} {tb : TS} {D : Ends} {σ : St} {H : Hp} (Pv : Nat → St → Hp → Prop) (h0 : Pv 0 σ H)
    (hs : ∀ i σ H, i < n → Pv i σ H → g (.int (lo + i)) σ H fun σ2 H2 => tb { D with nx := Pv (i + 1), ct := Pv (i + 1), bk := D.nx } σ2 H2) (hd : ∀ σ H, Pv n σ H → D.nx σ H) :
    ∃ W : Nat → Nat → St → Hp → Prop, (∃ m, W 0 m σ H) ∧ ∀ i m σ H, W i m σ H →
      ((Itr lo n).stop i H ∧ D.nx σ H) ∨ ((Itr lo n).go i H ∧ ∃ N : St → Hp → Prop, (∀ σ' H', N σ' H' → ∃ m', m' < m ∧ W (i + 1) m' σ' H') ∧ ∀ x H', (Itr lo n).yld i H x H' → g x σ H' fun σ2 H2 => tb { D with nx := N, ct := N, bk := D.nx } σ2 H2) := by
  refine ⟨fun i m σ H => m = n - i ∧ i ≤ n ∧ Pv i σ H, ⟨n, by simp, Nat.zero_le _, h0⟩, ?_⟩
  rintro i m σ H ⟨rfl, hi, p⟩
  by_cases hlt : i < n
  · refine .inr ⟨hlt, Pv (i + 1), fun σ' H' p' => ⟨n - (i + 1), by omega, rfl, hlt, p'⟩, fun x H' y => ?_⟩
    obtain ⟨e, y⟩ := y
    subst e y
    exact hs i σ _ hlt p
  · have e : i = n := by omega
    subst e
    exact .inl ⟨Nat.le_refl _, hd σ H p⟩
end L2

namespace L2
open PySem PySem.Spec PyProof.Rows

abbrev R2 := V → V → Hp → VK → Prop
/-- a two-place operation on values: f is binaryOp op, inplaceOp op or compareOp op -/
def OpR (X : Cx) (f : Value → Value → Sem Value) (r : R2) : Prop :=
  ∀ (pins : List (Addr × Obj)) (s : Shared) (σ : St) (H : Hp) (x y : V) (v u : Value) (Q : VK), Inv X pins σ H s → RelV x v → RelV y u → r x y H Q →
    wpAny (model X.prog X.w) X.A (f v u) (EP X pins σ Q) X.xe s
/-- a one-place operation -/
def UnR (X : Cx) (f : Value → Sem Value) (r : V → Hp → VK → Prop) : Prop :=
  ∀ (pins : List (Addr × Obj)) (s : Shared) (σ : St) (H : Hp) (x : V) (v : Value) (Q : VK), Inv X pins σ H s → RelV x v → r x H Q →
    wpAny (model X.prog X.w) X.A (f v) (EP X pins σ Q) X.xe s
/-- a call of a value that is known (a builtin, a type) with values -/
def CallR (X : Cx) (f : Value) (r : List V → Hp → VK → Prop) : Prop :=
  ∀ (pins : List (Addr × Obj)) (s : Shared) (σ : St) (H : Hp) (xs : List V) (us : List Value) (Q : VK), Inv X pins σ H s → Vals xs us → r xs H Q →
    wpAny (model X.prog X.w) X.A (call f us) (EP X pins σ Q) X.xe s
/-- a value's truth -/
def TruR (X : Cx) (r : V → Hp → (Bool → Hp → Prop) → Prop) : Prop :=
  ∀ (pins : List (Addr × Obj)) (s : Shared) (σ : St) (H : Hp) (x : V) (v : Value) (Q : Bool → Hp → Prop), Inv X pins σ H s → RelV x v → r x H Q →
    wpAny (model X.prog X.w) X.A (truthy v) (TP X pins σ Q) X.xe s

def tOp (r : R2) (ta tb : TE) : TE := fun σ H Q => ta σ H fun x H1 => tb σ H1 fun y H2 => r x y H2 Q
def tUn (r : V → Hp → VK → Prop) (ta : TE) : TE := fun σ H Q => ta σ H fun x H1 => r x H1 Q
/-- ints in, under C, and a value out -/
def rI (C : Int → Int → Prop) (g : Int → Int → V) : R2 := fun x y H Q => ∃ i j, x = .int i ∧ y = .int j ∧ C i j ∧ Q (g i j) H
def rI0 (g : Int → Int → V) : R2 := fun x y H Q => ∃ i j, x = .int i ∧ y = .int j ∧ Q (g i j) H
def rU (g : Int → V) : V → Hp → VK → Prop := fun x H Q => ∃ i, x = .int i ∧ Q (g i) H

section
variable {X : Cx} {a b c : Expr} {ta tb tc : TE} {pos : Pos}

theorem binT (ha : PE X a ta) (hb : PE X b tb) {pins : List (Addr × Obj)} {s : Shared} {σ : St} {H : Hp} {R : V → V → Hp → Prop} (I : Inv X pins σ H s)
    (h : ta σ H fun x H1 => tb σ H1 fun y H2 => R x y H2) {Q : Value → Shared → Prop} {f : Value → Value → Sem Value}
    (hf : ∀ v u s2 x y H2, Inv X pins σ H2 s2 → RelV x v → RelV y u → R x y H2 → wpAny (model X.prog X.w) X.A (f v u) Q X.xe s2) :
    wpAny (model X.prog X.w) X.A (eval a X.env) (fun v s₁ => wpAny (model X.prog X.w) X.A (eval b X.env) (fun u s₂ => wpAny (model X.prog X.w) X.A (f v u) Q X.xe s₂) X.xe s₁) X.xe s := by
  refine thn (ha pins s σ H _ I h) fun v s1 ⟨x, H1, I1, r1, q1⟩ => ?_
  refine thn (hb pins s1 σ H1 _ I1 q1) fun u s2 ⟨y, H2, I2, r2, q2⟩ => ?_
  exact hf v u s2 x y H2 I2 r1 r2 q2

theorem pe_op {op : Operator} {r : R2} (ho : OpR X (binaryOp op) r) (ha : PE X a ta) (hb : PE X b tb) : PE X (.BinOp a op b pos) (tOp r ta tb) := by
  intro pins s σ H Q I h
  exact wpAny_BinOp (binT ha hb I h fun v u s2 x y H2 I2 rx ry q => ho pins s2 σ H2 x y v u Q I2 rx ry q)
theorem pe_un {op : UnaryOp} {r : V → Hp → VK → Prop} (ho : UnR X (unaryOp op) r) (ha : PE X a ta) : PE X (.UnaryOp op a pos) (tUn r ta) := by
  intro pins s σ H Q I h
  exact UnaryOp_ (thn (ha pins s σ H _ I h) fun v s1 ⟨x, H1, I1, r1, q1⟩ => ho pins s1 σ H1 x v Q I1 r1 q1)
/-! ### ints -/
theorem opI {f : Value → Value → Sem Value} {C : Int → Int → Prop} {g : Int → Int → Int}
    (rule : ∀ (i j : Int) (t u : Tok) (s : Shared) (Q : Value → Shared → Prop) (E : Value → Shared → Prop), C i j → Q (.int (g i j) s.toks) { s with toks := s.toks + 1 } → wpAny (model X.prog X.w) X.A (f (.int i t) (.int j u)) Q E s) :
    OpR X f (rI C fun i j => .int (g i j)) := by
  intro pins s σ H x y v u Q I rx ry h
  obtain ⟨i, j, rfl, rfl, hc, q⟩ := h
  obtain ⟨t, rfl⟩ := rx
  obtain ⟨t', rfl⟩ := ry
  exact rule i j t t' s _ _ hc ⟨.int (g i j), H, I.tok _, ⟨_, rfl⟩, q⟩
theorem opI0 {f : Value → Value → Sem Value} {g : Int → Int → Int}
    (rule : ∀ (i j : Int) (t u : Tok) (s : Shared) (Q : Value → Shared → Prop) (E : Value → Shared → Prop), Q (.int (g i j) s.toks) { s with toks := s.toks + 1 } → wpAny (model X.prog X.w) X.A (f (.int i t) (.int j u)) Q E s) :
    OpR X f (rI0 fun i j => .int (g i j)) := by
  intro pins s σ H x y v u Q I rx ry h
  obtain ⟨i, j, rfl, rfl, q⟩ := h
  obtain ⟨t, rfl⟩ := rx
  obtain ⟨t', rfl⟩ := ry
  exact rule i j t t' s _ _ ⟨.int (g i j), H, I.tok _, ⟨_, rfl⟩, q⟩
theorem opB0 {f : Value → Value → Sem Value} {g : Int → Int → Bool}
    (rule : ∀ (i j : Int) (t u : Tok) (s : Shared) (Q : Value → Shared → Prop) (E : Value → Shared → Prop), Q (.bool (g i j)) s → wpAny (model X.prog X.w) X.A (f (.int i t) (.int j u)) Q E s) :
    OpR X f (rI0 fun i j => .bl (g i j)) := by
  intro pins s σ H x y v u Q I rx ry h
  obtain ⟨i, j, rfl, rfl, q⟩ := h
  obtain ⟨t, rfl⟩ := rx
  obtain ⟨t', rfl⟩ := ry
  exact rule i j t t' s _ _ ⟨.bl (g i j), H, I, rfl, q⟩

def CDiv (i j : Int) : Prop := 0 < j ∧ j < 1073741824
def CPow (i j : Int) : Prop := 0 ≤ j ∧ j ≤ 1000000 ∧ i.natAbs < 2 ^ 64
def CMul (i j : Int) : Prop := (-(2 ^ 64) < i ∧ i < 2 ^ 64) ∨ (-(2 ^ 64) < j ∧ j < 2 ^ 64)
theorem CMul.ok {i j : Int} (h : CMul i j) : IntMulOk i j := by
  rcases h with ⟨h1, h2⟩ | ⟨h1, h2⟩
  · exact .of_left (intBits_le_64 h1 h2)
  · exact .of_right (intBits_le_64 h1 h2)
theorem op_add : OpR X (binaryOp .Add) (rI0 fun i j => .int (i + j)) := opI0 fun _ _ _ _ _ _ _ q => add_int q
theorem op_mul : OpR X (binaryOp .Mult) (rI CMul fun i j => .int (i * j)) := opI fun _ _ _ _ _ _ _ hc q => mul_int q hc.ok
/-- // by a positive divisor -/
theorem op_fdiv : OpR X (binaryOp .FloorDiv) (rI CDiv fun i j => .int (i / j)) := opI fun i j _ _ _ _ _ hc q => by
  have h1 : (0 : Int) < j := hc.1
  have h2 : j < 1073741824 := hc.2
  exact floordiv_int (by omega) (by rw [Int.fdiv_eq_ediv_of_nonneg i (by omega)]; exact q) (.inl (PyProof.noPylong_small (by omega)))
/-- % by a positive divisor of any size -/
theorem op_mod : OpR X (binaryOp .Mod) (rI (fun _ j => 0 < j) fun i j => .int (i % j)) := opI fun i j _ _ _ _ _ hc q => by
  have h1 : (0 : Int) < j := hc
  exact mod_int' (by omega) (by rw [Int.fmod_eq_emod_of_nonneg i (by omega)]; exact q)
theorem op_pow : OpR X (binaryOp .Pow) (rI CPow fun i j => .int (i ^ j.toNat)) := opI fun _ _ _ _ _ _ _ hc q => pow_int_small hc.1 hc.2.1 hc.2.2 q
theorem unI {f : Value → Sem Value} {g : Int → Int}
    (rule : ∀ (i : Int) (t : Tok) (s : Shared) (Q : Value → Shared → Prop) (E : Value → Shared → Prop), Q (.int (g i) s.toks) { s with toks := s.toks + 1 } → wpAny (model X.prog X.w) X.A (f (.int i t)) Q E s) :
    UnR X f (rU fun i => .int (g i)) := by
  intro pins s σ H x v Q I rx h
  obtain ⟨i, rfl, q⟩ := h
  obtain ⟨t, rfl⟩ := rx
  exact rule i t s _ _ ⟨.int (g i), H, I.tok _, ⟨_, rfl⟩, q⟩
theorem un_neg : UnR X (unaryOp .USub) (rU fun i => .int (-i)) := unI fun _ _ _ _ _ q => neg_int q
/-! ### bools among ints: n += (a < b) -/
end

/-! ### comparisons -/
/-- the scalars that == tells apart as data does -/
def scal : V → V → Bool
  | .non, .non => true | .non, .int _ => true | .int _, .non => true | .non, .bl _ => true | .bl _, .non => true | .non, .str _ => true | .str _, .non => true
  | .int _, .int _ => true | .bl _, .bl _ => true | .str _, .str _ => true | .byt _, .byt _ => true
  | .int _, .str _ => true | .str _, .int _ => true | .bl _, .str _ => true | .str _, .bl _ => true
  | _, _ => false
def rEq : R2 := fun x y H Q => scal x y = true ∧ Q (.bl (decide (x = y))) H
def rNe : R2 := fun x y H Q => scal x y = true ∧ Q (.bl (!decide (x = y))) H

theorem dec_int {i j : Int} : decide (V.int i = V.int j) = (i == j) := by
  rw [Bool.eq_iff_iff]
  simp
theorem dec_bl {i j : Bool} : decide (V.bl i = V.bl j) = (i == j) := by
  rw [Bool.eq_iff_iff]
  simp
theorem dec_str {i j : Str} : decide (V.str i = V.str j) = (i == j) := by
  rw [Bool.eq_iff_iff]
  simp
theorem dec_byt {i j : Array UInt8} : decide (V.byt i = V.byt j) = (i.toList == j.toList) := by
  rw [Bool.eq_iff_iff]
  cases i
  cases j
  simp

section
variable {X : Cx} {a b c : Expr} {ta tb tc : TE} {pos : Pos}
theorem fin_bl {pins : List (Addr × Obj)} {σ : St} {H : Hp} {s : Shared} {Q : VK} {k k' : Bool} (I : Inv X pins σ H s) (q : Q (.bl k) H) (e : k = k') : EP X pins σ Q (.bool k') s := by
  subst e
  exact ⟨.bl k, H, I, rfl, q⟩
theorem op_eq : OpR X (compareOp .Eq) rEq := by
  intro pins s σ H x y v u Q I rx ry h
  obtain ⟨hs, q⟩ := h
  cases x with
  | non =>
    cases rx
    cases y with
    | non => cases ry; exact PySem.EqNone.eq_none_none (fin_bl I q (by simp))
    | bl j => cases ry; exact PySem.EqNone.eq_none_bool (fin_bl I q (by simp))
    | int j => obtain ⟨t', rfl⟩ := ry; exact PySem.EqNone.eq_none_int (fin_bl I q (by simp))
    | str j => obtain ⟨t', rfl⟩ := ry; exact PySem.EqNone.eq_none_str (fin_bl I q (by simp))
    | _ => exact absurd (show false = true from hs) Bool.false_ne_true
  | bl i =>
    cases rx
    cases y with
    | non => cases ry; exact PySem.EqNone.eq_bool_none (fin_bl I q (by simp))
    | bl j => cases ry; exact eq_bool (fin_bl I q dec_bl)
    | str j => obtain ⟨t', rfl⟩ := ry; exact PySem.EqMixed.eq_bool_str (fin_bl I q (by simp))
    | _ => exact absurd (show false = true from hs) Bool.false_ne_true
  | int i =>
    obtain ⟨t, rfl⟩ := rx
    cases y with
    | non => cases ry; exact PySem.EqNone.eq_int_none (fin_bl I q (by simp))
    | int j => obtain ⟨t', rfl⟩ := ry; exact eq_int (fin_bl I q dec_int)
    | str j => obtain ⟨t', rfl⟩ := ry; exact PySem.EqMixed.eq_int_str (fin_bl I q (by simp))
    | _ => exact absurd (show false = true from hs) Bool.false_ne_true
  | str i =>
    obtain ⟨t, rfl⟩ := rx
    cases y with
    | non => cases ry; exact PySem.EqNone.eq_str_none (fin_bl I q (by simp))
    | bl j => cases ry; exact PySem.EqMixed.eq_str_bool (fin_bl I q (by simp))
    | int j => obtain ⟨t', rfl⟩ := ry; exact PySem.EqMixed.eq_str_int (fin_bl I q (by simp))
    | str j => obtain ⟨t', rfl⟩ := ry; exact eq_str (fin_bl I q dec_str)
    | _ => exact absurd (show false = true from hs) Bool.false_ne_true
  | byt i =>
    obtain ⟨t, rfl⟩ := rx
    cases y with
    | byt j => obtain ⟨t', rfl⟩ := ry; exact PySem.W.eq_bytes (fin_bl I q dec_byt)
    | _ => exact absurd (show false = true from hs) Bool.false_ne_true
  | _ => cases y <;> exact absurd (show false = true from hs) Bool.false_ne_true
theorem op_ne : OpR X (compareOp .NotEq) rNe := by
  intro pins s σ H x y v u Q I rx ry h
  obtain ⟨hs, q⟩ := h
  cases x with
  | non =>
    cases rx
    cases y with
    | non => cases ry; exact PySem.EqNone.ne_none_none (fin_bl I q (by simp))
    | bl j => cases ry; exact PySem.EqNone.ne_none_bool (fin_bl I q (by simp))
    | int j => obtain ⟨t', rfl⟩ := ry; exact PySem.EqNone.ne_none_int (fin_bl I q (by simp))
    | str j => obtain ⟨t', rfl⟩ := ry; exact PySem.EqNone.ne_none_str (fin_bl I q (by simp))
    | _ => exact absurd (show false = true from hs) Bool.false_ne_true
  | bl i =>
    cases rx
    cases y with
    | non => cases ry; exact PySem.EqNone.ne_bool_none (fin_bl I q (by simp))
    | bl j => cases ry; exact ne_bool (fin_bl I q (congrArg not dec_bl))
    | str j => obtain ⟨t', rfl⟩ := ry; exact PySem.EqMixed.ne_bool_str (fin_bl I q (by simp))
    | _ => exact absurd (show false = true from hs) Bool.false_ne_true
  | int i =>
    obtain ⟨t, rfl⟩ := rx
    cases y with
    | non => cases ry; exact PySem.EqNone.ne_int_none (fin_bl I q (by simp))
    | int j => obtain ⟨t', rfl⟩ := ry; exact ne_int (fin_bl I q (congrArg not dec_int))
    | str j => obtain ⟨t', rfl⟩ := ry; exact PySem.EqMixed.ne_int_str (fin_bl I q (by simp))
    | _ => exact absurd (show false = true from hs) Bool.false_ne_true
  | str i =>
    obtain ⟨t, rfl⟩ := rx
    cases y with
    | non => cases ry; exact PySem.EqNone.ne_str_none (fin_bl I q (by simp))
    | bl j => cases ry; exact PySem.EqMixed.ne_str_bool (fin_bl I q (by simp))
    | int j => obtain ⟨t', rfl⟩ := ry; exact PySem.EqMixed.ne_str_int (fin_bl I q (by simp))
    | str j => obtain ⟨t', rfl⟩ := ry; exact ne_str (fin_bl I q (congrArg not dec_str))
    | _ => exact absurd (show false = true from hs) Bool.false_ne_true
  | byt i =>
    obtain ⟨t, rfl⟩ := rx
    cases y with
    | byt j => obtain ⟨t', rfl⟩ := ry; exact PySem.W.ne_bytes (fin_bl I q (congrArg not dec_byt))
    | _ => exact absurd (show false = true from hs) Bool.false_ne_true
  | _ => cases y <;> exact absurd (show false = true from hs) Bool.false_ne_true

theorem op_lt : OpR X (compareOp .Lt) (rI0 fun i j => .bl (decide (i < j))) := opB0 fun _ _ _ _ _ _ _ q => lt_int q
theorem op_gt : OpR X (compareOp .Gt) (rI0 fun i j => .bl (decide (j < i))) := opB0 fun _ _ _ _ _ _ _ q => gt_int q
theorem op_ge : OpR X (compareOp .GtE) (rI0 fun i j => .bl (decide (j ≤ i))) := opB0 fun _ _ _ _ _ _ _ q => ge_int q
/-- the one string within the other -/
theorem op_in_str : OpR X (compareOp .In) (fun x y H Q => ∃ i j, x = .str i ∧ y = .str j ∧ Q (.bl (!(Builtin.Str.occurrences j i 0 j.length 1).isEmpty)) H) := by
  intro pins s σ H x y v u Q I rx ry h
  obtain ⟨i, j, rfl, rfl, q⟩ := h
  obtain ⟨t, rfl⟩ := rx
  obtain ⟨t', rfl⟩ := ry
  exact in_str (fin_bl I q rfl)

/-- is None, is not None: the right side a value none -/
theorem op_isN : OpR X (compareOp .Is) (fun x y H Q => y = .non ∧ Q (.bl (decide (x = .non))) H) := by
  intro pins s σ H x y v u Q I rx ry h
  obtain ⟨rfl, q⟩ := h
  cases ry
  refine is_none_gen (fin_bl I q ?_)
  cases x <;> first
    | (cases rx; rfl)
    | (obtain ⟨t, rfl⟩ := rx; rfl)
/-- two rules for one operation: by cases -/
theorem OpR.or {f : Value → Value → Sem Value} {r r' : R2} (h : OpR X f r) (h' : OpR X f r') : OpR X f (fun x y H Q => r x y H Q ∨ r' x y H Q) := by
  intro pins s σ H x y v u Q I rx ry q
  rcases q with q | q
  · exact h pins s σ H x y v u Q I rx ry q
  · exact h' pins s σ H x y v u Q I rx ry q

theorem nomark (b : Expr) {op : CmpOp} (h : op ≠ .In := by decide) (h2 : op ≠ .NotIn := by decide) : behindInMarks op b = false := by
  have e1 : (op == CmpOp.In) = false := by cases op <;> first | rfl | exact absurd rfl h
  have e2 : (op == CmpOp.NotIn) = false := by cases op <;> first | rfl | exact absurd rfl h2
  cases b <;> simp [behindInMarks, e1, e2]
/-- a comparison as a value; hm: nomark b, or (for in, not in) by with_unfolding_all rfl -/
theorem pe_cmpR {op : CmpOp} {r : R2} (ho : OpR X (compareOp op) r) (ha : PE X a ta) (hb : PE X b tb) (hm : behindInMarks op b = false) : PE X (.Compare a [op] [b] pos) (tOp r ta tb) := by
  intro pins s σ H Q I h
  exact wpAny_Compare1 (binT ha hb I h fun v u s2 x y H2 I2 rx ry q => ho pins s2 σ H2 x y v u Q I2 rx ry q) hm
/-- a reading of a value as a test -/
def tTest (t : TE) : TT := fun σ H Q => t σ H fun x H' => ∃ k, x = .bl k ∧ Q k H'
theorem pt_cmpR {op : CmpOp} {r : R2} (ho : OpR X (compareOp op) r) (ha : PE X a ta) (hb : PE X b tb) (hm : behindInMarks op b = false) : PT X (.Compare a [op] [b] pos) (tTest (tOp r ta tb)) := by
  intro pins s σ H Q I h
  refine wpAny_isTrue_Compare1 (thn (ha pins s σ H _ I h) fun v s1 ⟨x, H1, I1, r1, q1⟩ => thn (hb pins s1 σ H1 _ I1 q1) fun u s2 ⟨y, H2, I2, r2, q2⟩ =>
    thn (ho pins s2 σ H2 x y v u _ I2 r1 r2 q2) fun c s3 ⟨z, H3, I3, r3, k, e, q3⟩ => ?_) hm
  subst e
  cases r3
  exact wpAny_truthy_bool ⟨H3, I3, q3⟩
/-! ### truth -/
/-- a value's truth by the abstract heap -/
def TruV (K : PySem.W.Frag) (x : V) (H : Hp) (k : Bool) : Prop :=
  match x with
  | .non => k = false
  | .bl b => k = b
  | .int i => k = (i != 0)
  | .str y => y.length ≤ sizeLine ∧ k = ((y.length : Int) != 0)
  | .byt y => y.size ≤ sizeLine ∧ k = ((y.size : Int) != 0)
  | .ref p => (∃ xs, SqL K H p xs ∧ k = !xs.isEmpty) ∨ (∃ xs, SqT K H p xs ∧ k = !xs.isEmpty) ∨ ∃ kvs, H p = some (.dK kvs) ∧ k = !kvs.isEmpty
  | _ => False
theorem isEmpty_kv {κ : Type} {kvs : List (κ × V)} {vs : List (κ × Value)} (r : KV kvs vs) : (!vs.isEmpty) = !kvs.isEmpty := by
  cases r <;> rfl
theorem isEmpty_of {xs : List V} {its : List Value} (r : Vals xs its) : (!its.toArray.isEmpty) = !xs.isEmpty := by
  cases r <;> simp
theorem line63 : (sizeLine : Nat) < 2 ^ 63 := by rw [sizeLine_eq]; decide
theorem tru_ok : TruR X (fun x H Q => ∃ k, TruV X.K x H k ∧ Q k H) := by
  intro pins s σ H x v Q I rx h
  obtain ⟨k, e, q⟩ := h
  have hl := line63
  have hs : sizeLine = 16777216 := sizeLine_eq
  cases x with
  | non =>
    cases rx
    have e' : k = false := e
    subst e'
    exact truthy_none ⟨H, I, q⟩
  | bl b =>
    cases rx
    have e' : k = b := e
    subst e'
    exact wpAny_truthy_bool ⟨H, I, q⟩
  | int i =>
    obtain ⟨t, rfl⟩ := rx
    have e' : k = (i != 0) := e
    subst e'
    exact PySem.P.truthy_int ⟨H, I, q⟩
  | str y =>
    obtain ⟨t, rfl⟩ := rx
    obtain ⟨hy, e'⟩ : y.length ≤ sizeLine ∧ k = ((y.length : Int) != 0) := e
    subst e'
    exact PySem.P.truthy_str (by omega) ⟨H, I.tok _, q⟩
  | byt y =>
    obtain ⟨t, rfl⟩ := rx
    obtain ⟨hy, e'⟩ : y.size ≤ sizeLine ∧ k = ((y.size : Int) != 0) := e
    subst e'
    exact PySem.W.truthy_bytes (by omega) ⟨H, I.tok _, q⟩
  | ref p =>
    cases rx
    have e' : (∃ xs, SqL X.K H p xs ∧ k = !xs.isEmpty) ∨ (∃ xs, SqT X.K H p xs ∧ k = !xs.isEmpty) ∨ ∃ kvs, H p = some (.dK kvs) ∧ k = !kvs.isEmpty := e
    rcases e' with ⟨xs, hx, e'⟩ | ⟨xs, hx, e'⟩ | ⟨kvs, hx, e'⟩
    · subst e'
      obtain ⟨its, r, pl, hz⟩ := I.list hx
      have hlen := r.length
      exact wpAny_truthy_list pl.isList (by simp only [List.size_toArray]; omega) ⟨H, I.tok _, by rw [isEmpty_of r]; exact q⟩
    · subst e'
      obtain ⟨its, r, pl, hz⟩ := I.tuple hx
      have hlen := r.length
      exact truthy_tuple pl (by simp only [List.size_toArray]; omega) ⟨H, I.tok _, by rw [isEmpty_of r]; exact q⟩
    · subst e'
      obtain ⟨hz, hS, vs, r, m⟩ : kvs.length ≤ sizeLine ∧ (p == sysModules) = false ∧ ∃ vs, KV kvs vs ∧ s.heap.DictOf (mixKind X.prog X.w) p vs := I.hok p _ hx
      have hlen : kvs.length = vs.length := Paired.length r
      exact wpAny_truthy_dict hS m (by omega) ⟨H, I.tok _, by rw [isEmpty_kv r]; exact q⟩
  | _ => exact (show False from e).elim
/-! ### strs and bytes -/
theorem op_add_str : OpR X (binaryOp .Add) (fun x y H Q => ∃ i j, x = .str i ∧ y = .str j ∧ i.length + j.length ≤ sizeLine ∧ Q (.str (i ++ j)) H) := by
  intro pins s σ H x y v u Q I rx ry h
  obtain ⟨i, j, rfl, rfl, hz, q⟩ := h
  obtain ⟨t, rfl⟩ := rx
  obtain ⟨t', rfl⟩ := ry
  exact add_str (fun t' tk => ⟨.str (i ++ j), H, I.tok _, ⟨_, rfl⟩, q⟩) hz
/-! ### scalar builtins, by CallR -/
theorem vals1 {x : V} {us : List Value} (r : Vals [x] us) : ∃ u, us = [u] ∧ RelV x u := by
  cases r with
  | cons r1 r2 => cases r2; exact ⟨_, rfl, r1⟩
theorem vals2 {x y : V} {us : List Value} (r : Vals [x, y] us) : ∃ u w', us = [u, w'] ∧ RelV x u ∧ RelV y w' := by
  cases r with
  | cons r1 r2 =>
    cases r2 with
    | cons r3 r4 => cases r4; exact ⟨_, _, rfl, r1, r3⟩
theorem call_max2 (hc : X.calm = true) : CallR X (.builtin "max") (fun xs H Q => ∃ i j, xs = [.int i, .int j] ∧ Q (.int (if j > i then j else i)) H) := by
  intro pins s σ H xs us Q I r h
  obtain ⟨i, j, rfl, q⟩ := h
  obtain ⟨u, w', rfl, ⟨t, rfl⟩, ⟨t', rfl⟩⟩ := vals2 r
  refine max_two_ints (I.ok.hd hc) fun h' tk k => ⟨_, H, I.kept k, ?_, q⟩
  by_cases hj : j > i
  · rw [if_pos hj, if_pos hj]; exact ⟨_, rfl⟩
  · rw [if_neg hj, if_neg hj]; exact ⟨_, rfl⟩
theorem call_min2 (hc : X.calm = true) : CallR X (.builtin "min") (fun xs H Q => ∃ i j, xs = [.int i, .int j] ∧ Q (.int (if j < i then j else i)) H) := by
  intro pins s σ H xs us Q I r h
  obtain ⟨i, j, rfl, q⟩ := h
  obtain ⟨u, w', rfl, ⟨t, rfl⟩, ⟨t', rfl⟩⟩ := vals2 r
  refine min_two_ints (I.ok.hd hc) fun h' tk k => ⟨_, H, I.kept k, ?_, q⟩
  by_cases hj : j < i
  · rw [if_pos hj, if_pos hj]; exact ⟨_, rfl⟩
  · rw [if_neg hj, if_neg hj]; exact ⟨_, rfl⟩
theorem call_int1 : CallR X (.type "int") (fun xs H Q => (∃ i, xs = [.int i] ∧ Q (.int i) H) ∨ ∃ k, xs = [.bl k] ∧ Q (.int (if k then 1 else 0)) H) := by
  intro pins s σ H xs us Q I r h
  rcases h with ⟨i, rfl, q⟩ | ⟨k, rfl, q⟩
  · obtain ⟨u, rfl, t, rfl⟩ := vals1 r
    exact call_int_int ⟨.int i, H, I, ⟨_, rfl⟩, q⟩
  · obtain ⟨u, rfl, r1⟩ := vals1 r
    cases r1
    exact call_int_bool ⟨.int (if k then 1 else 0), H, I.tok _, ⟨_, rfl⟩, q⟩
end
end L2

namespace L2
open PySem PySem.Spec PyProof.Rows

/-! ### an instance, its attributes a map -/
structure ObjM (h : Heap) (x dx C : Addr) (mA : Str → Option Value) : Prop where
  obj : h.get? x = some (PySem.W.instObj C dx)
  ns : h.Ns1 dx mA
  ne : dx ≠ x

theorem lookIn_ns {h : Heap} {dx : Addr} {mA : Str → Option Value} (n : h.Ns1 dx mA) : ∃ od, h.get? dx = some od ∧ ∀ name, PySem.W.lookIn name od = some (mA name) := by
  obtain ⟨o, es, ep, ho, hd, hk, _, hm⟩ := n
  refine ⟨o, ho, fun name => ?_⟩
  have e := hm name
  unfold nsFind findBy at e
  rw [← Array.find?_toList] at e
  unfold PySem.W.lookIn
  rw [hd]
  dsimp only
  split
  · rename_i y q
    rw [q] at e
    exact congrArg some e
  · rename_i q
    rw [q] at e
    have a : es.toList.any (·.refKey) = false := by
      rw [List.any_eq_false]
      intro y hy
      obtain ⟨z, t, hkey⟩ := hk y (Array.mem_toList_iff.mp hy)
      simp [DictEntry.refKey, hkey]
    have a' : ¬ es.toList.any (·.refKey) = true := by rw [a]; exact Bool.false_ne_true
    rw [if_neg a']
    exact congrArg some e

theorem ObjM.look {h : Heap} {x dx C : Addr} {mA : Str → Option Value} (I : ObjM h x dx C mA) : ∃ od, PySem.W.InstAt h x (PySem.W.instObj C dx) C (some od) ∧ ∀ name, PySem.W.lookIn name od = some (mA name) :=
  let ⟨od, ho, hl⟩ := lookIn_ns I.ns
  ⟨od, ⟨I.obj, rfl, rfl, ho⟩, hl⟩

section
variable {prog : Program} {w : World} {A : Around} {E : Value → Shared → Prop} {s : Shared} {K : PySem.W.Frag} {x dx C f : Addr} {mA : Str → Option Value} {name : Str} {v : Value}

end

/-! ### the attributes as a list of pairs -/
def putF (f : Str) (v : V) : List (Str × V) → List (Str × V)
  | [] => [(f, v)]
  | (g, x) :: r => if g = f then (g, v) :: r else (g, x) :: putF f v r
theorem lookup_putF (f g : Str) (v : V) : ∀ fs : List (Str × V), (putF f v fs).lookup g = if g = f then some v else fs.lookup g
  | [] => by
    show List.lookup g [(f, v)] = _
    by_cases h : g = f
    · have hb : (g == f) = true := beq_iff_eq.mpr h
      simp only [List.lookup, hb, if_pos h]
    · have hb : (g == f) = false := beq_eq_false_iff_ne.mpr h
      simp only [List.lookup, hb, if_neg h]
  | (k, x) :: r => by
    have ih := lookup_putF f g v r
    rw [show putF f v ((k, x) :: r) = (if k = f then (k, v) :: r else (k, x) :: putF f v r) from rfl]
    by_cases hk : k = f
    · rw [if_pos hk]
      by_cases h : g = k
      · have hb : (g == k) = true := beq_iff_eq.mpr h
        simp only [List.lookup, hb, if_pos (h.trans hk)]
      · have hb : (g == k) = false := beq_eq_false_iff_ne.mpr h
        simp only [List.lookup, hb, if_neg (fun e : g = f => h (e.trans hk.symm))]
    · rw [if_neg hk]
      by_cases h : g = k
      · have hb : (g == k) = true := beq_iff_eq.mpr h
        simp only [List.lookup, hb, if_neg (fun e : g = f => hk (h.symm.trans e))]
      · have hb : (g == k) = false := beq_eq_false_iff_ne.mpr h
        simp only [List.lookup, hb]
        exact ih
theorem keys_putF (f : Str) (v : V) : ∀ fs : List (Str × V), f ∈ (putF f v fs).map (·.1) ∧ ∀ g, g ∈ fs.map (·.1) → g ∈ (putF f v fs).map (·.1)
  | [] => ⟨by simp [putF], fun g h => by simp at h⟩
  | (k, x) :: r => by
    obtain ⟨i1, i2⟩ := keys_putF f v r
    rw [show putF f v ((k, x) :: r) = (if k = f then (k, v) :: r else (k, x) :: putF f v r) from rfl]
    by_cases hk : k = f
    · rw [if_pos hk]
      subst hk
      exact ⟨by simp, fun g h => by simpa using h⟩
    · rw [if_neg hk]
      refine ⟨?_, fun g h => ?_⟩
      · rw [List.map_cons]
        exact List.mem_cons_of_mem _ i1
      · rw [List.map_cons] at h ⊢
        rcases List.mem_cons.mp h with e | e
        · exact List.mem_cons.mpr (.inl e)
        · exact List.mem_cons_of_mem _ (i2 g e)
theorem RelO.some_of {v : V} {o : Option Value} (r : RelO (some v) o) : ∃ u, o = some u ∧ RelV v u := by
  cases o with
  | none => exact (show False from r).elim
  | some u => exact ⟨u, rfl, r⟩
theorem RelO.none_of {o : Option Value} (r : RelO none o) : o = none := by
  cases o with
  | none => rfl
  | some u => exact (show False from r).elim
theorem handed_of {v : V} {u : Value} (r : RelV v u) : PySem.W.handedIn u = true := by
  cases v with
  | non => cases (show u = Value.none from r); rfl
  | bl b => cases (show u = Value.bool b from r); rfl
  | int i => obtain ⟨t, e⟩ := (show ∃ t, u = Value.int i t from r); cases e; rfl
  | str x => obtain ⟨t, e⟩ := (show ∃ t, u = Value.str x t from r); cases e; rfl
  | byt b => obtain ⟨t, e⟩ := (show ∃ t, u = Value.bytes b t from r); cases e; rfl
  | flt b => obtain ⟨t, e⟩ := (show ∃ t, u = Value.float b t from r); cases e; rfl
  | ref a => cases (show u = Value.ref a from r); rfl
  | ty n => cases (show u = Value.type n from r); rfl

section
variable {P : Program} {w : World} {H H' : Hp} {h h' : Heap} {a C dx : Addr} {fs fs' : List (Str × V)}
theorem ins_get (hok : HOk P w H h) (e : H a = some (.ins C dx fs)) : ∃ mA, ObjM h a dx C mA ∧ (∀ f, RelO (fs.lookup f) (mA f)) ∧ PySem.Within mA (fs.map (·.1)) ∧ fs.length ≤ 1000 ∧ H dx = some (.own a) := by
  obtain ⟨d, z, ne, ob, mA, n, r, q⟩ := (show ObjOk P w H h a (.ins C dx fs) from hok a _ e)
  exact ⟨mA, ⟨ob, n, ne⟩, r, q, z, d⟩
end

/-! ### what of the text a class must have -/
structure Cls (K : PySem.W.Frag) (C : Addr) : Prop where
  pg : PySem.W.plainGet K C Str.empty = true
  hd : PySem.W.hasDictIn K C = true
  po : PySem.W.plainOver K C = true
  sa : PySem.W.findIn K (.ref C) "__setattr__" = some (some (.builtin "object.__setattr__"))
theorem Cls.get {K : PySem.W.Frag} {C : Addr} (c : Cls K C) (f : Str) : PySem.W.plainGet K C f = true := c.pg
/-- no class of it has the name -/
def NoAttr (K : PySem.W.Frag) (C : Addr) (f : Str) : Prop := PySem.W.findIn K (.ref C) f = some none
/-- a constant of the class -/
structure Con (K : PySem.W.Frag) (C : Addr) (f : Str) (v : V) (u : Value) : Prop where
  at_ : PySem.W.findIn K (.ref C) f = some (some u)
  rel : RelV v u
  get : PySem.W.specialIn K u "__get__" = some none
  cp : PySem.W.copiedNames.contains f = false
/-- a method: a plain def of the class or of one above it -/
structure Meth (K : PySem.W.Frag) (C : Addr) (m : Str) (f : Addr) : Prop where
  at_ : PySem.W.findIn K (.ref C) m = some (some (.ref f))
  fn : PySem.W.isFn K (.ref f) = true
  kp : PySem.W.keepIn K (.ref f) = true

section
variable {X : Cx} {pins : List (Addr × Obj)} {σ : St} {H : Hp} {s : Shared} {a C dx : Addr} {fs : List (Str × V)} {f : Str} {v : V} {A : Around} {E : Value → Shared → Prop}

/-- a new instance, tracked, without attributes -/
theorem Inv.made (I : Inv X pins σ H s) : Inv X pins σ (upd (upd H s.heap.objs.size (.own (s.heap.objs.size + 1))) (s.heap.objs.size + 1) (.ins C s.heap.objs.size []))
    { s with heap := (s.heap.push PySem.W.emptyDict).push (PySem.W.instObj C s.heap.objs.size) } := by
  have e1 : (s.heap.push PySem.W.emptyDict).get? s.heap.objs.size = some PySem.W.emptyDict := Heap.get?_push_size s.heap rfl
  have e2 : ((s.heap.push PySem.W.emptyDict).push (PySem.W.instObj C s.heap.objs.size)).get? (s.heap.objs.size + 1) = some (PySem.W.instObj C s.heap.objs.size) := by
    have := Heap.get?_push_size (s.heap.push PySem.W.emptyDict) (o := PySem.W.instObj C s.heap.objs.size) rfl
    rwa [Heap.size_push] at this
  have e3 : (s.heap.push PySem.W.emptyDict).Ns s.heap.objs.size (fun _ => none) := ⟨PySem.W.emptyDict, #[], _, e1, rfl, (fun e he => absurd he (by simp)), fun _ => rfl⟩
  have I1 := I.laid (a := s.heap.objs.size) (o := .own (s.heap.objs.size + 1)) (h' := s.heap.push PySem.W.emptyDict) (t' := s.toks) (fun b u q => Heap.get?_push_of_some _ q) (Nat.le_refl _) ⟨_, e1⟩
  refine I1.laid (a := s.heap.objs.size + 1) (o := .ins C s.heap.objs.size []) (t' := s.toks) (fun b u q => Heap.get?_push_of_some _ q) (Nat.le_of_eq (Heap.size_push _ _)) ?_
  have ne : s.heap.objs.size ≠ s.heap.objs.size + 1 := Nat.ne_of_lt (Nat.lt_succ_self _)
  refine ⟨by rw [upd_ne ne, upd_same], Nat.zero_le _, ne, e2, fun _ => none, (Heap.Ns1.of_empty e3).at fun o q => Heap.get?_push_of_some _ q, fun _ => True.intro, fun y hy => absurd rfl hy⟩

/-- e.f where nothing but the object is asked: through attributeBase (super) and the last hold -/
theorem attr_of {prog : Program} {w : World} {env : Env} {e : Expr} {f : Str} {pos : Pos} {s : Shared} {Q : Value → Shared → Prop} (hb : attributeBase e f env (eval e env) = eval e env)
    (h : wpAny (model prog w) A (eval e env) (fun o s₁ => wpAny (model prog w) A (getAttr o f true) Q E s₁) E s) : wpAny (model prog w) A (eval (.Attribute e f pos) env) Q E s :=
  Attribute_any_ h (by rw [arm_eval_Attribute, hb])
end

/-! ### readings and rules -/
section
variable {X : Cx} {o e value : Expr} {f : Str} {pos pos' tpos : Pos} {ta tv : TE}
end

/-! ### isinstance -/
section
variable {X : Cx} {pins : List (Addr × Obj)} {σ : St} {H : Hp} {s : Shared} {A : Around} {E : Value → Shared → Prop} {Q : Value → Shared → Prop} {c : Value} {b : Bool}
/-- the type of a value, as the fragment's deciders take it; for an instance its class -/
inductive TyOf (K : PySem.W.Frag) (H : Hp) : V → Value → Prop where
  | non : TyOf K H .non (.type "NoneType")
  | bl (x : Bool) : TyOf K H (.bl x) (.type "bool")
  | int (i : Int) : TyOf K H (.int i) (.type "int")
  | str (x : Str) : TyOf K H (.str x) (.type "str")
  | flt (x : UInt64) : TyOf K H (.flt x) (.type "float")
  | lst {a : Addr} {xs : List V} (e : H a = some (.lst xs)) : TyOf K H (.ref a) (.type "list")
  | frz {a : Addr} {o : Obj} {xs : List V} (e : H a = some (.frz o (.lst xs))) : TyOf K H (.ref a) (.type "list")
  | tup {a : Addr} {xs : List V} (e : H a = some (.tup xs)) : TyOf K H (.ref a) (.type "tuple")
  | dK {a : Addr} {kvs : List (Key × V)} (e : H a = some (.dK kvs)) : TyOf K H (.ref a) (.type "dict")
  | dT {a : Addr} {kvs : List (List Key × V)} (e : H a = some (.dT kvs)) : TyOf K H (.ref a) (.type "dict")
  | ins {a C dx : Addr} {fs : List (Str × V)} (e : H a = some (.ins C dx fs)) (cl : Cls K C) (ha : PySem.W.findIn K (.ref C) "__class__" = some (some (.builtin "object.__class__")))
      (hn : PySem.W.specialIn K (.builtin "object.__class__") "__get__" = some (some (.builtin "getset_descriptor.__get__"))) (htk : PySem.W.takesIn K (.builtin "object.__class__") = some true)
      (hm : PySem.W.mroIn K C (.type "object") = some true) : TyOf K H (.ref a) (.ref C)
/-- isinstance(x, c) for one class c, a built-in or an own one: kitOne's answer -/
theorem isinst_ok {x : V} {u t : Value} (I : Inv X pins σ H s) (rx : RelV x u) (ty : TyOf X.K H x t) (e : PySem.W.kitOne X.K t c = some b) (h : ∀ tk, Q (.bool b) { s with toks := tk }) :
    wpAny (model X.prog X.w) A (call (.builtin "isinstance") [u, c]) Q E s := by
  cases ty with
  | non => cases (show u = Value.none from rx); exact PySem.W.kia_one PySem.W.kitx_none I.kIn True.intro e (fun z => nomatch z) h
  | bl y => cases (show u = Value.bool y from rx); exact PySem.W.kia_one PySem.W.kitx_bool I.kIn True.intro e (fun z => nomatch z) h
  | int i => obtain ⟨t, q⟩ := (show ∃ t, u = Value.int i t from rx); cases q; exact PySem.W.kia_one PySem.W.kitx_int I.kIn True.intro e (fun z => nomatch z) h
  | str y => obtain ⟨t, q⟩ := (show ∃ t, u = Value.str y t from rx); cases q; exact PySem.W.kia_one PySem.W.kitx_str I.kIn True.intro e (fun z => nomatch z) h
  | flt y => obtain ⟨t, q⟩ := (show ∃ t, u = Value.float y t from rx); cases q; exact PySem.W.kia_one PySem.W.kitx_float I.kIn True.intro e (fun z => nomatch z) h
  | @lst a xs ea =>
    cases (show u = Value.ref a from rx)
    obtain ⟨_, _, n, _, h1⟩ := (show ObjOk X.prog X.w H s.heap a (.lst xs) from I.hok a _ ea)
    exact PySem.W.kia_one PySem.W.kitx_list I.kIn ⟨_, h1, rfl⟩ e (fun z => nomatch z) h
  | @frz a ob xs ea =>
    cases (show u = Value.ref a from rx)
    obtain ⟨_, _, _, n, _, h1⟩ := (show ObjOk X.prog X.w H s.heap a (.frz ob (.lst xs)) from I.hok a _ ea)
    exact PySem.W.kia_one PySem.W.kitx_list I.kIn ⟨_, h1, rfl⟩ e (fun z => nomatch z) h
  | @tup a xs ea =>
    cases (show u = Value.ref a from rx)
    obtain ⟨_, _, _, p⟩ := (show ObjOk X.prog X.w H s.heap a (.tup xs) from I.hok a _ ea)
    obtain ⟨o, h1, h2, _⟩ := p
    exact PySem.W.kia_one PySem.W.kitx_tuple I.kIn ⟨o, h1, h2⟩ e (fun z => nomatch z) h
  | @dK a kvs ea =>
    cases (show u = Value.ref a from rx)
    obtain ⟨_, _, vs, _, p⟩ := (show ObjOk X.prog X.w H s.heap a (.dK kvs) from I.hok a _ ea)
    obtain ⟨o, es, ep, h1, h2, _⟩ := p
    exact PySem.W.kia_one PySem.W.kitx_dict I.kIn ⟨o, h1, h2.1⟩ e (fun z => nomatch z) h
  | @dT a kvs ea =>
    cases (show u = Value.ref a from rx)
    obtain ⟨_, _, xs, _, o, es, ep, h1, h2, _⟩ := (show ObjOk X.prog X.w H s.heap a (.dT kvs) from I.hok a _ ea)
    exact PySem.W.kia_one PySem.W.kitx_dict I.kIn ⟨o, h1, h2.1⟩ e (fun z => nomatch z) h
  | @ins a C dx fs ea cl ha hn htk hm =>
    cases (show u = Value.ref a from rx)
    obtain ⟨mA, O, _⟩ := ins_get I.hok ea
    obtain ⟨od, J, _⟩ := O.look
    exact PySem.W.kia_one (PySem.W.kitx_own (cl.get _) cl.hd ha hn htk hm) I.kIn J e (fun z => nomatch z) h
end
end L2

namespace L2
open PySem PySem.Spec PyProof.Rows

/-! ### room -/
structure Room (k : Nat) (A : Around) : Prop where
  hd : A.handled = none
  dp : A.depth + 3 * k + 5 < recursionLimit
  un : A.units + 16 * k + 200 < cLine
  gd : A.guards = some []
theorem Room.mono {j k : Nat} {A : Around} (r : Room k A) (h : j ≤ k) : Room j A := ⟨r.hd, by have := r.dp; omega, by have := r.un; omega, r.gd⟩
theorem Room.deeper {k : Nat} {A : Around} (r : Room (k + 1) A) (env : Env) : Room k (A.deeper env) :=
  ⟨r.hd, by have := r.dp; show A.depth + 1 + 3 * k + 5 < _; omega, by have := r.un; show A.units + 3 + 16 * k + 200 < _; omega, r.gd⟩
theorem Room.in1 {k : Nat} {A : Around} (r : Room (k + 1) A) : Room k A.in1 :=
  ⟨r.hd, by have := r.dp; show A.depth + 3 * k + 5 < _; omega, by have := r.un; show A.units + 1 + 16 * k + 200 < _; omega, r.gd⟩
theorem make_depth {A : Around} {C : Addr} {us : List Value} {kw : List (Str × Value)} : (A.under (.builtin "type.__call__" ⟨.ref C :: us, kw⟩)).depth = A.depth + 1 := by
  first | rfl | simp [Around.under, Code.weight, Code.isCreation, Code.isGuard, Code.isCaller, Code.frames, Code.isFrame, guardIds]
theorem make_units {A : Around} {C : Addr} {us : List Value} {kw : List (Str × Value)} : (A.under (.builtin "type.__call__" ⟨.ref C :: us, kw⟩)).units = A.units + 1 := by
  first | rfl | simp [Around.under, Code.cUnits, Code.frames, Code.isFrame]
theorem Room.make {k : Nat} {A : Around} (r : Room (k + 1) A) (C : Addr) (us : List Value) (kw : List (Str × Value)) : Room k (A.under (.builtin "type.__call__" ⟨.ref C :: us, kw⟩)) :=
  ⟨r.hd, by have := r.dp; rw [make_depth]; omega, by have := r.un; rw [make_units]; omega, by first | exact r.gd | (simpa [Around.under, Code.guards, Code.isGuard, pushGuards, guardIds] using r.gd)⟩
theorem Room.depth {k : Nat} {A : Around} (r : Room k A) : A.depth < recursionLimit := by have := r.dp; omega
theorem Room.units {k : Nat} {A : Around} (r : Room k A) : A.units + 64 < cLine := by have := r.un; omega
/-! ### argument lists and displays -/
def tNil : TA := fun _ H Q => Q [] H
def tCons (ta : TE) (tr : TA) : TA := fun σ H Q => ta σ H fun x H1 => tr σ H1 fun xs H2 => Q (x :: xs) H2
section
variable {X : Cx} {e : Expr} {es : List Expr} {te : TE} {t : TA} {pos : Pos}
theorem pa_nil : PA X [] tNil := fun _ _ _ _ H Q I h => Calls.spliced_nil ⟨[], H, I, .nil, h⟩
theorem pa_cons (ha : PE X e te) (hr : PA X es t) (hs : starEach (e :: es) X.env = (false, eval e X.env) :: starEach es X.env := by rfl) : PA X (e :: es) (tCons te t) := by
  intro pos pins s σ H Q I h
  rw [hs]
  show wpAny _ _ (spliced ((false, eval e X.env) :: backTo pos (starEach es X.env))) _ _ s
  refine Calls.spliced_cons (thn (ha pins s σ H _ I h) fun u s1 ⟨x, H1, I1, r1, q1⟩ => ?_)
  exact thn (hr pos pins s1 σ H1 _ I1 q1) fun us s2 ⟨xs, H2, I2, r2, q2⟩ => ⟨x :: xs, H2, I2, .cons r1 r2, q2⟩

/-- a tuple, a list of written items -/
def tTup (t : TA) : TE := fun σ H Q => t σ H fun xs H1 => xs.length ≤ sizeLine ∧ ∀ p, H1 p = none → Q (.ref p) (upd H1 p (.tup xs))
def tLst (t : TA) : TE := fun σ H Q => t σ H fun xs H1 => xs.length ≤ sizeLine ∧ ∀ p, H1 p = none → Q (.ref p) (upd H1 p (.lst xs))
theorem pe_tup {x1} (h : PA X es t) : PE X (.Tuple es x1 pos) (tTup t) := by
  intro pins s σ H Q I hq
  refine wpAny_Tuple_spliced (thn (h pos pins s σ H _ I hq) fun us s1 ⟨xs, H1, I1, r, z, q⟩ => ⟨by rw [← r.length]; exact z, ?_⟩)
  have hf : H1 s1.heap.objs.size = none := I1.hok.fresh (Nat.le_refl _)
  refine ⟨.ref s1.heap.objs.size, upd H1 s1.heap.objs.size (.tup xs), I1.laid (t' := s1.toks) (fun b u e => Heap.get?_push_of_some _ e) (Nat.le_refl _) ?_, rfl, q _ hf⟩
  exact ⟨z, us, r, ⟨_, Heap.get?_push_size _ rfl, rfl, _, rfl⟩⟩
theorem pe_lst (h : PA X es t) : PE X (.List es pos) (tLst t) := by
  intro pins s σ H Q I hq
  refine wpAny_List_spliced (thn (h pos pins s σ H _ I hq) fun us s1 ⟨xs, H1, I1, r, z, q⟩ => ⟨by rw [← r.length]; exact z, ?_⟩)
  have hf : H1 s1.heap.objs.size = none := I1.hok.fresh (Nat.le_refl _)
  refine ⟨.ref s1.heap.objs.size, upd H1 s1.heap.objs.size (.lst xs), I1.laid (t' := s1.toks) (fun b u e => Heap.get?_push_of_some _ e) (Nat.le_refl _) ?_, rfl, q _ hf⟩
  exact ⟨z, us, 0, r, Heap.get?_push_size _ rfl⟩
end

/-! ### what a def promises -/
/-- a def's promise: the bound arguments in the parameters' order, the heap, the wanted end, the wanted exception -/
abbrev Sp := List V → Hp → VK → XK → Prop
/-- how an exception lies behind a call (file 08 gives it): the callers' frames, abstract heap and state ahead of the call, the wish, the exception, the state -/
abbrev CXT := List Env → Hp → Shared → XK → Value → Shared → Prop

/-- the state at a call -/
structure Env0 (P : Program) (w : World) (K : PySem.W.Frag) (mg : Str → Option Value) (base : Heap) (A : Around) (outer : List Env) (s : Shared) (H : Hp) : Prop where
  frames : A.frames = some outer
  mod : Mod K mg base
  bs : ∀ b o, base.get? b = some o → s.heap.get? b = some o ∧ H b = none
  bsz : base.objs.size ≤ s.heap.objs.size
  funs : s.heap.FunFrames base outer
  frf : ∀ b ∈ frs outer, H b = none
  hok : HOk P w H s.heap
  bare : AllBare s.gens
/-- a call's end -/
def CE (outer : List Env) (P : Program) (w : World) (H : Hp) (s : Shared) (Q : VK) (u : Value) (s' : Shared) : Prop :=
  ∃ v H', s'.os = s.os ∧ AllBare s'.gens ∧ Un (frs outer) [] H H' s.heap s'.heap ∧ HOk P w H' s'.heap ∧ RelV v u ∧ Q v H'
def CR (CX : CXT) (outer : List Env) (P : Program) (w : World) (H : Hp) (s : Shared) (Q : VK) (E : XK) (r : Result) (s' : Shared) : Prop :=
  match r with
  | .ok (.ret u) => CE outer P w H s Q u s'
  | .ok _ => False
  | .error e => CX outer H s E e s'
structure FnOk (P : Program) (w : World) (K : PySem.W.Frag) (mg : Str → Option Value) (base : Heap) (CX : CXT) (k : Nat) (f : Addr) (fd : FuncData) (ps : List Str) (sp : Sp) : Prop where
  len : ∀ vs H Q E, sp vs H Q E → vs.length = ps.length
  run : ∀ (A : Around) (outer : List Env) (s : Shared) (H : Hp) (args : Args) (us : List Value) (vs : List V) (Q : VK) (E : XK), Room k A → Env0 P w K mg base A outer s H → BindsTo s fd args (ps.zip us) → Vals vs us → sp vs H Q E →
    codeAny (model P w) A (.call (.ref f) args) (CR CX outer P w H s Q E) s
theorem FnOk.mono {P : Program} {w : World} {K : PySem.W.Frag} {mg : Str → Option Value} {base : Heap} {CX : CXT} {j k : Nat} {f : Addr} {fd : FuncData} {ps : List Str} {sp : Sp} (F : FnOk P w K mg base CX j f fd ps sp) (h : j ≤ k) :
    FnOk P w K mg base CX k f fd ps sp := ⟨F.len, fun A outer s H args us vs Q E hr => F.run A outer s H args us vs Q E (hr.mono h)⟩
/-- a weaker promise -/
theorem FnOk.imp {P : Program} {w : World} {K : PySem.W.Frag} {mg : Str → Option Value} {base : Heap} {CX : CXT} {k : Nat} {f : Addr} {fd : FuncData} {ps : List Str} {sp sp' : Sp} (F : FnOk P w K mg base CX k f fd ps sp)
    (h : ∀ vs H Q E, sp' vs H Q E → sp vs H Q E) : FnOk P w K mg base CX k f fd ps sp' :=
  ⟨fun vs H Q E q => F.len vs H Q E (h _ _ _ _ q), fun A outer s H args us vs Q E hr he hb hv hs => F.run A outer s H args us vs Q E hr he hb hv (h _ _ _ _ hs)⟩

theorem Env0.make {P : Program} {w : World} {K : PySem.W.Frag} {mg : Str → Option Value} {base : Heap} {A : Around} {outer : List Env} {s : Shared} {H : Hp} (e : Env0 P w K mg base A outer s H) (C : Addr) (us : List Value) (kw : List (Str × Value)) :
    Env0 P w K mg base (A.under (.builtin "type.__call__" ⟨.ref C :: us, kw⟩)) outer s H := ⟨by first | exact e.frames | (simpa [Around.under, Code.envs, Code.isFrame, pushEnvs] using e.frames), e.mod, e.bs, e.bsz, e.funs, e.frf, e.hok, e.bare⟩
theorem Env0.in1 {P : Program} {w : World} {K : PySem.W.Frag} {mg : Str → Option Value} {base : Heap} {A : Around} {outer : List Env} {s : Shared} {H : Hp} (e : Env0 P w K mg base A outer s H) :
    Env0 P w K mg base A.in1 outer s H := ⟨e.frames, e.mod, e.bs, e.bsz, e.funs, e.frf, e.hok, e.bare⟩

section
variable {X : Cx} {pins : List (Addr × Obj)} {σ : St} {H : Hp} {s s' : Shared}
/-- from a body: what a callee wants -/
theorem Inv.env0 (I : Inv X pins σ H s) : Env0 X.prog X.w X.K X.mg X.base X.A X.stack s H :=
  ⟨I.ok.frames, I.ok.mod, I.bs, Nat.le_trans I.ok.bsz I.sz, I.stack, I.stkFree, I.hok, I.bare⟩
/-- behind a call -/
theorem Inv.after {Q : VK} {u : Value} (I : Inv X pins σ H s) (h : CE X.stack X.prog X.w H s Q u s') : EP X pins σ Q u s' := by
  obtain ⟨v, H', os, bare, un, hok, r, q⟩ := h
  obtain ⟨hh, g, d, t, os'⟩ := s'
  obtain rfl : os' = s.os := os
  exact ⟨v, H', I.call (h' := hh) (g' := g) (d' := d) (t' := t) (ch := []) un hok bare (fun b z => absurd z (by simp)), r, q⟩
end

/-! ### calls -/
/-- f(..): the written arguments, then the defaults dvs; E: what is wanted of an exception -/
def tCall (sp : Sp) (dvs : List V) (E : XK) (t : TA) : TE := fun σ H Q => t σ H fun vs H1 => sp (vs ++ dvs) H1 Q E
/-- how the parameters are bound: us the positional arguments, kw the keywords' values by name, ds the defaults that fill up -/
def Binds (K : PySem.W.Frag) (fd : FuncData) (ps : List Str) (ds : List Value) : Prop :=
  ∀ (s : Shared) (us : List Value), K.In s.heap → (us ++ ds).length = ps.length → BindsTo s fd ⟨us, []⟩ (ps.zip (us ++ ds))
/-- every parameter is given -/
theorem Binds.all {K : PySem.W.Frag} {fd : FuncData} {ps : List Str} (h : ∀ us : List Value, us.length = ps.length → bindArgs fd ⟨us, []⟩ = pure (ps.zip us)) : Binds K fd ps [] := fun s us _ hl => by
  rw [List.append_nil] at hl ⊢
  exact .of_eq (h us hl)

/-- an exception of a callee reaches what this body wants of exceptions -/
def Passes (CX : CXT) (X : Cx) (E : XK) : Prop := ∀ (pins : List (Addr × Obj)) (σ : St) (H : Hp) (s : Shared) (e : Value) (s' : Shared), Inv X pins σ H s → CX X.stack H s E e s' → X.xe e s'

section
variable {X : Cx} {CX : CXT} {k : Nat} {f C : Addr} {fd : FuncData} {ps : List Str} {sp : Sp} {dvs : List V} {ds : List Value} {E : XK} {x m : Str} {p pos apos : Pos} {e o : Expr} {es : List Expr} {ta : TE} {t : TA}

/-- the callee runs -/
theorem run_fn {pins : List (Addr × Obj)} {σ : St} {H : Hp} {s : Shared} {Q : VK} {us : List Value} {vs : List V} (F : FnOk X.prog X.w X.K X.mg X.base CX k f fd ps sp) (hr : Room k X.A) (hb : Binds X.K fd ps ds) (hd : Vals dvs ds) (hx : Passes CX X E)
    (I : Inv X pins σ H s) (r : Vals vs us) (h : sp (vs ++ dvs) H Q E) : wpAny (model X.prog X.w) X.A (call (.ref f) us) (EP X pins σ Q) X.xe s := by
  have r2 : Vals (vs ++ dvs) (us ++ ds) := r.append hd
  have hl : (us ++ ds).length = ps.length := by rw [← r2.length]; exact F.len _ _ _ _ h
  refine wpAny_call (codeAny_mono (F.run X.A X.stack s H ⟨us, []⟩ (us ++ ds) (vs ++ dvs) Q E hr I.env0 (hb s us I.kIn hl) r2 h) fun r s' hq => ?_)
  cases r with
  | error e => exact hx pins σ H s e s' I hq
  | ok fl =>
    cases fl with
    | ret u => exact I.after hq
    | next => exact False.elim hq
    | brk => exact False.elim hq
    | cont => exact False.elim hq

theorem pe_call (F : FnOk X.prog X.w X.K X.mg X.base CX k f fd ps sp) (hr : Room k X.A) (hg : Gl X x) (hm : X.mg x = some (.ref f)) (hk : PySem.W.keepIn X.K (.ref f) = true) (hb : Binds X.K fd ps ds) (hd : Vals dvs ds) (hx : Passes CX X E)
    (ha : PA X (e :: es) t) (hdb : (x == ("__debug__" : Str)) = false := by decide) (he : starEach (e :: es) X.env = (false, eval e X.env) :: starEach es X.env := by rfl) (hpl : (backTo pos (starEach es X.env)).any (·.1) = false := by rfl) :
    PE X (.Call (.Name x p) (e :: es) [] pos) (tCall sp dvs E t) := by
  intro pins s σ H Q I h
  refine wpAny_Call_Name_kw (ld_glob I hg hm ?_ hdb)
  refine PySem.W.callWith_K (h₀ := X.base) I.ok.mod.kin hk (thn (ha pos pins s σ H _ I h) fun us s1 ⟨vs, H1, I1, r, q⟩ => ⟨I1.kIn, ?_⟩) he hpl
  exact run_fn F hr hb hd hx I1 r q
/-- what a class must have to be made -/
structure Mk (K : PySem.W.Frag) (C f : Addr) : Prop where
  makes : PySem.W.makesIn K C = true
  init : PySem.W.findIn K (.ref C) "__init__" = some (some (.ref f))
  fn : PySem.W.isFn K (.ref f) = true
  kp : PySem.W.keepIn K (.ref C) = true

end

/-! ### keywords -/
section
variable {X : Cx} {CX : CXT} {k : Nat} {f C : Addr} {fd : FuncData} {ps ks : List Str} {sp : Sp} {E : XK} {x m : Str} {p pos apos kpos : Pos} {e o : Expr} {es : List Expr} {kws : List Keyword} {te ta : TE} {t tk : TA} {nm : Option Str}
/-- how a call with keywords binds: g puts the positional values us and the keywords' values ws (names ks) in the parameters' order, defaults among them -/
structure KBinds (K : PySem.W.Frag) (fd : FuncData) (ps ks : List Str) (g : List Value → List Value → List Value) (gV : List V → List V → List V) : Prop where
  to : ∀ (s : Shared) (us ws : List Value), K.In s.heap → (g us ws).length = ps.length → BindsTo s fd ⟨us, ks.zip ws⟩ (ps.zip (g us ws))
  rel : ∀ {vs : List V} {us : List Value} {zs : List V} {ws : List Value}, Vals vs us → Vals zs ws → Vals (gV vs zs) (g us ws)
variable {g : List Value → List Value → List Value} {gV : List V → List V → List V}
end

/-! ### a def's body keeps its promise -/
/-- names: the parameters first -/
structure FnScope (N P : List Str) (sc : Scope) : Prop where
  kind : sc.kind = .function
  co : sc.isCoroutine = false
  gen : sc.isGenerator = false
  nd : N.Nodup
  pre : N.take P.length = P
  par : ∀ x ∈ P, sc.names.lookup x = some .local ∨ sc.names.lookup x = some .cell
  nofree : ∀ y ∈ sc.names, y.2 ≠ .free

theorem bindL_out {kindOf : Str → Option NameKind} {x : Str} : ∀ {binds : List (Str × Value)} {m : Str → Option Value}, (∀ v, (x, v) ∉ binds) → bindL kindOf binds m x = m x
  | [], _, _ => rfl
  | (n, v) :: r, m, h => by
    unfold bindL
    rw [bindL_out fun w hw => h w (List.mem_cons_of_mem _ hw)]
    split
    · have : x ≠ n := by rintro rfl; exact h v List.mem_cons_self
      simp [this]
    · rfl
theorem bindC_out {kindOf : Str → Option NameKind} {x : Str} : ∀ {binds : List (Str × Value)} {m : Str → Option Value}, (∀ v, (x, v) ∉ binds) → bindC kindOf binds m x = m x
  | [], _, _ => rfl
  | (n, v) :: r, m, h => by
    unfold bindC
    rw [bindC_out fun w hw => h w (List.mem_cons_of_mem _ hw)]
    split
    · rfl
    · have : x ≠ n := by rintro rfl; exact h v List.mem_cons_self
      simp [this]
theorem bindL_get {kindOf : Str → Option NameKind} {x : Str} {v : Value} : ∀ {P : List Str} {vs : List Value} {i : Nat} {m : Str → Option Value}, P.Nodup → P[i]? = some x → vs[i]? = some v → kindOf x = some .local →
    bindL kindOf (P.zip vs) m x = some v
  | [], _, _, _, _, h, _, _ => by simp at h
  | _ :: _, [], _, _, _, _, h, _ => by simp at h
  | p :: P, w :: vs, 0, m, nd, h1, h2, hk => by
    simp at h1 h2; subst h1; subst h2
    show bindL kindOf ((p, w) :: P.zip vs) m p = _
    unfold bindL
    rw [bindL_out fun v hv => (List.nodup_cons.mp nd).1 (List.of_mem_zip hv).1, if_pos hk]
    simp
  | p :: P, w :: vs, i + 1, m, nd, h1, h2, hk => by
    show bindL kindOf ((p, w) :: P.zip vs) m x = _
    unfold bindL
    exact bindL_get (i := i) (List.nodup_cons.mp nd).2 (by simpa using h1) (by simpa using h2) hk
theorem bindC_get {kindOf : Str → Option NameKind} {x : Str} {v : Value} : ∀ {P : List Str} {vs : List Value} {i : Nat} {m : Str → Option Value}, P.Nodup → P[i]? = some x → vs[i]? = some v → kindOf x ≠ some .local →
    bindC kindOf (P.zip vs) m x = some v
  | [], _, _, _, _, h, _, _ => by simp at h
  | _ :: _, [], _, _, _, _, h, _ => by simp at h
  | p :: P, w :: vs, 0, m, nd, h1, h2, hk => by
    simp at h1 h2; subst h1; subst h2
    show bindC kindOf ((p, w) :: P.zip vs) m p = _
    unfold bindC
    rw [bindC_out fun v hv => (List.nodup_cons.mp nd).1 (List.of_mem_zip hv).1, if_neg hk]
    simp
  | p :: P, w :: vs, i + 1, m, nd, h1, h2, hk => by
    show bindC kindOf ((p, w) :: P.zip vs) m x = _
    unfold bindC
    exact bindC_get (i := i) (List.nodup_cons.mp nd).2 (by simpa using h1) (by simpa using h2) hk

/-- the names' values at the entry -/
def start (N : List Str) (vs : List V) : St := vs.map some ++ List.replicate (N.length - vs.length) none

/-- the context of a def's body, at its entry; an exception leaves the frame, then lies as CX says -/
def cxOf (CX : CXT) (P : Program) (w : World) (K : PySem.W.Frag) (mg : Str → Option Value) (base : Heap) (N : List Str) (qual : Str) (scope : Scope) (f : Addr) (cd : Value) (A : Around) (outer : List Env) (s : Shared) (H : Hp) (E : XK) : Cx where
  prog := P
  w := w
  K := K
  mg := mg
  base := base
  A := A.deeper (envOfC qual scope s.heap.objs.size f cd)
  N := N
  s₀ := s
  H₀ := H
  env := envOfC qual scope s.heap.objs.size f cd
  outer := outer
  stack := envOfC qual scope s.heap.objs.size f cd :: outer
  ex := []
  calm := true
  fn := fun _ => true
  pn := []
  xe := fun e s' => wpAny (model P w) (A.deeper (envOfC qual scope s.heap.objs.size f cd)) (leaving (envOfC qual scope s.heap.objs.size f cd) e) (fun _ s'' => CX outer H s E e s'') (fun e' s'' => CX outer H s E e' s'') s'

theorem cell_has {sc : Scope} {n : Nat} {x : Str} (h : sc.names.lookup x = some .cell) : ∃ c, (cellsFrom n sc.names []).lookup x = some c := by
  have q := PySem.W.cellsFrom_some sc.names n [] (.inl h)
  exact Option.isSome_iff_exists.mp q

theorem inv_start {CX : CXT} {P : Program} {w : World} {K : PySem.W.Frag} {mg : Str → Option Value} {base : Heap} {N ps : List Str} {qual : Str} {scope : Scope} {f : Addr} {cd : Value} {A : Around} {outer : List Env} {s s1 : Shared} {H : Hp} {E : XK} {us : List Value} {vs : List V}
    (S : FnScope N ps scope) (hd : A.handled = none) (e0 : Env0 P w K mg base A outer s H) (hl : vs.length = ps.length) (r : Vals vs us)
    (x : InCallC s s.heap.objs.size (bindL (envOfC qual scope s.heap.objs.size f cd).kindOf (ps.zip us) fun _ => none) (cellsFrom (s.heap.objs.size + 1) scope.names []) (bindC (envOfC qual scope s.heap.objs.size f cd).kindOf (ps.zip us) fun _ => none) s1) :
    Inv (cxOf CX P w K mg base N qual scope f cd A outer s H E) [] (start N vs) H s1 := by
  have hpl : ps.length ≤ N.length := by have := congrArg List.length S.pre; rw [List.length_take] at this; omega
  obtain ⟨h1, tk, rfl, hk⟩ := x.done
  have noA : ∀ b : Addr, b ∉ (cxOf CX P w K mg base N qual scope f cd A outer s H E).ex := fun b z => absurd (show b ∈ ([] : List Addr) from z) (by simp)
  refine ⟨⟨e0.mod, S.kind, rfl, rfl, Nat.le_refl _, fun y z c h1 h2 => ?_, fun y hy => ?_, fun y c _ h => ?_, fun _ => hd, Around.frames_deeper e0.frames, .inr ⟨rfl, rfl⟩, fun b z => absurd z (noA b), e0.bs, e0.bsz, fun b _ _ => noA b, fun b z => absurd z (noA b), e0.funs, e0.frf⟩,
    rfl, e0.bare, Un.kept hk, ⟨_, x.toInCall.ns, fun i y v h1 h2 h3 => ?_⟩, fun y c h => ⟨_, x.cell y c h⟩, e0.hok.fresh (Nat.le_refl _), fun y c h => ?_, fun p hp => absurd (show p ∈ ([] : List (Addr × Obj)) from hp) (by simp), e0.hok.kept hk, ?_⟩
  · exact name_of_addr x.apart (PySem.mem_of_lookup h1) (PySem.mem_of_lookup h2)
  · have hy : scope.names.lookup y = some .cell ∨ scope.names.lookup y = some .free := hy
    rcases hy with hy | hy
    · exact cell_has hy
    · exact absurd rfl (S.nofree _ (PySem.mem_of_lookup hy))
  · exact Nat.le_of_lt (x.above y c (PySem.mem_of_lookup h))
  · have hi : i < vs.length := by
      unfold start at h2
      by_cases hi : i < vs.length
      · exact hi
      · rw [List.getElem?_append_right (by simpa using hi)] at h2
        rw [List.getElem?_replicate] at h2
        split at h2 <;> cases h2
    have ha : vs[i]? = some v := by
      unfold start at h2
      rw [List.getElem?_append_left (by simpa using hi), List.getElem?_map] at h2
      cases e : vs[i]? with
      | none => rw [e] at h2; cases h2
      | some a => rw [e] at h2; cases h2; rfl
    obtain ⟨u, hu, rv⟩ := r.get ha
    have hp : ps[i]? = some y := by
      rw [← S.pre, List.getElem?_take_of_lt (by omega)]; exact h1
    have ndP : ps.Nodup := by rw [← S.pre]; exact S.nd.sublist (List.take_sublist _ _)
    refine ⟨u, rv, ?_⟩
    rcases S.par y (List.mem_of_getElem? hp) with k | k
    · exact .inl ⟨k, bindL_get ndP hp hu k⟩
    · obtain ⟨c, e⟩ := cell_has (n := s.heap.objs.size + 1) k
      refine .inr ⟨.inl k, c, e, ?_⟩
      have q := x.cell y c e
      rw [bindC_get ndP hp hu (by show scope.names.lookup y ≠ _; rw [k]; decide)] at q
      exact q
  · exact e0.hok.fresh (Nat.le_of_lt (x.above y c (PySem.mem_of_lookup h)))
  · unfold start
    show _ = N.length
    rw [List.length_append, List.length_map, List.length_replicate]
    omega

/-- THE RULE: a def (or a method) of the text, by its body. The body's reading t is chosen for each entry; it is run at the parameters' values -/
theorem fn_of {CX : CXT} {P : Program} {w : World} {K : PySem.W.Frag} {mg : Str → Option Value} {base : Heap} {k : Nat} {f : Addr} {name qual : Str} {params : Arguments} {body : List Stmt} {scope : Scope} {dV kV doc pm cdv ct oc : Value} {an od : Option Addr}
    {osl : Array (Option Value)} {N ps : List Str} {sp : Sp} (lk : K.lookup f = some ⟨oc, od, .func (PySem.W.fnOf name qual params body scope dV kV doc pm an cdv ct), osl⟩) (hcd : PySem.W.codeIn K cdv qual = true) (S : FnScope N ps scope)
    (len : ∀ vs H Q E, sp vs H Q E → vs.length = ps.length)
    (hbody : ∀ (A : Around) (outer : List Env) (s : Shared) (H : Hp) (vs : List V) (Q : VK) (E : XK), Room k (A.deeper (envOfC qual scope s.heap.objs.size f cdv)) → sp vs H Q E →
      ∃ t, PSs (cxOf CX P w K mg base N qual scope f cdv A outer s H E) body t ∧ t { nx := fun _ H' => Q .non H', rt := Q } (start N vs) H) :
    FnOk P w K mg base CX (k + 1) f (PySem.W.fnOf name qual params body scope dV kV doc pm an cdv ct) ps sp := by
  refine ⟨len, fun A outer s H args us vs Q E hr e0 hb r hsp => ?_⟩
  have hl := len _ _ _ _ hsp
  have KX : K.In s.heap := e0.mod.kin.keeps fun b o e => (e0.bs b o e).1
  have lim : s.heap.NoLimit := e0.mod.nolimit.keeps fun b o e => (e0.bs b o e).1
  have hkind : ∀ y ∈ ps.zip us, scope.names.lookup y.1 = some .local ∨ (scope.names.lookup y.1 = some .cell ∧ ((cellsFrom (s.heap.objs.size + 1) scope.names []).lookup y.1).isSome = true) := fun ⟨n, v⟩ hy => by
    rcases S.par n (List.of_mem_zip hy).1 with q | q
    · exact .inl q
    · exact .inr ⟨q, PySem.W.cellsFrom_some _ _ _ (.inl q)⟩
  refine codeAny_call_function hr.depth (KX _ _ lk) rfl S.co S.gen rfl (PySem.W.codeRec_of KX hcd) (hb _ _ _ _ ?_)
  refine wpAny_newFunctionEnv_cells S.kind hkind fun env he s1 x => ?_
  subst he
  refine ⟨lim.keeps x.toInCall.keep, codeAny_func ?_⟩
  obtain ⟨t, ht, hq⟩ := hbody A outer s H vs Q E (hr.deeper _) hsp
  have I : Inv (cxOf CX P w K mg base N qual scope f cdv A outer s H E) [] (start N vs) H s1 := inv_start S hr.hd e0 hl r x
  refine wpAny_mono (ht [] s1 (start N vs) H _ I hq) (fun fl s' hs => ?_) fun e s' hs => hs
  have fin : ∀ {σ' : St} {H' : Hp} {v : V} {u : Value}, Inv (cxOf CX P w K mg base N qual scope f cdv A outer s H E) [] σ' H' s' → RelV v u → Q v H' → CE outer P w H s Q u s' :=
    fun {σ' H' v u} J rv q => ⟨v, H', J.os, J.bare, J.base, J.hok, rv, q⟩
  cases fl with
  | ret u =>
    obtain ⟨v, σ', H', J, rv, q⟩ := hs
    exact fin J rv q
  | next =>
    obtain ⟨σ', H', J, q⟩ := hs
    exact fin (v := V.non) (u := Value.none) J rfl q
  | brk =>
    obtain ⟨_, _, _, q⟩ := hs
    exact False.elim q
  | cont =>
    obtain ⟨_, _, _, q⟩ := hs
    exact False.elim q
end L2

namespace L2
open PySem PySem.Spec PyProof.Rows
section
variable {X : Cx} {x : Str} {p pos : Pos} {e : Expr} {es : List Expr} {t : TA} {id T : String} {r : List V → Hp → VK → Prop}

def tCB (r : List V → Hp → VK → Prop) (t : TA) : TE := fun σ H Q => t σ H fun vs H1 => r vs H1 Q
/-- f(e, ..), f a built-in function -/
theorem pe_callB (hc : CallR X (.builtin id) r) (hg : Gl X x) (hm : X.mg x = none) (hv : bootBuiltins x = some (.builtin id)) (ha : PA X (e :: es) t) (hn : x ≠ "__name__" := by decide) (hdb : (x == ("__debug__" : Str)) = false := by decide)
    (he : starEach (e :: es) X.env = (false, eval e X.env) :: starEach es X.env := by rfl) (hpl : (backTo pos (starEach es X.env)).any (·.1) = false := by rfl) : PE X (.Call (.Name x p) (e :: es) [] pos) (tCB r t) := by
  intro pins s σ H Q I h
  refine wpAny_Call_Name_kw (ld_blt I hg hm hv ?_ hn hdb)
  exact PyProof.Rows.callWith_builtin1 (thn (ha pos pins s σ H _ I h) fun us s1 ⟨vs, H1, I1, r1, q1⟩ => hc pins s1 σ H1 vs us Q I1 r1 q1) he hpl
/-- T(e, ..), T a built-in type -/
theorem pe_callTy (hc : CallR X (.type T) r) (hg : Gl X x) (hm : X.mg x = none) (hv : bootBuiltins x = some (.type T)) (ha : PA X (e :: es) t) (hn : x ≠ "__name__" := by decide) (hdb : (x == ("__debug__" : Str)) = false := by decide)
    (he : starEach (e :: es) X.env = (false, eval e X.env) :: starEach es X.env := by rfl) (hpl : (backTo pos (starEach es X.env)).any (·.1) = false := by rfl) : PE X (.Call (.Name x p) (e :: es) [] pos) (tCB r t) := by
  intro pins s σ H Q I h
  refine wpAny_Call_Name_kw (ld_blt I hg hm hv ?_ hn hdb)
  exact PyProof.Rows.callWith_type1 (thn (ha pos pins s σ H _ I h) fun us s1 ⟨vs, H1, I1, r1, q1⟩ => hc pins s1 σ H1 vs us Q I1 r1 q1) he hpl
end
end L2

namespace HT
open PySem PyProof.Rows

section
open PySem.SeqAt
open PySem.AutoSeq1 (wpAny_loadPart')
open PySem.MeetsSeq PySem.MeetsSeq2 PySem.MeetsSeq3

end

section
variable {prog : Program} {w : World} {A : Around} {E : Value → Shared → Prop} {s : Shared}

/-! ### t[a:b], not the whole -/
/-- a slice's bound as a place among n (d where it is left out) -/
def sIx (n d : Nat) : Option Int → Nat
  | none => d
  | some v => if v < 0 then (v + (n : Int)).toNat else min v.toNat n
theorem sIx_none (n d : Nat) : sIx n d none = d := rfl
theorem sIx_nat (n d k : Nat) : sIx n d (some (k : Int)) = min k n := by
  show (if (k : Int) < 0 then ((k : Int) + (n : Int)).toNat else min (k : Int).toNat n) = min k n
  rw [if_neg (by omega), Int.toNat_natCast]
theorem sIx_le (n d : Nat) (hd : d ≤ n) (o : Option Int) : sIx n d o ≤ n := by
  cases o with
  | none => exact hd
  | some v =>
    show (if v < 0 then (v + (n : Int)).toNat else min v.toNat n) ≤ n
    by_cases hv : v < 0
    · rw [if_pos hv]; omega
    · rw [if_neg hv]; exact Nat.min_le_right _ _
theorem clip_eq (v : Int) (n d : Nat) : (if v < 0 then max (v + (n : Int)) 0 else min v (n : Int)) = ((sIx n d (some v) : Nat) : Int) := by
  show (if v < 0 then max (v + (n : Int)) 0 else min v (n : Int)) = (((if v < 0 then (v + (n : Int)).toNat else min v.toNat n) : Nat) : Int)
  by_cases hv : v < 0
  · simp only [if_pos hv]; omega
  · simp only [if_neg hv]; omega
theorem adjust_gen (lo hi : Option Int) (n : Nat) : Builtin.Slice.sliceAdjust lo hi 1 (n : Int) = (((sIx n 0 lo : Nat) : Int), ((sIx n n hi : Nat) : Int)) := by
  have h1 : ¬ ((1 : Int) < 0) := by omega
  unfold Builtin.Slice.sliceAdjust
  simp only [h1, if_false]
  refine Prod.ext ?_ ?_
  · cases lo with
    | none => rfl
    | some v => exact clip_eq v n 0
  · cases hi with
    | none => rfl
    | some v => exact clip_eq v n n
theorem places_gen (i j : Nat) : Builtin.Slice.slicePlaces (i : Int) (j : Int) 1 = j - i := by
  unfold Builtin.Slice.slicePlaces
  have h1 : (1 : Int) > 0 := by omega
  simp only [h1, if_true, Int.ediv_one]
  split <;> omega
theorem slicePart_ {v : Value} {o : Option Int} {Q : Option Int → Shared → Prop} (p : IsPart v o) (h : Q o s) : wpAny (model prog w) A (Builtin.Slice.slicePartIndex v) Q E s := by
  cases p with
  | none => exact slicePart_none h
  | int i t => exact slicePart_int h
theorem sliceApplied_gen {sl : Addr} {vl vu : Value} {lo hi : Option Int} {n : Nat} {Q : Int × Int × Nat → Shared → Prop} (hs : s.heap.IsSliceOf sl vl vu .none) (pl : IsPart vl lo) (pu : IsPart vu hi)
    (h : Q (((sIx n 0 lo : Nat) : Int), 1, sIx n n hi - sIx n 0 lo) s) : wpAny (model prog w) A (Builtin.Slice.sliceApplied (.ref sl) (pure (n : Int))) Q E s := by
  obtain ⟨os, hos, hcs, hds⟩ := id hs
  unfold Builtin.Slice.sliceApplied Builtin.Slice.sliceFields
  refine wpAny_bind (wpAny_bind (wpAny_field hos hds (x := vl) rfl (wpAny_bind (wpAny_field hos hds (x := vu) rfl (wpAny_bind (wpAny_field hos hds (x := .none) rfl (wpAny_pure ?_)))))))
  refine wpAny_bind (slicePart_none ?_)
  show wpAny _ _ (if ((1 : Int) == 0) = true then _ else _) _ _ s
  rw [if_neg (by decide)]
  refine wpAny_bind (slicePart_ pl (wpAny_bind (slicePart_ pu (wpAny_bind (wpAny_pure ?_)))))
  show wpAny _ _ (match Builtin.Slice.sliceAdjust lo hi 1 (n : Int) with | (lo, hi) => pure (lo, (1 : Int), Builtin.Slice.slicePlaces lo hi 1)) _ _ s
  rw [adjust_gen lo hi n]
  show wpAny _ _ (pure (((sIx n 0 lo : Nat) : Int), (1 : Int), Builtin.Slice.slicePlaces ((sIx n 0 lo : Nat) : Int) ((sIx n n hi : Nat) : Int) 1)) _ _ s
  rw [places_gen]
  exact wpAny_pure h
theorem pick_gen (xs : Array Value) (i k : Nat) : ((List.range k).filterMap fun (m : Nat) => xs[((i : Int) + (m : Int) * 1).toNat]?).toArray = ((xs.toList.drop i).take k).toArray := by
  have e : (fun (m : Nat) => xs[((i : Int) + (m : Int) * 1).toNat]?) = fun m => xs[i + m]? := by
    funext m
    have : ((i : Int) + (m : Int) * 1).toNat = i + m := by omega
    rw [this]
  rw [e]
  have := pick_run xs i k
  rw [List.filterMap_map] at this
  have e2 : ((fun x => xs[x]?) ∘ fun x => i + x) = fun m => xs[i + m]? := rfl
  rw [e2] at this
  rw [this]

theorem getItem_tuple_cut {t sl : Addr} {items : Array Value} {vl vu : Value} {lo hi : Option Int} {Q : Value → Shared → Prop} (ht : IsTup s.heap t items) (hs : s.heap.IsSliceOf sl vl vu .none) (pl : IsPart vl lo) (pu : IsPart vu hi)
    (hw : ¬ (sIx items.size 0 lo = 0 ∧ sIx items.size items.size hi = items.size))
    (h : Q (.ref s.heap.objs.size) { s with heap := s.heap.push { cls := .type "tuple", data := .seq ((items.toList.drop (sIx items.size 0 lo)).take (sIx items.size items.size hi - sIx items.size 0 lo)).toArray } })
    (hsz : items.size ≤ sizeLine) : wpAny (model prog w) A (getItem (.ref t) (.ref sl)) Q E s := by
  have htake : sizeOk (.seq ((items.toList.drop (sIx items.size 0 lo)).take (sIx items.size items.size hi - sIx items.size 0 lo)).toArray) := by
    show ((items.toList.drop (sIx items.size 0 lo)).take (sIx items.size items.size hi - sIx items.size 0 lo)).toArray.size ≤ sizeLine
    rw [List.size_toArray, List.length_take, List.length_drop, Array.length_toList]
    omega
  have hj : sIx items.size items.size hi ≤ items.size := sIx_le _ _ (Nat.le_refl _) hi
  obtain ⟨os, hos, hcs, hds⟩ := id hs
  have hTs : s.TypeIs (.ref sl) "slice" := ⟨os, hos, hcs⟩
  unfold getItem
  try with_reducible refine wpAny_holding ?_
  first | refine wpAny_bind (wpAny_pure ?_) | skip
  refine wpAny_bind (wpAny_sequenceKey ht.typeIs (by decide) ?_)
  refine wpAny_bind (wpAny_callSpecial?_slot (name := Str.ofString "__getitem__") ht.typeIs PyProof.Rows.slot_tuple_getitem
    (wpAny_call_entry PyProof.Rows.slot_tuple_getitem ht.typeIs entry_tuple_getitem ?_ (args_tuple_getitem _ _)))
  show wpAny _ _ (Builtin.Tuple.tupleItemsOf (.ref t) >>= _) _ _ s
  refine wpAny_bind (tupleItemsOf_ ht ?_)
  refine wpAny_bind (wpAny_typeOf hTs ?_)
  rw [if_pos (by decide)]
  refine wpAny_bind (sliceApplied_gen hs pl pu ?_)
  have hno : ¬ ((((sIx items.size 0 lo : Nat) : Int) == 0 && (1 : Int) == 1 && (sIx items.size items.size hi - sIx items.size 0 lo) == items.size) = true) := by
    intro q
    rw [Bool.and_eq_true, Bool.and_eq_true] at q
    have q1 : ((sIx items.size 0 lo : Nat) : Int) = 0 := eq_of_beq q.1.1
    have q2 : sIx items.size items.size hi - sIx items.size 0 lo = items.size := eq_of_beq q.2
    exact hw ⟨by omega, by omega⟩
  show wpAny _ _ (if (((sIx items.size 0 lo : Nat) : Int) == 0 && (1 : Int) == 1 && (sIx items.size items.size hi - sIx items.size 0 lo) == items.size) = true then _ else _) _ _ s
  rw [if_neg hno, pick_gen]
  first
    | exact wpAny_bind (m := Builtin.Tuple.tupleExact _) (wpAny_newObj_type (wpAny_pure ⟨_, rfl, wpAny_pure h⟩) htake)
    | exact wpAny_bind (m := Builtin.Tuple.tupleExact _) (wpAny_newObj_type (wpAny_bind (wpAny_pure (wpAny_pure ⟨_, rfl, wpAny_pure h⟩))) htake)
    | exact wpAny_bind (wpAny_bind (m := Builtin.Tuple.tupleExact _) (wpAny_newObj_type (wpAny_pure (wpAny_pure ⟨_, rfl, wpAny_pure h⟩)) htake))
    | exact wpAny_bind (wpAny_bind (m := Builtin.Tuple.tupleExact _) (wpAny_newObj_type (wpAny_pure ⟨_, rfl, wpAny_pure h⟩) htake))
end
end HT

namespace L2
open PySem PySem.Spec PyProof.Rows

/-! ### the parts of a slice -/
abbrev TO := St → Hp → (Option Int → Hp → Prop) → Prop
/-- a slice's part (left out, or an int) -/
def PO (X : Cx) (e : Option Expr) (t : TO) : Prop :=
  ∀ (pins : List (Addr × Obj)) (s : Shared) (σ : St) (H : Hp) (Q : Option Int → Hp → Prop), Inv X pins σ H s → t σ H Q →
    wpAny (model X.prog X.w) X.A (evalPart e X.env) (fun u s' => ∃ o H', Inv X pins σ H' s' ∧ IsPart u o ∧ Q o H') X.xe s
def tNoPart : TO := fun _ H Q => Q none H
def tPart (t : TE) : TO := fun σ H Q => t σ H fun x H1 => ∃ i, x = .int i ∧ Q (some i) H1

section
variable {X : Cx} {e : Expr} {te : TE} {lo hi : Option Expr} {tl th : TO} {pos p2 : Pos}

theorem po_none : PO X none tNoPart := by
  intro pins s σ H Q I h
  rw [evalPart_none]
  exact wpAny_pure ⟨none, H, I, .none, h⟩
theorem po_some (h : PE X e te) : PO X (some e) (tPart te) := by
  intro pins s σ H Q I hw
  rw [evalPart_some]
  refine thn (h pins s σ H _ I hw) fun u s1 ⟨x, H1, I1, r1, q1⟩ => ?_
  obtain ⟨i, rfl, q⟩ := q1
  obtain ⟨t, rfl⟩ := r1
  exact ⟨some i, H1, I1, .int i t, q⟩

/-- what a slice of a value is, by values: the slice object stands at sl -/
def SlR (X : Cx) (r : V → Option Int → Option Int → Hp → VK → Prop) : Prop :=
  ∀ (pins : List (Addr × Obj)) (s : Shared) (σ : St) (H : Hp) (x : V) (v vl vu : Value) (lo hi : Option Int) (sl : Addr) (Q : VK), Inv X pins σ H s → RelV x v → s.heap.IsSliceOf sl vl vu .none → IsPart vl lo → IsPart vu hi → r x lo hi H Q →
    ∃ T id, typeLookup (.type T) "__getitem__" = pure (some (.builtin id)) ∧ s.TypeIs v T ∧ wpAny (model X.prog X.w) X.A (getItem v (.ref sl)) (EP X pins σ Q) X.xe s
theorem SlR.or {r r' : V → Option Int → Option Int → Hp → VK → Prop} (h : SlR X r) (h' : SlR X r') : SlR X (fun x lo hi H Q => r x lo hi H Q ∨ r' x lo hi H Q) := by
  intro pins s σ H x v vl vu lo hi sl Q I rx hs pl pu q
  rcases q with q | q
  · exact h pins s σ H x v vl vu lo hi sl Q I rx hs pl pu q
  · exact h' pins s σ H x v vl vu lo hi sl Q I rx hs pl pu q
def tSl (r : V → Option Int → Option Int → Hp → VK → Prop) (te : TE) (tl th : TO) : TE := fun σ H Q => te σ H fun x H1 => tl σ H1 fun l H2 => th σ H2 fun u H3 => r x l u H3 Q
/-- a[lo:hi], any a -/
theorem pe_slice {r : V → Option Int → Option Int → Hp → VK → Prop} (hr : SlR X r) (he : PE X e te) (hl : PO X lo tl) (hu : PO X hi th) : PE X (.Subscript e (.Slice lo hi none p2) pos) (tSl r te tl th) := by
  intro pins s σ H Q I h
  refine Subscript_ (thn (he pins s σ H _ I h) fun v s1 ⟨x, H1, I1, r1, q1⟩ => ?_)
  refine wpAny_Slice (thn (hl pins s1 σ H1 _ I1 q1) fun vl s2 ⟨l, H2, I2, pl, q2⟩ => thn (hu pins s2 σ H2 _ I2 q2) fun vu s3 ⟨u, H3, I3, pu, q3⟩ => ?_)
  rw [evalPart_none]
  refine wpAny_pure ?_
  have I4 : Inv X pins σ H3 { s3 with heap := s3.heap.push { cls := .type "slice", data := .fields #[vl, vu, .none] } } := I3.kept (t' := s3.toks) fun b ob q => Heap.get?_push_of_some _ q
  obtain ⟨T, id, hT, ht, hg⟩ := hr pins { s3 with heap := s3.heap.push { cls := .type "slice", data := .fields #[vl, vu, .none] } } σ H3 x v vl vu l u s3.heap.objs.size Q I4 r1 (Heap.IsSliceOf.new ..) pl pu q3
  show wpAny (model X.prog X.w) X.A (subscriptTail e (.Slice lo hi none p2) v (.ref s3.heap.objs.size)) (EP X pins σ Q) X.xe { s3 with heap := s3.heap.push { cls := .type "slice", data := .fields #[vl, vu, .none] } }
  exact tail_any (ops := [.ref s3.heap.objs.size, v]) ht hT hg (by with_unfolding_all rfl)

/-- the items of xs[lo:hi] -/
def cutV (xs : List V) (lo hi : Option Int) : List V := (xs.drop (HT.sIx xs.length 0 lo)).take (HT.sIx xs.length xs.length hi - HT.sIx xs.length 0 lo)
theorem cutV_length (xs : List V) (lo hi : Option Int) : (cutV xs lo hi).length ≤ xs.length := by
  unfold cutV
  rw [List.length_take, List.length_drop]
  omega
/-- t[lo:hi], not the whole of it (the whole would be t itself) -/
def rSlT (K : PySem.W.Frag) : V → Option Int → Option Int → Hp → VK → Prop := fun x lo hi H Q => ∃ a xs, x = .ref a ∧ SqT K H a xs ∧
  ¬ (HT.sIx xs.length 0 lo = 0 ∧ HT.sIx xs.length xs.length hi = xs.length) ∧ ∀ p, H p = none → Q (.ref p) (upd H p (.tup (cutV xs lo hi)))
theorem sl_tup : SlR X (rSlT X.K) := by
  intro pins s σ H x v vl vu lo hi sl Q I rx hs pl pu h
  obtain ⟨a, xs, rfl, hx, hw, q⟩ := h
  cases rx
  obtain ⟨its, r, ht, hz⟩ := I.tuple hx
  have hlen : its.toArray.size = xs.length := by rw [List.size_toArray]; exact r.length.symm
  refine ⟨"tuple", _, PyProof.Rows.slot_tuple_getitem.lookup, ht.typeIs, ?_⟩
  refine HT.getItem_tuple_cut ht hs pl pu (by rw [hlen]; exact hw) ?_ (by rw [hlen]; exact hz)
  rw [hlen]
  refine ⟨.ref s.heap.objs.size, _, I.laid (t' := s.toks) (o := .tup (cutV xs lo hi)) (fun b ob q => Heap.get?_push_of_some _ q) (Nat.le_refl _) ?_, rfl, q _ (I.hok.fresh (Nat.le_refl _))⟩
  exact ⟨Nat.le_trans (cutV_length xs lo hi) hz, _, (r.drop (HT.sIx xs.length 0 lo)).take (HT.sIx xs.length xs.length hi - HT.sIx xs.length 0 lo), IsTup.new _ _⟩

/-! ### t < u, t + u -/
end
end L2

namespace L2
open PySem PySem.Spec PyProof.Rows

/-! ### places -/
/-- the place that an index of any sign means -/
def ixN (n : Nat) (i : Int) : Option Nat := if 0 ≤ i then (if i < n then some i.toNat else none) else if -(n : Int) ≤ i then some (i + n).toNat else none
def atI {α : Type} (xs : List α) (i : Int) : Option α := (ixN xs.length i).bind fun j => xs[j]?
theorem ixN_seq {n : Nat} {i : Int} {j : Nat} (h : ixN n i = some j) : seqIndex? i n = some j ∧ j < n ∧ -(n : Int) ≤ i ∧ i < n := by
  unfold ixN at h
  by_cases h0 : 0 ≤ i
  · rw [if_pos h0] at h
    by_cases h1 : i < n
    · rw [if_pos h1] at h
      have e : i.toNat = j := Option.some.inj h
      exact ⟨by rw [seqIndex_of h0 h1, e], by omega, by omega, h1⟩
    · rw [if_neg h1] at h; cases h
  · rw [if_neg h0] at h
    by_cases h1 : -(n : Int) ≤ i
    · rw [if_pos h1] at h
      have e : (i + n).toNat = j := Option.some.inj h
      exact ⟨by rw [seqIndex_neg (by omega) h1, e], by omega, h1, by omega⟩
    · rw [if_neg h1] at h; cases h
theorem atI_get {α : Type} {xs : List α} {i : Int} {v : α} (h : atI xs i = some v) : ∃ j, seqIndex? i xs.length = some j ∧ xs[j]? = some v ∧ j < xs.length ∧ -(xs.length : Int) ≤ i ∧ i < xs.length := by
  unfold atI at h
  cases e : ixN xs.length i with
  | none => rw [e] at h; cases h
  | some j =>
    rw [e] at h
    obtain ⟨h1, h2, h3, h4⟩ := ixN_seq e
    exact ⟨j, h1, h, h2, h3, h4⟩
theorem atI_nat {α : Type} {xs : List α} {j : Nat} {v : α} (h : xs[j]? = some v) : atI xs (j : Int) = some v := by
  have hj : j < xs.length := (List.getElem?_eq_some_iff.mp h).1
  have e : ixN xs.length (j : Int) = some j := by
    unfold ixN
    rw [if_pos (by omega), if_pos (by omega)]; simp
  unfold atI; rw [e]; exact h
theorem atI_last {α : Type} (xs : List α) (v : α) : atI (xs ++ [v]) (-1) = some v := by
  have hl : (xs ++ [v]).length = xs.length + 1 := by simp
  have e : ixN (xs ++ [v]).length (-1) = some xs.length := by
    unfold ixN
    rw [hl, if_neg (by decide), if_pos (by omega)]
    congr 1
    omega
  unfold atI
  rw [e]
  show (xs ++ [v])[xs.length]? = some v
  simp

/-! ### what may be subscripted -/
/-- what stands as an index of a plain subscript -/
def PlainIx (b : Expr) : Prop := ∀ o i, subscripted b false o i = operate [o, i] (getItem o i)
/-- a subscript by values -/
def IxR (X : Cx) (r : R2) : Prop :=
  ∀ (value slice : Expr) (pins : List (Addr × Obj)) (s : Shared) (σ : St) (H : Hp) (x y : V) (v u : Value) (Q : VK), Inv X pins σ H s → RelV x v → RelV y u → r x y H Q →
    subscripted slice false v u = operate [v, u] (getItem v u) → wpAny (model X.prog X.w) X.A (subscriptTail value slice v u) (EP X pins σ Q) X.xe s
/-- a call of a builtin's method by values: the receiver, the arguments -/
def MtR (X : Cx) (id : String) (r : V → List V → Hp → VK → Prop) : Prop :=
  ∀ (pins : List (Addr × Obj)) (s : Shared) (σ : St) (H : Hp) (x : V) (xs : List V) (v : Value) (us : List Value) (Q : VK), Inv X pins σ H s → RelV x v → Vals xs us → r x xs H Q →
    wpAny (model X.prog X.w) X.A (call (.builtin id) (v :: us)) (EP X pins σ Q) X.xe s
section
variable {X : Cx} {a b : Expr} {ta tb : TE} {pos : Pos}
theorem IxR.or {r r' : R2} (h : IxR X r) (h' : IxR X r') : IxR X (fun x y H Q => r x y H Q ∨ r' x y H Q) := by
  intro value slice pins s σ H x y v u Q I rx ry q hs
  rcases q with q | q
  · exact h value slice pins s σ H x y v u Q I rx ry q hs
  · exact h' value slice pins s σ H x y v u Q I rx ry q hs
theorem MtR.or {id : String} {r r' : V → List V → Hp → VK → Prop} (h : MtR X id r) (h' : MtR X id r') : MtR X id (fun x xs H Q => r x xs H Q ∨ r' x xs H Q) := by
  intro pins s σ H x xs v us Q I rx rs q
  rcases q with q | q
  · exact h pins s σ H x xs v us Q I rx rs q
  · exact h' pins s σ H x xs v us Q I rx rs q
/-- a[b] -/
theorem pe_ix {r : R2} (hr : IxR X r) (ha : PE X a ta) (hb : PE X b tb) (hs : PlainIx b) : PE X (.Subscript a b pos) (tOp r ta tb) := by
  intro pins s σ H Q I h
  exact Subscript_ (binT ha hb I h fun v u s2 x y H2 I2 rx ry q => hr a b pins s2 σ H2 x y v u Q I2 rx ry q (hs _ _))

def rIxL (K : PySem.W.Frag) : R2 := fun x y H Q => ∃ p xs i v, x = .ref p ∧ y = .int i ∧ SqL K H p xs ∧ atI xs i = some v ∧ Q v H
def rIxT (K : PySem.W.Frag) : R2 := fun x y H Q => ∃ p xs i v, x = .ref p ∧ y = .int i ∧ SqT K H p xs ∧ atI xs i = some v ∧ Q v H
def rIxS : R2 := fun x y H Q => ∃ z i c, x = .str z ∧ y = .int i ∧ z.length ≤ sizeLine ∧ atI z.cps.toList i = some c ∧ Q (.str ⟨#[c]⟩) H
theorem ix_list : IxR X (rIxL X.K) := by
  intro value slice pins s σ H x y v u Q I rx ry h hs
  obtain ⟨p, xs, i, z, rfl, rfl, hq, he, q⟩ := h
  cases rx
  obtain ⟨t, rfl⟩ := ry
  obtain ⟨its, r, pl, hz⟩ := I.list hq
  obtain ⟨j, h1, h2, h3, h4, h5⟩ := atI_get he
  obtain ⟨w, ew, rw'⟩ := r.get h2
  have hl := r.length
  have hn := line63
  have fin : EP X pins σ Q w s := ⟨z, H, I, rw', q⟩
  by_cases h0 : 0 ≤ i
  · have hj : i.toNat = j := by
      rw [seqIndex_of h0 h5] at h1
      exact Option.some.inj h1
    exact item_listR pl.isList h0 (by omega) (by rw [hj]; simpa using ew) fin hs
  · have hj : (i + (its.toArray.size : Int)).toNat = j := by
      rw [seqIndex_neg (by omega) h4] at h1
      rw [List.size_toArray, ← hl]
      exact Option.some.inj h1
    exact subscriptTail_builtinR (x := w) pl.isList.typeIs slot_list_getitem.lookup
      (wpAny_getItem_list_neg (Q := fun r s' => r = w ∧ EP X pins σ Q r s') pl.isList (by omega) (by rw [List.size_toArray] <;> omega) (by omega) (by rw [hj]; simpa using ew) ⟨rfl, fin⟩) hs
theorem ix_tup : IxR X (rIxT X.K) := by
  intro value slice pins s σ H x y v u Q I rx ry h hs
  obtain ⟨p, xs, i, z, rfl, rfl, hq, he, q⟩ := h
  cases rx
  obtain ⟨t, rfl⟩ := ry
  obtain ⟨its, r, pl, hz⟩ := I.tuple hq
  obtain ⟨j, h1, h2, h3, h4, h5⟩ := atI_get he
  obtain ⟨w, ew, rw'⟩ := r.get h2
  have hl := r.length
  have hn := line63
  have fin : EP X pins σ Q w s := ⟨z, H, I, rw', q⟩
  exact subscriptTail_builtinR (x := w) pl.typeIs slot_tuple_getitem.lookup
    (getItem_tuple (j := j) (Q := fun r s' => r = w ∧ EP X pins σ Q r s') pl (by omega) (by omega) (by rw [List.size_toArray, ← hl]; exact h1) (by simpa using ew) ⟨rfl, fin⟩) hs
theorem ix_str : IxR X rIxS := by
  intro value slice pins s σ H x y v u Q I rx ry h hs
  obtain ⟨z, i, c, rfl, rfl, hz, he, q⟩ := h
  obtain ⟨t, rfl⟩ := rx
  obtain ⟨t', rfl⟩ := ry
  obtain ⟨j, h1, h2, h3, h4, h5⟩ := atI_get he
  have hl : z.cps.toList.length = z.length := by simp [Str.length]
  rw [hl] at h1 h4 h5
  have hn := line63
  exact tail_any (typeIs_str s z t) slot_str_getitem.lookup (getItem_str (c := c) (by
    have e1 : decide (i < -(2 ^ 63 : Int)) = false := decide_eq_false (by omega)
    have e2 : decide (i ≥ 2 ^ 63) = false := decide_eq_false (by omega)
    rw [e1, e2, Bool.or_false]) (by rw [h1]; simpa using h2) ⟨.str ⟨#[c]⟩, H, I.tok _, ⟨_, rfl⟩, q⟩) hs
/-! ### xs[i] = v, any sign -/
/-- the list's object behind a store -/
theorem mapSeq_set (its : List Value) (n j : Nat) (u : Value) : Obj.mapSeq (·.setIfInBounds j u) { cls := .type "list", data := .seq its.toArray n } = { cls := .type "list", data := .seq (its.set j u).toArray n } := by
  simp [Obj.mapSeq]
theorem Inv.lst {pins : List (Addr × Obj)} {σ : St} {H : Hp} {s : Shared} {p : Addr} {xs : List V} (I : Inv X pins σ H s) (h : H p = some (.lst xs)) :
    ∃ (its : List Value) (n : Nat), Vals xs its ∧ s.heap.get? p = some { cls := .type "list", data := .seq its.toArray n } ∧ xs.length ≤ sizeLine := by
  obtain ⟨z, its, n, r, e⟩ := I.hok p _ h
  exact ⟨its, n, r, e, z⟩
/-- the list at p is written by an update of its object -/
theorem Inv.lstUpd {pins : List (Addr × Obj)} {σ : St} {H : Hp} {s : Shared} {p : Addr} {xs ys : List V} {its its' : List Value} {n n' : Nat} {f : Obj → Obj} (I : Inv X pins σ H s) (h : H p = some (.lst xs))
    (ho : s.heap.get? p = some { cls := .type "list", data := .seq its.toArray n }) (hf : f { cls := .type "list", data := .seq its.toArray n } = { cls := .type "list", data := .seq its'.toArray n' }) (r : Vals ys its') (hz : ys.length ≤ sizeLine) (t : Nat) :
    Inv X pins σ (upd H p (.lst ys)) { s with heap := s.heap.update p f, toks := t } := by
  have e : (s.heap.update p f).get? p = some { cls := .type "list", data := .seq its'.toArray n' } := by
    rw [Heap.get?_update_self f ho (by rw [hf] <;> rfl), hf]
  refine I.write (x := p) (e := p) (by rw [h]; trivial) (.inl rfl) (fun b u hb q => (Heap.get?_update_other _ _ (Ne.symm hb)).trans q) ⟨_, e⟩ ?_
  exact ⟨hz, its', n', r, e⟩
def rSetL : V → V → V → Hp → (Hp → Prop) → Prop := fun o i v H Q => ∃ p xs k j, o = .ref p ∧ i = .int k ∧ H p = some (.lst xs) ∧ ixN xs.length k = some j ∧ Q (upd H p (.lst (xs.set j v)))
theorem set_list : PSet X rSetL := by
  intro pins s σ H o i v ov iv u Q I ro ri rv h
  obtain ⟨p, xs, k, j, rfl, rfl, hp, hj, q⟩ := h
  cases ro
  obtain ⟨t, rfl⟩ := ri
  obtain ⟨its, n, r, ho, hz⟩ := I.lst hp
  obtain ⟨h1, h2, h3, h4⟩ := ixN_seq hj
  have hl := r.length
  have hn := line63
  have I' : Inv X pins σ (upd H p (.lst (xs.set j v))) { s with heap := s.heap.update p (Obj.mapSeq (·.setIfInBounds j u)) } :=
    I.lstUpd hp ho (mapSeq_set its n j u) (r.set rv j) (by rw [List.length_set]; exact hz) s.toks
  by_cases h0 : 0 ≤ k
  · have hk : k.toNat = j := by
      rw [seqIndex_of h0 h4] at h1
      exact Option.some.inj h1
    exact PySem.W.ki_setAt ho h0 (by omega) (by rw [List.size_toArray, ← hl]; exact h4) (by rw [hk]; exact ⟨_, I', q⟩)
  · have hk : (k + (its.toArray.size : Int)).toNat = j := by
      rw [seqIndex_neg (by omega) h3] at h1
      rw [List.size_toArray, ← hl]
      exact Option.some.inj h1
    exact PySem.W.ki_setBack ho (by omega) (by rw [List.size_toArray, ← hl]; exact h3) (by omega) (by rw [hk]; exact ⟨_, I', q⟩)

/-! ### slices -/
theorem slice_bounds (lo hi : Option Int) (n : Nat) : (sliceBounds lo hi none n).1 = ((HT.sIx n 0 lo : Nat) : Int) ∧ (sliceBounds lo hi none n).2.1 = ((HT.sIx n n hi : Nat) : Int) ∧ (sliceBounds lo hi none n).2.2 = 1 := by
  refine ⟨?_, ?_, rfl⟩
  · cases lo with
    | none => simp [sliceBounds, HT.sIx]
    | some i =>
      simp only [sliceBounds, HT.sIx, Option.getD_none, show (1 : Int) > 0 by decide, if_true]
      by_cases h : i < 0
      · simp only [h, if_true] <;> omega
      · simp only [h, if_false] <;> omega
  · cases hi with
    | none => simp [sliceBounds, HT.sIx]
    | some i =>
      simp only [sliceBounds, HT.sIx, Option.getD_none, show (1 : Int) > 0 by decide, if_true]
      by_cases h : i < 0
      · simp only [h, if_true] <;> omega
      · simp only [h, if_false] <;> omega
theorem slicePick_cut (its : List Value) (lo hi : Option Int) : slicePick its.toArray lo hi none = ((its.drop (HT.sIx its.length 0 lo)).take (HT.sIx its.length its.length hi - HT.sIx its.length 0 lo)).toArray := by
  obtain ⟨h1, h2, h3⟩ := slice_bounds lo hi its.toArray.size
  unfold slicePick
  rw [h1, h2, h3]
  simp only [sliceRange_one, pick_run, List.size_toArray] <;> rfl
/-- xs[lo:hi] of a list: a new list -/
def rSlL (K : PySem.W.Frag) : V → Option Int → Option Int → Hp → VK → Prop := fun x lo hi H Q => ∃ a xs, x = .ref a ∧ SqL K H a xs ∧ ∀ p, H p = none → Q (.ref p) (upd H p (.lst (cutV xs lo hi)))
theorem sl_list : SlR X (rSlL X.K) := by
  intro pins s σ H x v vl vu lo hi sl Q I rx hs pl pu h
  obtain ⟨a, xs, rfl, hx, q⟩ := h
  cases rx
  obtain ⟨its, r, ht, hz⟩ := I.list hx
  have hlen := r.length
  refine ⟨"list", _, slot_list_getitem.lookup, ht.isList.typeIs, ?_⟩
  refine wpAny_getItem_list_slice ht.isList hs pl pu .none (by simp) ?_ (by rw [List.size_toArray] <;> omega)
  rw [slicePick_cut, ← hlen]
  refine ⟨.ref s.heap.objs.size, _, I.laid (t' := s.toks) (o := .lst (cutV xs lo hi)) (fun b ob q => Heap.get?_push_of_some _ q) (Nat.le_refl _) ?_, rfl, q _ (I.hok.fresh (Nat.le_refl _))⟩
  exact ⟨Nat.le_trans (cutV_length xs lo hi) hz, _, 0, (r.drop (HT.sIx xs.length 0 lo)).take (HT.sIx xs.length xs.length hi - HT.sIx xs.length 0 lo), Heap.get?_push_size _ rfl⟩

/-! ### in, not in: flat items -/
def flatV : V → Bool
  | .non => true
  | .bl _ => true
  | .int _ => true
  | .str _ => true
  | _ => false
/-- == of flat values -/
def eqV : V → V → Bool
  | .non, .non => true
  | .bl a, .bl b => a == b
  | .bl a, .int b => (if a then 1 else 0) == b
  | .int a, .bl b => a == (if b then 1 else 0)
  | .int a, .int b => a == b
  | .str a, .str b => a == b
  | _, _ => false
theorem eqAt_V {A : Around} {s : Shared} {y x : V} {u v : Value} (ry : RelV y u) (rx : RelV x v) (fy : flatV y = true) (fx : flatV x = true) : SeqAt.EqAt A s u v (eqV y x) := by
  cases y with
  | non =>
    cases ry
    cases x with
    | non => cases rx; exact SeqAt.EqAt.same _
    | bl b => cases rx; exact SeqAt.EqAt.none_bool b
    | int b => obtain ⟨t, rfl⟩ := rx; exact SeqAt.EqAt.none_int b t
    | str b => obtain ⟨t, rfl⟩ := rx; exact SeqAt.EqAt.none_str b t
    | _ => exact absurd (show false = true from fx) Bool.false_ne_true
  | bl a =>
    cases ry
    cases x with
    | non => cases rx; exact SeqAt.EqAt.bool_none a
    | bl b => cases rx; exact SeqAt.EqAt.bool_bool a b
    | int b => obtain ⟨t, rfl⟩ := rx; exact SeqAt.EqAt.bool_int a b t
    | str b => obtain ⟨t, rfl⟩ := rx; exact SeqAt.EqAt.bool_str a b t
    | _ => exact absurd (show false = true from fx) Bool.false_ne_true
  | int a =>
    obtain ⟨t', rfl⟩ := ry
    cases x with
    | non => cases rx; exact SeqAt.EqAt.int_none a t'
    | bl b => cases rx; exact SeqAt.EqAt.int_bool a t' b
    | int b => obtain ⟨t, rfl⟩ := rx; exact SeqAt.EqAt.int_int a t' b t
    | str b => obtain ⟨t, rfl⟩ := rx; exact SeqAt.EqAt.int_str a t' b t
    | _ => exact absurd (show false = true from fx) Bool.false_ne_true
  | str a =>
    obtain ⟨t', rfl⟩ := ry
    cases x with
    | non => cases rx; exact SeqAt.EqAt.str_none a t'
    | bl b => cases rx; exact SeqAt.EqAt.str_bool a t' b
    | int b => obtain ⟨t, rfl⟩ := rx; exact SeqAt.EqAt.str_int a t' b t
    | str b => obtain ⟨t, rfl⟩ := rx; exact SeqAt.EqAt.str_str a t' b t
    | _ => exact absurd (show false = true from fx) Bool.false_ne_true
  | _ => exact absurd (show false = true from fy) Bool.false_ne_true
/-- the items' answers, read off the values (a value's own answer does not lean on its token) -/
def eqU (x : V) (u : Value) : Bool := match u with
  | .none => eqV .non x
  | .bool b => eqV (.bl b) x
  | .int i _ => eqV (.int i) x
  | .str z _ => eqV (.str z) x
  | _ => false
theorem eqU_of {x y : V} {u : Value} (r : RelV y u) (f : flatV y = true) : eqU x u = eqV y x := by
  cases y with
  | non => cases r; rfl
  | bl b => cases r; rfl
  | int i => obtain ⟨t, rfl⟩ := r; rfl
  | str z => obtain ⟨t, rfl⟩ := r; rfl
  | _ => exact absurd (show false = true from f) Bool.false_ne_true
theorem any_eqU {x : V} : ∀ {xs : List V} {us : List Value}, Vals xs us → xs.all flatV = true → us.any (eqU x) = xs.any fun y => eqV y x
  | _, _, .nil, _ => rfl
  | y :: xs, u :: us, .cons r t, f => by
    rw [List.all_cons, Bool.and_eq_true] at f
    rw [List.any_cons, List.any_cons, eqU_of r f.1, any_eqU t f.2]
theorem mem_eqAt {A : Around} {s : Shared} {x : V} {v : Value} (rx : RelV x v) (fx : flatV x = true) : ∀ {xs : List V} {us : List Value}, Vals xs us → xs.all flatV = true → ∀ u ∈ us, SeqAt.EqAt A s u v (eqU x u)
  | _, _, .nil, _ => fun u hu => by cases hu
  | y :: xs, u :: us, .cons r t, f => fun u' hu => by
    rw [List.all_cons, Bool.and_eq_true] at f
    rcases List.mem_cons.mp hu with rfl | hu
    · rw [eqU_of r f.1]; exact eqAt_V r rx f.1 fx
    · exact mem_eqAt rx fx t f.2 u' hu
def inV (x : V) (xs : List V) : Bool := xs.any fun y => eqV y x
/-- x in a list or tuple of flat items -/
def rIn (K : PySem.W.Frag) (neg : Bool) : R2 := fun x y H Q => ∃ p xs, y = .ref p ∧ (SqL K H p xs ∨ SqT K H p xs) ∧ flatV x = true ∧ xs.all flatV = true ∧ Q (.bl (if neg then !inV x xs else inV x xs)) H
theorem op_in_seq : OpR X (compareOp .In) (rIn X.K false) := by
  intro pins s σ H x y v u Q I rx ry h
  obtain ⟨p, xs, rfl, hq, fx, fs, q⟩ := h
  cases ry
  rcases hq with hq | hq
  · obtain ⟨its, r, pl, hz⟩ := I.list hq
    refine SeqAt.in_listAt (eqU x) pl.isList (fun w hw => mem_eqAt rx fx r fs w (by simpa using hw)) ⟨.bl _, H, I, rfl, ?_⟩
    rw [show its.toArray.any (eqU x) = its.any (eqU x) by simp, any_eqU r fs]
    exact q
  · obtain ⟨its, r, pl, hz⟩ := I.tuple hq
    refine SeqAt.in_tupleAt (eqU x) pl (fun w hw => mem_eqAt rx fx r fs w (by simpa using hw)) ⟨.bl _, H, I, rfl, ?_⟩
    rw [show its.toArray.any (eqU x) = its.any (eqU x) by simp, any_eqU r fs]
    exact q
/-! ### len, list(x), tuple(x) of any list or tuple that is read -/
theorem call_len_seq : CallR X (.builtin "len") (fun xs H Q => ∃ p ys, xs = [.ref p] ∧ (SqL X.K H p ys ∨ SqT X.K H p ys) ∧ Q (.int ys.length) H) := by
  intro pins s σ H xs us Q I r h
  obtain ⟨p, ys, rfl, hq, q⟩ := h
  obtain ⟨u, rfl, rx⟩ := vals1 r
  cases rx
  have hn := line63
  rcases hq with hq | hq
  · obtain ⟨its, r', pl, hz⟩ := I.list hq
    have hlen := r'.length
    exact Calls.call_len_list pl.isList (by simp only [List.size_toArray] <;> omega) ⟨.int ys.length, H, I.tok _, ⟨s.toks + 1, by rw [List.size_toArray, hlen]⟩, q⟩
  · obtain ⟨its, r', pl, hz⟩ := I.tuple hq
    have hlen := r'.length
    exact len_tuple pl (by simp only [List.size_toArray] <;> omega) ⟨.int ys.length, H, I.tok _, ⟨s.toks + 1, by rw [List.size_toArray, hlen]⟩, q⟩
theorem call_len_str : CallR X (.builtin "len") (fun xs H Q => ∃ z, xs = [.str z] ∧ z.length ≤ sizeLine ∧ Q (.int z.length) H) := by
  intro pins s σ H xs us Q I r h
  obtain ⟨z, rfl, hz, q⟩ := h
  obtain ⟨u, rfl, t, rfl⟩ := vals1 r
  have hn := line63
  exact len_str (by omega) ⟨.int z.length, H, I.tok _, ⟨_, rfl⟩, q⟩
theorem CallR.or {f : Value} {r r' : List V → Hp → VK → Prop} (h : CallR X f r) (h' : CallR X f r') : CallR X f (fun xs H Q => r xs H Q ∨ r' xs H Q) := by
  intro pins s σ H xs us Q I rs q
  rcases q with q | q
  · exact h pins s σ H xs us Q I rs q
  · exact h' pins s σ H xs us Q I rs q
theorem call_tuple_of : CallR X (.type "tuple") (fun xs H Q => ∃ p ys, xs = [.ref p] ∧ ((SqL X.K H p ys ∧ ∀ l, H l = none → Q (.ref l) (upd H l (.tup ys))) ∨ (SqT X.K H p ys ∧ Q (.ref p) H))) := by
  intro pins s σ H xs us Q I r h
  obtain ⟨p, ys, rfl, h⟩ := h
  obtain ⟨u, rfl, rx⟩ := vals1 r
  cases rx
  rcases h with ⟨hq, q⟩ | ⟨hq, q⟩
  · obtain ⟨its, r', pl, hz⟩ := I.list hq
    have hlen := r'.length
    refine call_tuple_list pl.isList (fun h' kp => ?_) (by simp only [List.size_toArray] <;> omega)
    have I1 : Inv X pins σ H { s with heap := h' } := I.kept (t' := s.toks) kp
    have I2 : Inv X pins σ (upd H h'.objs.size (.tup ys)) { s with heap := h'.push { cls := .type "tuple", data := .seq its.toArray } } :=
      I1.laid (t' := s.toks) (fun b o e => Heap.get?_push_of_some _ e) (Nat.le_refl _) (show ObjOk X.prog X.w _ _ _ (.tup ys) from ⟨hz, its, r', IsTup.new _ _⟩)
    exact ⟨.ref h'.objs.size, _, I2, rfl, q _ (I1.hok.fresh (Nat.le_refl _))⟩
  · obtain ⟨its, r', pl, hz⟩ := I.tuple hq
    exact call_tuple_same pl ⟨.ref p, H, I, rfl, q⟩

/-! ### the call of a builtin's method: o.m(..) -/
/-- the value is of that builtin type -/
def tyV (K : PySem.W.Frag) (T : String) (x : V) (H : Hp) : Prop := match x with
  | .str _ => T = "str"
  | .int _ => T = "int"
  | .ref p => (T = "list" ∧ ∃ xs, SqL K H p xs) ∨ (T = "tuple" ∧ ∃ o, K.lookup p = some o ∧ o.cls = .type "tuple" ∧ o.dict = none) ∨
      (T = "dict" ∧ ((∃ kvs, H p = some (.dK kvs)) ∨ ∃ kvs, H p = some (.dT kvs))) ∨ (T = "set" ∧ ∃ S n, H p = some (.set S n))
  | _ => False
theorem tyV_is {pins : List (Addr × Obj)} {σ : St} {H : Hp} {s : Shared} {T : String} {x : V} {v : Value} (I : Inv X pins σ H s) (r : RelV x v) (ty : tyV X.K T x H) :
    s.TypeIs v T ∧ ∀ a, v = .ref a → ∃ ob, s.heap.get? a = some ob ∧ ob.dict = none := by
  cases x with
  | str z =>
    obtain ⟨t, rfl⟩ := r
    cases (show T = "str" from ty)
    exact ⟨typeIs_str s z t, fun _ e => nomatch e⟩
  | int i =>
    obtain ⟨t, rfl⟩ := r
    cases (show T = "int" from ty)
    exact ⟨typeIs_int s i t, fun _ e => nomatch e⟩
  | ref p =>
    cases r
    rcases ty with ⟨rfl, xs, hq⟩ | ⟨rfl, o, hk, hc, hd⟩ | ⟨rfl, hk⟩ | ⟨rfl, S, n, hk⟩
    · obtain ⟨its, _, pl, _⟩ := I.list hq
      refine ⟨pl.isList.typeIs, fun a e => ?_⟩
      cases e
      obtain ⟨o, n, e, c, hd, _⟩ := pl
      exact ⟨o, e, hd⟩
    · refine ⟨⟨o, I.kIn p o hk, hc⟩, fun a e => ?_⟩
      cases e
      exact ⟨o, I.kIn _ o hk, hd⟩
    · have z : ∃ o, s.heap.get? p = some o ∧ o.ExactDict := by
        rcases hk with ⟨kvs, hk⟩ | ⟨kvs, hk⟩
        · obtain ⟨_, _, _, _, o, _, _, e, ex, _⟩ := I.hok p _ hk
          exact ⟨o, e, ex⟩
        · obtain ⟨_, _, _, _, o, _, _, e, ex, _⟩ := I.hok p _ hk
          exact ⟨o, e, ex⟩
      obtain ⟨o, e, ex⟩ := z
      refine ⟨⟨o, e, ex.1⟩, fun a e2 => ?_⟩
      cases e2
      exact ⟨o, e, ex.2.1⟩
    · obtain ⟨o, _, _, _, e, ex, _⟩ := I.hok p _ hk
      refine ⟨⟨o, e, ex.1⟩, fun a e2 => ?_⟩
      cases e2
      exact ⟨o, e, ex.2.1⟩
  | _ => exact False.elim ty
def tBM0 (K : PySem.W.Frag) (T : String) (r : V → List V → Hp → VK → Prop) (to : TE) : TE := fun σ H Q => to σ H fun x H1 => tyV K T x H1 ∧ r x [] H1 Q
def tBM (K : PySem.W.Frag) (T : String) (r : V → List V → Hp → VK → Prop) (to : TE) (t : TA) : TE := fun σ H Q => to σ H fun x H1 => tyV K T x H1 ∧ t σ H1 fun xs H2 => r x xs H2 Q
variable {o e : Expr} {es : List Expr} {to : TE} {t : TA} {name : Str} {apos cpos : Pos} {T id : String} {r : V → List V → Hp → VK → Prop}
theorem pe_bm0 (pa : PlainAttrs T) (slot : Slot T name id) (hty : typeOf (.builtin id) = pure (.type "method_descriptor")) (hm : MtR X id r) (ho : PE X o to)
    (hbase : attributeBase o name X.env (eval o X.env) = eval o X.env := by rfl) (hline : (apos.endLine == cpos.line) = true := by rfl) : PE X (.Call (.Attribute o name apos) [] [] cpos) (tBM0 X.K T r to) := by
  intro pins s σ H Q I h
  refine wpAny_Call_method0_late hbase hline (thn (ho pins s σ H _ I h) fun v s1 ⟨x, H1, I1, r1, ty, q1⟩ => ?_)
  obtain ⟨h1, h2⟩ := tyV_is I1 r1 ty
  exact ⟨T, id, pa, slot, hty, h1, h2, Calls.callWith_builtin rfl (PySem.evalArgs_none (hm pins s1 σ H1 x [] v [] Q I1 r1 .nil q1))⟩
theorem pe_bm (pa : PlainAttrs T) (slot : Slot T name id) (hty : typeOf (.builtin id) = pure (.type "method_descriptor")) (hm : MtR X id r) (ho : PE X o to) (ha : PA X (e :: es) t)
    (hbase : attributeBase o name X.env (eval o X.env) = eval o X.env := by rfl)
    (hfew : ((backTo cpos (starEach (e :: es) X.env)).all (fun x => !x.1) && (backToKw cpos (keywordEach [] X.env)).all (fun x => x.1.isSome)
      && decide ((e :: es).length + ([] : List Keyword).length + (if ([] : List Keyword).isEmpty then 0 else 1) < 30)) = true := by rfl)
    (hline : (apos.endLine == cpos.line) = true := by rfl) (hs : starEach (e :: es) X.env = (false, eval e X.env) :: starEach es X.env := by rfl) (hplain : (backTo cpos (starEach es X.env)).any (·.1) = false := by rfl) :
    PE X (.Call (.Attribute o name apos) (e :: es) [] cpos) (tBM X.K T r to t) := by
  intro pins s σ H Q I h
  refine wpAny_Call_method_late hbase hfew hline rfl (thn (ho pins s σ H _ I h) fun v s1 ⟨x, H1, I1, r1, ty, q1⟩ => ?_)
  obtain ⟨h1, h2⟩ := tyV_is I1 r1 ty
  refine ⟨T, id, pa, slot, hty, h1, h2, ?_⟩
  have hA := ha cpos pins s1 σ H1 _ I1 q1
  rw [hs] at hA ⊢
  refine Calls.callWith_builtin (by show (false || (backTo cpos (starEach es X.env)).any (·.1)) = false; rw [hplain] <;> rfl) (Calls.evalArgs_plain ?_)
  exact thn hA fun us s2 ⟨vs, H2, I2, r2, q2⟩ => hm pins s2 σ H2 x vs v us Q I2 r1 r2 q2
/- xs.append(e), list.index on a module's tuple .. are MtR facts of 06m -/
end
end L2

namespace L2
open PySem PySem.Spec PyProof.Rows

def MtM (X : Cx) (id : String) (r : V → List V → Hp → VK → Prop) : Prop :=
  ∀ (pins : List (Addr × Obj)) (s : Shared) (σ : St) (H : Hp) (x : V) (xs : List V) (v : Value) (us : List Value) (Q : VK), Inv X pins σ H s → RelV x v → Vals xs us → r x xs H Q →
    wpAny (model X.prog X.w) X.A (call (.builtin id) (v :: us)) (EP X pins σ Q) X.xe s

/-! ### lists of values -/
theorem Vals.one : ∀ {x : V} {us : List Value}, Vals [x] us → ∃ u, us = [u] ∧ RelV x u
  | _, _, .cons r .nil => ⟨_, rfl, r⟩
theorem Vals.two : ∀ {x y : V} {us : List Value}, Vals [x, y] us → ∃ u v, us = [u, v] ∧ RelV x u ∧ RelV y v
  | _, _, _, .cons r (.cons q .nil) => ⟨_, _, rfl, r, q⟩
theorem Vals.zero : ∀ {us : List Value}, Vals [] us → us = []
  | _, .nil => rfl
theorem Vals.dropLast {xs : List V} {us : List Value} (h : Vals xs us) : Vals xs.dropLast us.dropLast := by
  induction h with
  | nil => exact .nil
  | cons r t ih =>
    cases t with
    | nil => exact .nil
    | cons q t' => exact .cons r ih
theorem Vals.eraseIdx : ∀ {xs : List V} {us : List Value} (i : Nat), Vals xs us → Vals (xs.eraseIdx i) (us.eraseIdx i)
  | _, _, _, .nil => .nil
  | _, _, 0, .cons _ t => t
  | _, _, i + 1, .cons r t => .cons r (Vals.eraseIdx i t)
theorem Vals.reverse {xs : List V} {us : List Value} (h : Vals xs us) : Vals xs.reverse us.reverse := by
  induction h with
  | nil => exact .nil
  | cons r t ih => rw [List.reverse_cons, List.reverse_cons]; exact Vals.append ih (.cons r .nil)
theorem erase_last {α : Type} (l : List α) : l.eraseIdx (l.length - 1) = l.dropLast := by
  induction l with
  | nil => rfl
  | cons a r ih =>
    cases r with
    | nil => rfl
    | cons b r =>
      have e : (a :: b :: r).length - 1 = ((b :: r).length - 1) + 1 := by
        have h1 : (a :: b :: r).length = r.length + 2 := rfl
        have h2 : (b :: r).length = r.length + 1 := rfl
        omega
      rw [e, List.eraseIdx_cons_succ, ih]
      all_goals rfl
section
variable {X : Cx} {pins : List (Addr × Obj)} {σ : St} {H : Hp} {s : Shared} {l b : Addr} {xs ys zs : List V}

/-! ### the two steps: a tracked list is rewritten, a new list is laid -/
theorem Inv.lset {its its' : List Value} {n : Nat} {f : Array Value → Array Value} {t' : Nat} (I : Inv X pins σ H s) (hH : H l = some (.lst xs))
    (e : s.heap.get? l = some { cls := .type "list", data := .seq its.toArray n }) (hf : f its.toArray = its'.toArray) (hv : Vals ys its') (hz : ys.length ≤ sizeLine) :
    Inv X pins σ (upd H l (.lst ys)) { s with heap := s.heap.update l (Obj.mapSeq f), toks := t' } := by
  have q := PySem.IsL.update e f
  rw [hf] at q
  refine I.write (x := l) (e := l) (by rw [hH]; exact trivial) (.inl rfl) (fun b' u hb hu => (Heap.get?_update_other s.heap (Obj.mapSeq f) (Ne.symm hb)).trans hu) ⟨_, q⟩ ?_
  exact ⟨hz, its', _, hv, q⟩
theorem Inv.fresh (I : Inv X pins σ H s) : H s.heap.objs.size = none := I.hok.fresh (Nat.le_refl _)
theorem Inv.lstM (I : Inv X pins σ H s) (hH : H l = some (.lst xs)) : xs.length ≤ sizeLine ∧ ∃ (its : List Value) (n : Nat), Vals xs its ∧ xs.length = its.length ∧ s.heap.get? l = some { cls := .type "list", data := .seq its.toArray n } := by
  obtain ⟨z, its, n, r, e⟩ := I.hok l _ hH
  exact ⟨z, its, n, r, r.length, e⟩

end

section
variable {X : Cx}

/-! ### methods -/
def rAppend : V → List V → Hp → VK → Prop := fun x vs H Q => ∃ l xs y, x = .ref l ∧ vs = [y] ∧ H l = some (.lst xs) ∧ xs.length < sizeLine ∧ Q .non (upd H l (.lst (xs ++ [y])))
theorem mt_append : MtM X "list.append" rAppend := by
  intro pins s σ H x vs v us Q I rx rv h
  obtain ⟨l, xs, y, rfl, rfl, hH, hz, q⟩ := h
  cases rx
  obtain ⟨u, rfl, ru⟩ := rv.one
  obtain ⟨z, its, n, r, hl, e⟩ := I.lstM hH
  refine call_meets F.slot_list_append ⟨_, e, rfl⟩ F.entry_list_append (F.args_list_append_2 _ _) (PySem.list_append l its.toArray n u (by rw [List.size_toArray]; omega)) ⟨e, ?_⟩
  refine ⟨.non, _, I.lset (its' := its ++ [u]) hH e (by simp) (r.append (.cons ru .nil)) ?_, rfl, q⟩
  rw [List.length_append, List.length_singleton]
  omega

def rPop : V → List V → Hp → VK → Prop := fun x vs H Q => ∃ l xs y, x = .ref l ∧ vs = [] ∧ H l = some (.lst xs) ∧ xs[xs.length - 1]? = some y ∧ Q y (upd H l (.lst xs.dropLast))
theorem mt_pop : MtM X "list.pop" rPop := by
  intro pins s σ H x vs v us Q I rx rv h
  obtain ⟨l, xs, y, rfl, rfl, hH, hy, q⟩ := h
  cases rx
  have hus := rv.zero
  subst hus
  obtain ⟨z, its, n, r, hl, e⟩ := I.lstM hH
  obtain ⟨u, hu, ru⟩ := r.get hy
  have hy' : its.toArray[its.toArray.size - 1]? = some u := by
    show its.toArray[its.length - 1]? = some u
    rw [← Array.getElem?_toList, ← hl]
    exact hu
  refine call_meets F.slot_list_pop ⟨_, e, rfl⟩ F.entry_list_pop (F.args_list_pop_1 _) (MeetsSeq.list_pop_last l its.toArray n u hy' (by rw [List.size_toArray]; omega)) ⟨e, ?_⟩
  refine ⟨y, _, I.lset (its' := its.dropLast) hH e ?_ r.dropLast ?_, ru, q⟩
  · show its.toArray.eraseIdxIfInBounds (its.toArray.size - 1) = its.dropLast.toArray
    rw [List.size_toArray, List.eraseIdxIfInBounds_toArray, erase_last]
  · rw [List.length_dropLast]
    omega

/-! ### list + list, list += list, list * int -/
/-! ### del xs[i] -/
end

/-! ### xs[a:b] = ys -/
section
variable {prog : Program} {w : World} {A : Around} {E : Value → Shared → Prop} {s : Shared}
end

section
variable {X : Cx}
end
end L2

namespace Att
open PySem PySem.W PySem.Calls PyProof.Rows

/-! ### the script -/
theorem ints_of_wellAll {P : Params} {h : Heap} : ∀ (ns : List Int) (vs : List Value), WellAll P h vs (ns.map WData.int) → IntsAre vs ns := by
  intro ns
  induction ns with
  | nil =>
    intro vs w
    rw [List.map_nil] at w
    cases w
    exact .nil
  | cons n ns ih =>
    intro vs w
    rw [List.map_cons] at w
    cases w with
    | cons a b =>
      cases a
      exact .cons _ _ (ih _ b)

theorem script_of {l : OpenLaw} {n : Nat} (hn : l.most = some n) {P : Params} {h : Heap} {args : List WData} {vals : List Value}
    (hpre : l.row.toRowW.claim.pre args = true) (hwl : WellAll P h vals args) :
    ∃ a vs ns, vals = [Value.ref a] ∧ args = [WData.list (ns.map WData.int)] ∧ h.get? a = some { cls := .type "list", data := .seq vs.toArray } ∧ IntsAre vs ns ∧ ns.length ≤ n := by
  have hsh : WShape.hasAll [] args [.list .int] = true := (pre_splitW hpre).1
  have hc : l.pre.holds [] { args := args } = true := (pre_splitW hpre).2
  obtain ⟨d, r, rfl, h1, h2⟩ := hasAllW_cons hsh
  obtain rfl := hasAllW_nil h2
  obtain ⟨xs, rfl, h3⟩ := hasW_list h1
  obtain ⟨ns, rfl⟩ := items_int h3
  have hlen : ns.length ≤ n := by
    unfold OpenLaw.pre at hc
    have h4 : (WTm.not (.lt (.lit (.int (n : Int))) (.len (.arg 0)))).holds [] { args := [.list (ns.map .int)] } = true := by
      have h4 := (holds_andW hc).1
      rw [hn] at h4
      exact h4
    have h5 := condW_of h4 (w_not (w_lt w_lit (w_len_list (w_arg rfl))))
    rw [List.length_map] at h5
    refine Nat.le_of_not_lt fun q => ?_
    have q' : (n : Int) < ((ns.length : Nat) : Int) := by omega
    first
      | (rw [decide_eq_true q'] at h5; exact absurd h5 (by decide))
      | (simp at h5; omega)
  cases hwl with
  | cons w1 w2 =>
    cases w2
    cases w1 with
    | list ho hall => exact ⟨_, _, ns, rfl, rfl, ho, ints_of_wellAll ns _ hall, hlen⟩

theorem post_true (l : OpenLaw) (args : List WData) : l.row.toRowW.claim.post args (.bool true) args = true :=
  postW_of (r := l.row.toRowW) (X := (true == true))
    (show WShape.has [] (.bool true) .bool = true by first | rfl | decide | simp [WShape.has, WShape.arms, WShape.armsAll])
    (show (WTm.eq .res (.lit (.bool true))).value [] { args := args, res := some (.bool true), after := args } = some (.bool (true == true)) from w_eq_bool (w_res rfl) w_lit) rfl

/-! ### the attachment: holds_open's last premise (the goal 'hc' behind k_head) from a wpAny of the law's body -/
/-- the same from a codeAny of the CALL (for a layer whose function contracts speak of calls) -/
theorem attach_call {l : OpenLaw} {n : Nat} {q : Program} {loose : List Str} {XP : (Str → Option Value) → Heap → Prop} {YP : World → Heap → Prop} {d : DefRec}
    (hn : l.most = some n) (hdf : d.params.defaults = [])
    (call : ∀ (w : World) (s₀ s₁ : Shared) (mg mb : Str → Option Value) (fa : Addr) (o : Obj) (pm cd doc : Value) (a : Addr) (vs : List Value) (ns : List Int),
      Ground q loose [] XP w s₀ mg mb s₁.heap → YP w s₁.heap →
      s₁.heap.get? fa = some o → o.data = .func (docDef d.name d.params d.body d.scope pm cd doc) → s₁.heap.CodeRec cd d.name → mg d.name = some (.ref fa) →
      s₁.heap.get? a = some { cls := .type "list", data := .seq vs.toArray } → IntsAre vs ns → ns.length ≤ n → s₁.gens = #[] →
      codeAny (model l.prog w) callerA (.call (.ref fa) ⟨[.ref a], []⟩) (fun r s' => r = .ok (.ret (.bool true)) ∧ OldK s₁.heap s'.heap ∧ s'.os = s₁.os ∧ AllBare s'.gens) s₁) :
    WalkO q loose XP YP l.row.toRowW d [] (fun f vs => PySem.call f vs) := by
  intro w s₀ s₁ mg mb G Y fa o pm cd doc dV kV ho hd hcd hD hmg hg args vals as hpre hlay hrd hwl hlo
  obtain rfl : dV = .none := Dflts.none hD hdf
  obtain rfl : kV = .none := Dflts.noKw hD
  obtain ⟨a, vs, ns, rfl, rfl, hobj, hints, hlen⟩ := script_of hn hpre hwl
  refine enter_call (codeAny_mono (call w s₀ s₁ mg mb fa o pm cd doc a vs ns G Y ho (fd_plain hd) hcd hmg hobj hints hlen hg) fun r s' hq => ?_)
  obtain ⟨rfl, h2, h3, h4⟩ := hq
  exact ⟨.inl ⟨.bool true, .bool true, [], rfl, fun _ => rfl, .bool true, post_true l _, fun _ => ⟨List.Pairwise.nil, fun _ hm => (nomatch hm)⟩⟩, h2, h3, h4⟩

/-! ### rules over ANY heap (no ledger) from facts about the written part K: the library's own take a ledger (News) for what they write -/
section
variable {prog : Program} {w : World} {A : Around} {E : Value → Shared → Prop} {s : Shared} {K : Frag}

/-! the whole heap as the ledger: makes every rule that writes through a ledger a rule over any heap -/
def ledger (h : Heap) (L d : Addr) : List (Addr × Obj) := (List.range h.objs.size).filterMap fun a => if a = L ∨ a = d then none else (h.get? a).map fun o => (a, o)
end
end Att

namespace L2
open PySem PySem.Spec PyProof.Rows

theorem vals_ints : ∀ {vs : List Value} {ns : List Int}, IntsAre vs ns → Vals (ns.map V.int) vs
  | _, _, .nil => .nil
  | _, _, .cons n t h => .cons ⟨t, rfl⟩ (vals_ints h)

/-- nothing is tracked but the script, known to the object (or it is an object of the module) -/
def Only (H : Hp) : Prop := ∀ b, H b = none ∨ ∃ o xs, H b = some (.frz o (.lst xs))

/-- THE HEAD: the law's promise, at the heap behind the top. F, the promise of the law's def, may use that base is part of the heap (so K.In base, base.Ns mainGlobals mg stand in Mod) -/
theorem law_call {P : Program} {w : World} {K : PySem.W.Frag} {mg mb : Str → Option Value} {CX : CXT} {k : Nat} {fa a : Addr} {fd : FuncData} {x : Str} {sp : Sp} {s₁ : Shared} {vs : List Value} {ns : List Int}
    (KX : K.In s₁.heap) (hns : s₁.heap.Ns mainGlobals mg) (hb : s₁.heap.Ns builtinsNs mb) (hbb : ∀ x : Str, x ≠ "__name__" → mb x = bootBuiltins x) (hlim : s₁.heap.NoLimit) (hg : s₁.gens = #[])
    (ha : s₁.heap.get? a = some { cls := .type "list", data := .seq vs.toArray }) (hi : IntsAre vs ns) (hl : ns.length ≤ sizeLine) (hr : Room k callerA)
    (F : ∀ base : Heap, K.In base → base.Ns mainGlobals mg → FnOk P w K mg base CX k fa fd [x] sp) (hbind : ∀ (s : Shared) (u : Value), BindsTo s fd ⟨[u], []⟩ [(x, u)])
    (hsp : ∀ H : Hp, Only H → SqL K H a (ns.map V.int) → sp [.ref a] H (fun v _ => v = .bl true) fun _ _ _ => False)
    (hCX : ∀ H e s', CX [] H s₁ (fun _ _ _ => False) e s' → False) :
    codeAny (model P w) callerA (.call (.ref fa) ⟨[.ref a], []⟩) (fun r s' => r = .ok (.ret (.bool true)) ∧ OldK s₁.heap s'.heap ∧ s'.os = s₁.os ∧ AllBare s'.gens) s₁ := by
  have rv := vals_ints hi
  have lenV := hi.length
  -- from an abstract heap in which nothing but the script may be tracked
  have core : ∀ H : Hp, Only H → SqL K H a (ns.map V.int) → HOk P w H s₁.heap → (∀ b, H b ≠ none → b = a) → (H a ≠ none → K.lookup a = none) →
      codeAny (model P w) callerA (.call (.ref fa) ⟨[.ref a], []⟩) (fun r s' => r = .ok (.ret (.bool true)) ∧ OldK s₁.heap s'.heap ∧ s'.os = s₁.os ∧ AllBare s'.gens) s₁ := by
    intro H hO hS hok hA hK
    have base_of : ∀ {b : Addr} {o : Obj}, s₁.heap.get? b = some o → H b = none → (hidT s₁.heap H).get? b = some o := fun e n => hidT_get e n
    have noA : ∀ {b : Addr} {o : Obj} {es : Array DictEntry} {ep : Nat}, s₁.heap.get? b = some o → o.data = .dict es ep → H b = none := fun {b o es ep} e d => by
      cases q : H b with
      | none => rfl
      | some u =>
        have e' : b = a := hA b (by rw [q]; simp)
        subst e'
        rw [ha] at e; cases e
        have d' : Data.seq vs.toArray _ = Data.dict es ep := d
        cases d'
    have nsK : ∀ {b : Addr} {m : Str → Option Value}, s₁.heap.Ns b m → (hidT s₁.heap H).Ns b m := fun {b m} ⟨o, es, ep, e, d, r⟩ => ⟨o, es, ep, base_of e (noA e d), d, r⟩
    have hKb : K.In (hidT s₁.heap H) := fun b o e => base_of (KX b o e) (by
      cases q : H b with
      | none => rfl
      | some u =>
        have e' : b = a := hA b (by rw [q]; simp)
        subst e'
        rw [hK (by rw [q]; simp)] at e; cases e)
    have hM : Mod K mg (hidT s₁.heap H) := ⟨hKb, nsK hns, ⟨mb, nsK hb, hbb⟩, let ⟨mc, h1, h2⟩ := hlim; ⟨mc, nsK h1, h2⟩⟩
    have e0 : Env0 P w K mg (hidT s₁.heap H) callerA [] s₁ H := ⟨rfl, hM, fun b o e => of_hidT e, Nat.le_of_eq (hidT_size _ _), trivial, fun b hb => absurd (show b ∈ ([] : List Addr) from hb) (by simp), hok, .of_eq hg⟩
    refine codeAny_mono ((F _ hKb (nsK hns)).run callerA [] s₁ H ⟨[.ref a], []⟩ [.ref a] [.ref a] _ _ hr e0 (hbind s₁ (.ref a)) (.cons rfl .nil) (hsp H hO hS)) fun r s' h => ?_
    cases r with
    | error e => exact (hCX H e s' h).elim
    | ok fl =>
      cases fl with
      | next => exact False.elim h
      | brk => exact False.elim h
      | cont => exact False.elim h
      | ret u =>
        obtain ⟨v, H', os, bare, un, hok', r', q⟩ := h
        have q' : v = .bl true := q
        subst q'
        obtain rfl : u = Value.bool true := r'
        refine ⟨rfl, OldK.of_keep fun b o e => ?_, os, bare⟩
        cases q : H b with
        | none => exact un.keep b o e q (by intro z; exact absurd (show b ∈ ([] : List Addr) from z) (by simp)) (by simp)
        | some u =>
          rcases hO b with z | ⟨ob, xs, z⟩
          · rw [q] at z; cases z
          · have z2 := un.frzs b ob _ z
            obtain ⟨e1, _⟩ := hok b _ z
            obtain ⟨e2, _⟩ := hok' b _ z2
            rw [e] at e1; cases e1
            exact e2
  cases hk : K.lookup a with
  | some o =>
    -- the script is one of the module's own objects
    have e := KX a o hk
    rw [ha] at e
    cases e
    refine core (fun _ => none) (fun _ => .inl rfl) (.inr ⟨_, vs.toArray, _, hk, rfl, rfl, rfl, by rw [List.size_toArray, lenV]; exact hl, by simpa using rv⟩) (fun b u z => by have z' : (none : Option HO) = some u := z; cases z') (fun b z => absurd rfl z) fun z => absurd rfl z
  | none =>
    refine core (fun b => if b = a then some (.frz { cls := .type "list", data := .seq vs.toArray } (.lst (ns.map V.int))) else none) (fun b => ?_) (.inl (.inr ⟨{ cls := .type "list", data := .seq vs.toArray }, if_pos rfl⟩)) (fun b u z => ?_) (fun b z => ?_) fun _ => hk
    · by_cases hb : b = a
      · exact .inr ⟨_, _, if_pos hb⟩
      · exact .inl (if_neg hb)
    · by_cases hb : b = a
      · have z' := (if_pos hb).symm.trans z
        cases z'
        subst hb
        exact ⟨ha, by rw [List.length_map]; exact hl, vs, _, rv, ha⟩
      · have z' := (if_neg hb).symm.trans z
        cases z'
    · by_cases hb : b = a
      · exact hb
      · exact absurd (if_neg hb) z
end L2

namespace L2
open PySem PySem.Spec PyProof.Rows

abbrev KOf {K : PySem.W.Frag} {h : Heap} (_ : K.In h) : PySem.W.Frag := K

/-- the goal that k_head leaves (case hc), from the law's promise. F gives the function object fd (K's own) once, then the promise over every base -/
theorem walk_of {l : PySem.W.OpenLaw} {n k : Nat} {q : Program} {loose : List Str} {XP : (Str → Option Value) → Heap → Prop} {YP : World → Heap → Prop} {d : DefRec} {K : Params → PySem.W.Frag} {CX : World → CXT} {sp : World → Sp} {x : Str}
    (hn : l.most = some n) (hn2 : n ≤ sizeLine) (hdf : d.params.defaults = []) (hr : Room k callerA)
    (hY : ∀ (w : World) (h : Heap), YP w h → (K w.params).In h)
    (F : ∀ (w : World) (mg : Str → Option Value) (fa : Addr) (h : Heap), (K w.params).In h → h.Ns mainGlobals mg → mg d.name = some (.ref fa) →
      ∃ fd : FuncData, (∀ (s : Shared) (u : Value), BindsTo s fd ⟨[u], []⟩ [(x, u)]) ∧
        ∀ base : Heap, (K w.params).In base → base.Ns mainGlobals mg → FnOk l.prog w (K w.params) mg base (CX w) k fa fd [x] (sp w))
    (hsp : ∀ (w : World) (H : Hp) (a : Addr) (ns : List Int), ns.length ≤ n → Only H → SqL (K w.params) H a (ns.map V.int) → sp w [.ref a] H (fun v _ => v = .bl true) fun _ _ _ => False)
    (hCX : ∀ (w : World) (H : Hp) (s : Shared) (e : Value) (s' : Shared), CX w [] H s (fun _ _ _ => False) e s' → False) :
    PySem.W.WalkO q loose XP YP l.row.toRowW d [] (fun f vs => PySem.call f vs) := by
  refine Att.attach_call hn hdf fun w s₀ s₁ mg mb fa o pm cd doc a vs ns G Y ho hd hcd hmg hobj hints hlen hg => ?_
  have KX := hY w _ Y
  obtain ⟨fd, hb, hF⟩ := F w mg fa _ KX G.T.g hmg
  exact law_call KX G.T.g G.T.b G.T.builtins G.T.nolimit hg hobj hints (Nat.le_trans hlen hn2) hr hF hb (fun H hO hS => hsp w H a ns hlen hO hS) fun H e s' => hCX w H s₁ e s'
end L2

/- THE LAST THEOREM (shape; LID, My.* are yours):
   My.Adr: a structure of the addresses that your layer names (classes, functions); My.Txt K t: a structure (Prop) of the equations over K;
   My.txt_mk : {K} {implicit addresses ..} (e1 : nsIn K mainGlobals "law" = some (some (.ref f))) (e2 : K.lookup f = some ⟨oc, od, .func (fnOf "law" "law" params body scope dV kV doc pm an cdv ct), sl⟩) (e3 : codeIn K cdv "law" = true) .. : ∃ t, My.Txt K t

set_option maxRecDepth 100000 in
set_option maxHeartbeats 0 in
theorem PySem.Challenge.cw_LID_holds : PySem.Challenge.rw_LID.Holds := by
  w_on; o_law; k_head; (case hw => w_witness2)
  k_fill
  refine L2.walk_of (l := PySem.Challenge.rw_LID) (n := 63) (k := 40) (x := "script") (CX := fun w => ..) (sp := fun _ => My.sp_law) rfl (by decide) rfl ⟨rfl, by decide, by decide⟩ (fun w h Y => PySem.W.kIn_of Y) ?F ?S ?C
  case F =>
    intro w mg fa h KX G hmg
    have T : ∃ t, My.Txt (L2.KOf KX) t := by
      dsimp only [L2.KOf]                          -- K must stand as «<heap const> w.params» for k_is
      refine' My.txt_mk ?e1 ?e2 ?e3 ..
      (case e1 => PySem.W.k_is)                    -- in the order: a name -> its address -> its object -> its parts
      (case e2 => PySem.W.k_is)
      ..
    obtain ⟨t, T⟩ := T
    have e0 := hmg.symm.trans (PySem.W.mg_of KX G T.law)
    cases e0                                       -- fa is the law's own address
    exact ⟨_, fun s u => .of_eq rfl, fun base kb nb => My.law_fn T kb nb⟩     -- if «.of_eq rfl» comes too early: refine' ⟨_, ?b, fun base kb nb => My.law_fn T kb nb⟩; exact fun s u => .of_eq rfl
  case S => exact fun w H a ns hl hO hS => ..
  case C => exact ..
(the tactic k_is has no namespace: write k_is) -/

/-! SHORT WORDS over the layer: a def of the text, its body, what a loop and a test want. -/
namespace L2
open PySem PySem.Spec PyProof.Rows

/-! ### the text by places -/
def defArgs (s : Stmt) : Arguments := match s with
  | .FunctionDef _ a _ _ _ _ _ _ _ _ => a
  | _ => { posonlyargs := [], args := [], vararg := none, kwonlyargs := [], kw_defaults := [], kwarg := none, defaults := [] }
def defBody (s : Stmt) : List Stmt := match s with
  | .FunctionDef _ _ b _ _ _ _ _ _ _ => b
  | _ => []
def defScope (s : Stmt) : Scope := match s with
  | .FunctionDef _ _ _ _ _ _ sc _ _ _ => sc
  | _ => { kind := .function, names := [], isGenerator := false, isCoroutine := false }

/-! ### no exception leaves a def -/
abbrev CX0 : CXT := fun _ _ _ _ _ _ => False
abbrev E0 : XK := fun _ _ _ => False
theorem pass0 {X : Cx} : Passes CX0 X E0 := fun _ _ _ _ _ _ _ h => h.elim

/-! ### a def (or method) of the text as it stands behind the top -/
structure Fun (K : PySem.W.Frag) (x qual : Str) (st : Stmt) (f : Addr) (fd : FuncData) : Prop where
  ex : ∃ (oc : Value) (od : Option Addr) (kV doc pm : Value) (an : Option Addr) (cdv ct : Value) (osl : Array (Option Value)),
    fd = PySem.W.fnOf x qual (defArgs st) (defBody st) (defScope st) .none kV doc pm an cdv ct ∧ K.lookup f = some ⟨oc, od, .func fd, osl⟩ ∧ PySem.W.codeIn K cdv qual = true
  kp : PySem.W.keepIn K (.ref f) = true
section
variable {P : Program} {w : World} {K : PySem.W.Frag} {mg : Str → Option Value} {base : Heap}
/-- THE RULE for a def: its body as a term of rules, and the reading of that term -/
theorem Fun.ok {x qual : Str} {st : Stmt} {f : Addr} {fd : FuncData} {N ps : List Str} {k : Nat} {sp : Sp} (F : Fun K x qual st f fd) (S : FnScope N ps (defScope st)) (len : ∀ vs H Q E, sp vs H Q E → vs.length = ps.length)
    (hbody : ∀ (cdv : Value) (A : Around) (outer : List Env) (s : Shared) (H : Hp) (vs : List V) (Q : VK) (E : XK), Room k (A.deeper (envOfC qual (defScope st) s.heap.objs.size f cdv)) → sp vs H Q E →
      ∃ t, PSs (cxOf CX0 P w K mg base N qual (defScope st) f cdv A outer s H E).nox (defBody st) t ∧ t { nx := fun _ H' => Q .non H', rt := Q } (start N vs) H) : FnOk P w K mg base CX0 (k + 1) f fd ps sp := by
  obtain ⟨oc, od, kV, doc, pm, an, cdv, ct, osl, rfl, lk, hcd⟩ := F.ex
  refine fn_of lk hcd S len fun A outer s H vs Q E hr hsp => ?_
  obtain ⟨t, h, q⟩ := hbody cdv A outer s H vs Q E hr hsp
  exact ⟨t, h.nox, q⟩
/-- how its arguments bind (no defaults): h is «fun _ _ _ _ _ _ us hl => match us, hl with | [_, _], _ => rfl», one _ a parameter -/
theorem Fun.binds {x qual : Str} {st : Stmt} {f : Addr} {fd : FuncData} {ps : List Str} (F : Fun K x qual st f fd)
    (h : ∀ (kV doc pm : Value) (an : Option Addr) (cdv ct : Value) (us : List Value), us.length = ps.length → bindArgs (PySem.W.fnOf x qual (defArgs st) (defBody st) (defScope st) .none kV doc pm an cdv ct) ⟨us, []⟩ = pure (ps.zip us)) : Binds K fd ps [] := by
  obtain ⟨oc, od, kV, doc, pm, an, cdv, ct, osl, rfl, lk, hcd⟩ := F.ex
  exact .all (h kV doc pm an cdv ct)
theorem fun_mk {x qual : Str} {st : Stmt} {f : Addr} {oc : Value} {od an : Option Addr} {osl : Array (Option Value)} {kV doc pm cdv ct : Value} (l : K.lookup f = some ⟨oc, od, .func (PySem.W.fnOf x qual (defArgs st) (defBody st) (defScope st) .none kV doc pm an cdv ct), osl⟩)
    (c : PySem.W.codeIn K cdv qual = true) (k : PySem.W.keepIn K (.ref f) = true) : Fun K x qual st f (PySem.W.fnOf x qual (defArgs st) (defBody st) (defScope st) .none kV doc pm an cdv ct) := ⟨⟨oc, od, kV, doc, pm, an, cdv, ct, osl, rfl, l, c⟩, k⟩
end
theorem hu_of {A : Around} {k : Nat} (hr : Room k A) : A.units + 1 < cLine := Nat.lt_of_le_of_lt (Nat.add_le_add_left (by decide : 1 ≤ 64) _) hr.units
theorem small1000 {n : Nat} (h : n ≤ 1000) : n < sizeLine := Nat.lt_of_le_of_lt h (by decide)

/-! ### expressions in short: the name that stands in the i-th slot -/
section
variable {X : Cx}
theorem pv (i : Nat) {x : Str} {pos : Pos} (hN : X.N[i]? = some x := by rfl) (hv : Vis X.env.scope x := by first | exact Or.inl rfl | exact Or.inr (Or.inl rfl) | exact Or.inr (Or.inr rfl)) (hd : (x == ("__debug__" : Str)) = false := by decide)
    (hcd : (x == ("__classdict__" : Str)) = false := by decide) : PE X (.Name x pos) (tVar i) := pe_var hN hv hd hcd
end

/-! ### tests -/
theorem iteF {A B : Prop} (h : B) : if false = true then A else B := by
  rw [if_neg Bool.false_ne_true]
  exact h
theorem iteT {A B : Prop} (h : A) : if true = true then A else B := by
  rw [if_pos rfl]
  exact h
theorem ite2 {c A B : Prop} [Decidable c] (h1 : c → A) (h2 : ¬ c → B) : if c then A else B := by
  by_cases h : c
  · rw [if_pos h]
    exact h1 h
  · rw [if_neg h]
    exact h2 h
/-! ### heaps -/
/-- all that was tracked is as it was -/
def Same (H H' : Hp) : Prop := ∀ b o, H b = some o → H' b = some o
theorem Same.refl (H : Hp) : Same H H := fun _ _ h => h
theorem Same.trans {H H1 H2 : Hp} (a : Same H H1) (b : Same H1 H2) : Same H H2 := fun c o h => b c o (a c o h)
theorem Same.free {H H' : Hp} (e : Same H H') {l : Addr} (h : H' l = Option.none) : H l = Option.none := by
  cases q : H l with
  | none => rfl
  | some o =>
    rw [e l o q] at h
    cases h
theorem Same.seq {K : PySem.W.Frag} {H H' : Hp} {a : Addr} {xs : List V} (e : Same H H') (h : SqL K H a xs) : SqL K H' a xs := by
  rcases h with (h | ⟨o, h⟩) | h
  · exact .inl (.inl (e _ _ h))
  · exact .inl (.inr ⟨o, e _ _ h⟩)
  · exact .inr h

end L2
namespace L2
open PySem PySem.Spec PyProof.Rows

def clOf (env : Env) : List (Str × NameKind) → List (Str × Addr) → List (Str × Addr)
  | [], acc => acc
  | (n, k) :: r, acc => clOf env r (if k == .free then (match env.cells.lookup n with | some a => (n, a) :: acc | none => acc) else acc)
theorem closureFor_loop {env : Env} : ∀ (names : List (Str × NameKind)) (acc : List (Str × Addr)), (∀ y ∈ names, y.2 = .free → ∃ c, env.cells.lookup y.1 = some c) →
    (forIn names acc fun (x : Str × NameKind) (cs : List (Str × Addr)) => (if (x.2 == NameKind.free) = true then do let a ← cellOf env x.1; pure (ForInStep.yield ((x.1, a) :: cs)) else pure (ForInStep.yield cs) : Sem (ForInStep (List (Str × Addr))))) = pure (clOf env names acc)
  | [], acc, _ => rfl
  | (n, k) :: r, acc, h => by
    rw [List.forIn_cons]
    have hr : ∀ y ∈ r, y.2 = .free → ∃ c, env.cells.lookup y.1 = some c := fun y hy => h y (List.mem_cons_of_mem _ hy)
    cases hk : (k == NameKind.free) with
    | false =>
      have e1 : clOf env ((n, k) :: r) acc = clOf env r acc := by
        show clOf env r (if (k == NameKind.free) = true then (match env.cells.lookup n with | some a => (n, a) :: acc | none => acc) else acc) = _
        rw [hk, if_neg Bool.false_ne_true]
      rw [e1, ← closureFor_loop r acc hr]
      simp only [hk, Bool.false_eq_true, if_false, pure_bind]
    | true =>
      obtain ⟨c, hc⟩ := h (n, k) List.mem_cons_self (by simpa using hk)
      have e1 : clOf env ((n, k) :: r) acc = clOf env r ((n, c) :: acc) := by
        have hc' : env.cells.lookup n = some c := hc
        show clOf env r (if (k == NameKind.free) = true then (match env.cells.lookup n with | some a => (n, a) :: acc | none => acc) else acc) = _
        rw [hk, hc', if_pos rfl]
      have e2 : cellOf env n = pure c := by
        have hc' : env.cells.lookup n = some c := hc
        unfold cellOf
        rw [hc']
      rw [e1, ← closureFor_loop r ((n, c) :: acc) hr]
      simp only [hk, if_true, e2, pure_bind]
theorem closureFor_cl {scope : Scope} {env : Env} (h : ∀ y ∈ scope.names, y.2 = .free → ∃ c, env.cells.lookup y.1 = some c) : closureFor scope env = pure (clOf env scope.names []) := by
  have e := closureFor_loop scope.names [] h
  simp only [closureFor]
  rw [e]
  rfl
theorem clOf_from {env : Env} {x : Str} {c : Addr} : ∀ (names : List (Str × NameKind)) (acc : List (Str × Addr)), (∀ y d, acc.lookup y = some d → env.cells.lookup y = some d) → (clOf env names acc).lookup x = some c → env.cells.lookup x = some c
  | [], acc, ha, h => ha x c h
  | (n, k) :: r, acc, ha, h => by
    refine clOf_from r _ (fun y d q => ?_) h
    by_cases hk : (k == NameKind.free) = true
    · rw [if_pos hk] at q
      cases e : env.cells.lookup n with
      | none => rw [e] at q; exact ha y d q
      | some a =>
        rw [e] at q
        have q' : List.lookup y ((n, a) :: acc) = some d := q
        rw [List.lookup_cons] at q'
        cases hy : (y == n) with
        | true =>
          rw [hy] at q'
          have : y = n := by simpa using hy
          subst this
          rw [e]; exact q'
        | false => rw [hy] at q'; exact ha y d q'
    · rw [if_neg hk] at q; exact ha y d q
theorem clOf_acc {env : Env} {x : Str} : ∀ (names : List (Str × NameKind)) (acc : List (Str × Addr)), (∃ c, acc.lookup x = some c) → ∃ c, (clOf env names acc).lookup x = some c
  | [], acc, h => h
  | (n, k) :: r, acc, ⟨c, hc⟩ => by
    refine clOf_acc r _ ?_
    by_cases hk : (k == NameKind.free) = true
    · rw [if_pos hk]
      cases e : env.cells.lookup n with
      | none => exact ⟨c, hc⟩
      | some a =>
        show ∃ c, List.lookup x ((n, a) :: acc) = some c
        rw [List.lookup_cons]
        cases hy : (x == n) with
        | true => exact ⟨a, rfl⟩
        | false => exact ⟨c, hc⟩
    · rw [if_neg hk]; exact ⟨c, hc⟩
theorem clOf_has {env : Env} {x : Str} : ∀ (names : List (Str × NameKind)) (acc : List (Str × Addr)), (∀ y ∈ names, y.2 = .free → ∃ c, env.cells.lookup y.1 = some c) → names.lookup x = some .free → ∃ c, (clOf env names acc).lookup x = some c
  | [], acc, _, h => by simp at h
  | (n, k) :: r, acc, hf, h => by
    have hr : ∀ y ∈ r, y.2 = .free → ∃ c, env.cells.lookup y.1 = some c := fun y hy => hf y (List.mem_cons_of_mem _ hy)
    rw [List.lookup_cons] at h
    cases hy : (x == n) with
    | true =>
      rw [hy] at h
      have hk : k = .free := Option.some.inj h
      subst hk
      have hx : x = n := by simpa using hy
      subst hx
      obtain ⟨c, hc⟩ := hf (x, .free) List.mem_cons_self rfl
      have hc' : env.cells.lookup x = some c := hc
      refine clOf_acc r _ ⟨c, ?_⟩
      rw [if_pos (show (NameKind.free == NameKind.free) = true by decide), hc']
      show List.lookup x ((x, c) :: acc) = some c
      rw [List.lookup_cons]
      simp
    | false =>
      rw [hy] at h
      exact clOf_has r _ hr h

theorem relabel_free {env : Env} : ∀ {names : List (Str × NameKind)} {x : Str}, names.lookup x = some .free →
    ((names.map fun (n, k) => if (k == NameKind.free && env.scope.kind == .function && env.kindOf n == some .cell) then (n, NameKind.cell) else (n, k)).lookup x = some .cell ∨
     (names.map fun (n, k) => if (k == NameKind.free && env.scope.kind == .function && env.kindOf n == some .cell) then (n, NameKind.cell) else (n, k)).lookup x = some .free)
  | [], _, h => by simp at h
  | (n, k) :: r, x, h => by
    have ih := @relabel_free env r x
    show (List.lookup x ((if (k == NameKind.free && env.scope.kind == .function && env.kindOf n == some .cell) = true then (n, NameKind.cell) else (n, k)) :: _) = _ ∨ List.lookup x ((if (k == NameKind.free && env.scope.kind == .function && env.kindOf n == some .cell) = true then (n, NameKind.cell) else (n, k)) :: _) = _)
    cases hx : x == n with
    | true =>
      simp only [List.lookup_cons, hx] at h
      cases h
      by_cases hc : ((NameKind.free == NameKind.free) && env.scope.kind == .function && env.kindOf n == some .cell) = true
      · rw [if_pos hc]; simp [List.lookup_cons, hx]
      · rw [if_neg hc]; simp [List.lookup_cons, hx]
    | false =>
      simp only [List.lookup_cons, hx] at h
      by_cases hc : (k == NameKind.free && env.scope.kind == .function && env.kindOf n == some .cell) = true
      · rw [if_pos hc]; simp only [List.lookup_cons, hx]; exact ih h
      · rw [if_neg hc]; simp only [List.lookup_cons, hx]; exact ih h
theorem relabel_back {env : Env} : ∀ {names : List (Str × NameKind)} {x : Str}, (∀ y ∈ names, y.2 ≠ .cell) →
    ((names.map fun (n, k) => if (k == NameKind.free && env.scope.kind == .function && env.kindOf n == some .cell) then (n, NameKind.cell) else (n, k)).lookup x = some .cell ∨
     (names.map fun (n, k) => if (k == NameKind.free && env.scope.kind == .function && env.kindOf n == some .cell) then (n, NameKind.cell) else (n, k)).lookup x = some .free) → names.lookup x = some .free
  | [], _, _, h => by simp at h
  | (n, k) :: r, x, hn, h => by
    have ih := @relabel_back env r x (fun y hy => hn y (List.mem_cons_of_mem _ hy))
    have hk := hn (n, k) List.mem_cons_self
    have h' : (List.lookup x ((if (k == NameKind.free && env.scope.kind == .function && env.kindOf n == some .cell) = true then (n, NameKind.cell) else (n, k)) :: (r.map fun (n, k) => if (k == NameKind.free && env.scope.kind == .function && env.kindOf n == some .cell) then (n, NameKind.cell) else (n, k))) = some .cell ∨ List.lookup x ((if (k == NameKind.free && env.scope.kind == .function && env.kindOf n == some .cell) = true then (n, NameKind.cell) else (n, k)) :: (r.map fun (n, k) => if (k == NameKind.free && env.scope.kind == .function && env.kindOf n == some .cell) then (n, NameKind.cell) else (n, k))) = some .free) := h
    cases hx : x == n with
    | true =>
      rw [List.lookup_cons, hx]
      by_cases hc : (k == NameKind.free && env.scope.kind == .function && env.kindOf n == some .cell) = true
      · have : (k == NameKind.free) = true := by
          rw [Bool.and_eq_true, Bool.and_eq_true] at hc; exact hc.1.1
        have hk' : k = .free := by simpa using this
        rw [hk']
      · rw [if_neg hc] at h'
        simp only [List.lookup_cons, hx] at h'
        rcases h' with h' | h'
        · exact absurd (Option.some.inj h') hk
        · exact h'
    | false =>
      rw [List.lookup_cons, hx]
      by_cases hc : (k == NameKind.free && env.scope.kind == .function && env.kindOf n == some .cell) = true
      · rw [if_pos hc] at h'; simp only [List.lookup_cons, hx] at h'; exact ih h'
      · rw [if_neg hc] at h'; simp only [List.lookup_cons, hx] at h'; exact ih h'

/-! ### the loop of a comprehension, any target -/
abbrev noE : Value → Shared → Prop := fun _ _ => False
theorem compLoop_gen {prog : Program} {w : World} {A : Around} {R : Result → Shared → Prop} {s : Shared} {elt target iter : Expr} {ifs : List Expr} {scope : Scope} {pos : Pos} {it acc : Value} {env : Env} (I : Nat → Shared → Prop)
    (turn : ∀ n s, I n s → wpAny (model prog w) A (pyNext it) (fun r s₁ => match r with
      | none => R (.ok .next) s₁
      | some v => wpAny (model prog w) A (letOwnedTupleGo target it v) (fun _ s₁' => wpAny (model prog w) A (assign target env v) (fun _ s₂ =>
          wpAny (model prog w) A (forIn ifs true fun c r => if r = true then do let ok ← isTrue c env (eval c env); pure (ForInStep.yield ok) else pure (ForInStep.yield r)) (fun ok s₃ =>
            if ok = true then wpAny (model prog w) A (eval elt env) (fun x s₄ =>
              wpAny (model prog w) A (call (.builtin "list.append") [acc, x]) (fun _ s₅ => ∃ m, m < n ∧ I m s₅) noE s₄) noE s₃
            else ∃ m, m < n ∧ I m s₃) noE s₂) noE s₁') noE s₁) noE s)
    (n : Nat) (h : I n s) : codeAny (model prog w) A (.compLoop (.ListComp elt [⟨target, iter, ifs, 0⟩] scope pos) 0 it acc env) R s := by
  refine codeAny_loop rfl I (fun n s hI => ?_) n h
  show wpAny _ A ((compTurn (.ListComp elt [⟨target, iter, ifs, 0⟩] scope pos) 0 it acc env).onRaise (fun x => do noteFrame x env; theTreesLotGoes x)) _ _ s
  refine wpAny_noted ?_
  rw [compTurn_list]
  have no : ∀ {F : Value → Shared → Prop} (e : Value) (s' : Shared), noE e s' → F e s' := fun _ _ h => h.elim
  refine wpAny_bind (wpAny_standAt (wpAny_bind (wpAny_mono (turn n s hI) (fun r s₁ h₁ => ?_) no)))
  cases r with
  | none => exact wpAny_pure h₁
  | some v =>
    refine wpAny_bind (wpAny_mono h₁ (fun _ s₁' h₁' => ?_) no)
    refine wpAny_bind (wpAny_mono h₁' (fun _ s₂ h₂ => wpAny_bind (wpAny_mono h₂ (fun ok s₃ h₃ => ?_) no)) no)
    cases ok with
    | false => exact wpAny_pure ⟨rfl, h₃⟩
    | true =>
      exact wpAny_bind (wpAny_bind (wpAny_mono h₃ (fun x s₄ h₄ => wpAny_bind (wpAny_mono h₄ (fun _ s₅ h₅ => wpAny_pure (wpAny_pure ⟨rfl, h₅⟩)) no)) no))

/-! ### the context of a comprehension's block -/
/-- C: its own names' dict; Nc: its names (targets first, then those of the def around); s, H: ahead of it; fp: the iterator's records -/
def cxComp (X : Cx) (scope : Scope) (C : Addr) (Nc : List Str) (s : Shared) (H : Hp) (fp : List Addr) : Cx where
  prog := X.prog
  w := X.w
  K := X.K
  mg := X.mg
  base := X.base
  A := X.A
  N := Nc
  s₀ := s
  H₀ := H
  env := compEnvC scope (clOf X.env scope.names []) C X.env
  outer := X.stack
  stack := X.stack
  ex := fp
  fn := fun _ => false
  calm := X.calm
  pn := []
  xe := noE
/-- where the block's names stand in the def around: none for its own -/
def IxOk (X : Cx) (scope : Scope) : List Str → List (Option Nat) → Prop
  | [], [] => True
  | _ :: ys, none :: os => IxOk X scope ys os
  | y :: ys, some j :: os => (X.N[j]? = some y ∧ scope.names.lookup y = some .free ∧ (X.env.kindOf y = some .cell ∨ X.env.kindOf y = some .free)) ∧ IxOk X scope ys os
  | _, _ => False
def subSt (σ : St) (ix : List (Option Nat)) : St := ix.map fun o => match o with | none => none | some j => (σ[j]?).getD none
def Wk : St → St → Prop
  | [], [] => True
  | none :: a, _ :: b => Wk a b
  | some v :: a, w :: b => w = some v ∧ Wk a b
  | _, _ => False
theorem Wk.len : ∀ {a b : St}, Wk a b → a.length = b.length
  | [], [], _ => rfl
  | none :: a, _ :: b, h => congrArg (· + 1) (Wk.len (a := a) (b := b) h)
  | some _ :: a, _ :: b, h => congrArg (· + 1) (Wk.len (a := a) (b := b) h.2)
theorem Wk.get : ∀ {a b : St} {i : Nat} {v : V}, Wk a b → a[i]? = some (some v) → b[i]? = some (some v)
  | [], [], i, v, _, h => by simp at h
  | none :: a, x :: b, 0, v, _, h => by simp at h
  | none :: a, x :: b, i + 1, v, k, h => by
    have := Wk.get (a := a) (b := b) (i := i) (v := v) k (by simpa using h)
    simpa using this
  | some y :: a, x :: b, 0, v, k, h => by
    have e : y = v := by simpa using h
    subst e
    simp [k.1]
  | some y :: a, x :: b, i + 1, v, k, h => by
    have := Wk.get (a := a) (b := b) (i := i) (v := v) k.2 (by simpa using h)
    simpa using this
theorem IxOk.len {X : Cx} {scope : Scope} : ∀ {N : List Str} {ix : List (Option Nat)}, IxOk X scope N ix → ix.length = N.length
  | [], [], _ => rfl
  | _ :: ys, none :: os, h => congrArg (· + 1) (IxOk.len (N := ys) (ix := os) h)
  | _ :: ys, some _ :: os, h => congrArg (· + 1) (IxOk.len (N := ys) (ix := os) h.2)
theorem IxOk.get {X : Cx} {scope : Scope} : ∀ {N : List Str} {ix : List (Option Nat)} {i j : Nat}, IxOk X scope N ix → ix[i]? = some (some j) → ∃ y, N[i]? = some y ∧ X.N[j]? = some y ∧ scope.names.lookup y = some .free ∧ (X.env.kindOf y = some .cell ∨ X.env.kindOf y = some .free)
  | [], [], i, j, _, h => by simp at h
  | y :: ys, none :: os, 0, j, _, h => by simp at h
  | y :: ys, none :: os, i + 1, j, k, h => by
    obtain ⟨z, h1, h2⟩ := IxOk.get (N := ys) (ix := os) (i := i) (j := j) k (by simpa using h)
    exact ⟨z, by simpa using h1, h2⟩
  | y :: ys, some j' :: os, 0, j, k, h => by
    have e : j' = j := by simpa using h
    subst e
    exact ⟨y, by simp, k.1⟩
  | y :: ys, some j' :: os, i + 1, j, k, h => by
    obtain ⟨z, h1, h2⟩ := IxOk.get (N := ys) (ix := os) (i := i) (j := j) k.2 (by simpa using h)
    exact ⟨z, by simpa using h1, h2⟩
theorem subSt_get {σ : St} {ix : List (Option Nat)} {i : Nat} {v : V} (h : (subSt σ ix)[i]? = some (some v)) : ∃ j, ix[i]? = some (some j) ∧ σ[j]? = some (some v) := by
  unfold subSt at h
  rw [List.getElem?_map] at h
  cases e : ix[i]? with
  | none => rw [e] at h; cases h
  | some o =>
    rw [e] at h
    cases o with
    | none => cases h
    | some j =>
      refine ⟨j, rfl, ?_⟩
      have h' : some ((σ[j]?).getD none) = some (some v) := h
      cases q : σ[j]? with
      | none => rw [q] at h'; cases h'
      | some z => rw [q] at h'; cases h'; rfl
end L2
namespace L2
open PySem PySem.Spec PyProof.Rows

theorem comp_start {X : Cx} {pins : List (Addr × Obj)} {σ : St} {H : Hp} {s : Shared} (I : Inv X pins σ H s) {scope : Scope} {Nc : List Str} {ix : List (Option Nat)} (hix : IxOk X scope Nc ix) (hcell : ∀ y ∈ scope.names, y.2 ≠ .cell)
    (hkind : scope.kind = .function) (hfr : ∀ y ∈ scope.names, y.2 = .free → X.env.kindOf y.1 = some .cell ∨ X.env.kindOf y.1 = some .free) {fp : List Addr} (hf : ∀ b ∈ fp, FpOk X pins H b) (hfo : ∀ b ∈ fp, ∃ o, s.heap.get? b = some o)
    {C : Addr} {h' : Heap} {t' : Nat} {m0 : Str → Option Value} (hC : s.heap.objs.size ≤ C) (hns : h'.Ns C m0) (k : ∀ b o, s.heap.get? b = some o → h'.get? b = some o) :
    Inv (cxComp X scope C Nc s H fp) [] (subSt σ ix) H { s with heap := h', toks := t' } := by
  have hfc : ∀ y ∈ scope.names, y.2 = .free → ∃ c, X.env.cells.lookup y.1 = some c := fun y hy e => I.ok.has y.1 (hfr y hy e)
  have from_ : ∀ {x : Str} {c : Addr}, (clOf X.env scope.names []).lookup x = some c → X.env.cells.lookup x = some c := fun {x c} e => clOf_from scope.names [] (fun y d q => by simp at q) e
  refine ⟨⟨I.ok.mod, hkind, I.ok.glob, I.ok.blt, hC, fun x y c h1 h2 => I.ok.inj x y c (from_ h1) (from_ h2), fun x hx => ?_, fun x c h => ?_, I.ok.hd, I.ok.frames, .inl rfl, fun b hb => ?_, I.bs, Nat.le_trans I.ok.bsz I.sz, fun b o e hb => ?_, fun b hb hs => ?_, I.stack, I.stkFree⟩,
    rfl, I.bare, Un.kept k, ⟨m0, hns, fun i x v h1 h2 h3 => ?_⟩, fun x c e => ?_, I.hok.fresh hC, fun x c e => I.freeC x c (from_ e), fun p hp => absurd (show p ∈ ([] : List (Addr × Obj)) from hp) (by simp), I.hok.kept k, ?_⟩
  · have hx' : scope.names.lookup x = some .free := relabel_back hcell hx
    exact clOf_has scope.names [] hfc hx'
  · exact absurd (show false = true from h) (by decide)
  · refine ⟨?_, fun x c e => (hf b hb).2.2.2.2.1 x c (from_ e)⟩
    obtain ⟨o, ho⟩ := hfo b hb
    exact Nat.ne_of_lt (Nat.lt_of_lt_of_le (Heap.lt_size ho) hC)
  · rcases (hf b hb).2.2.2.1 with z | z
    · exact I.ok.noex b o e z
    · exact absurd (Nat.lt_of_lt_of_le (Heap.lt_size e) (Nat.le_trans I.ok.bsz z)) (Nat.lt_irrefl _)
  · rcases List.mem_cons.mp (I.stkSub b hs) with z | z
    · exact (hf b hb).2.1 z
    · exact (hf b hb).2.2.1 z
  · obtain ⟨j, e1, e2⟩ := subSt_get h2
    obtain ⟨y, y1, y2, y3, y4⟩ := hix.get e1
    have h1' : Nc[i]? = some x := h1
    rw [y1] at h1'
    cases h1'
    obtain ⟨m, hn, hl⟩ := I.loc
    have hv : Vis X.env.scope x := by
      rcases y4 with z | z
      · exact .inr (.inl z)
      · exact .inr (.inr z)
    obtain ⟨u, r, l⟩ := hl j x v y2 e2 hv
    refine ⟨u, r, .inr ⟨relabel_free y3, ?_⟩⟩
    rcases l with ⟨l, _⟩ | ⟨_, c, hc, q⟩
    · rcases y4 with z | z
      · rw [z] at l; cases l
      · rw [z] at l; cases l
    · obtain ⟨c', hc'⟩ := clOf_has scope.names [] hfc y3
      have e := from_ hc'
      rw [hc] at e
      cases e
      obtain ⟨o, ho, hd⟩ := q
      exact ⟨c, hc', o, k _ _ ho, hd⟩
  · obtain ⟨v, o, ho, hd⟩ := I.cell x c (from_ e)
    exact ⟨v, o, k _ _ ho, hd⟩
  · show (subSt σ ix).length = Nc.length
    unfold subSt
    rw [List.length_map]
    exact hix.len

theorem comp_exit {X : Cx} {pins pins' : List (Addr × Obj)} {σ σ' : St} {H H' : Hp} {s s' : Shared} (I : Inv X pins σ H s) {scope : Scope} {Nc : List Str} {fp : List Addr} {C D : Addr} (J : Inv (cxComp X scope C Nc s H fp) pins' σ' H' s')
    (hf : ∀ b ∈ fp, FpOk X pins H b) (hD : s.heap.objs.size ≤ D) (hC : s.heap.objs.size ≤ C) (hDC : D ≠ C) {its : List Value} {n : Nat} {acc : List V} (eD : s'.heap.get? D = some { cls := .type "list", data := .seq its.toArray n }) (r : Vals acc its)
    (hz : acc.length ≤ sizeLine) (nD : H' D = none) {oC : Obj} (eC : s'.heap.get? C = some oC) (dC : ∀ v, oC.data ≠ .cell v) : Inv X (pins ++ [(C, oC)]) σ (upd H' D (.lst acc)) s' := by
  have lt : ∀ b o, s.heap.get? b = some o → b ≠ D := fun b o e => Nat.ne_of_lt (Nat.lt_of_lt_of_le (Heap.lt_size e) hD)
  have U : Un (frs X.stack) fp H H' s.heap s'.heap := J.base
  have U' : Un (frs X.stack) fp H (upd H' D (.lst acc)) s.heap s'.heap :=
    ⟨U.keep, U.slot, fun b o e n hx => by rw [upd_ne (lt b o e)]; exact U.free b o e n hx, U.there, fun b xs e => by rw [upd_ne (ne_of_none (U.tups b xs e) nD)]; exact U.tups b xs e,
      fun b o u e => by rw [upd_ne (ne_of_none (U.frzs b o u e) nD)]; exact U.frzs b o u e, fun b ps e => by
        obtain ⟨more, q⟩ := U.tbls b ps e
        exact ⟨more, by rw [upd_ne (ne_of_none q nD)]; exact q⟩⟩
  have hok : HOk X.prog X.w (upd H' D (.lst acc)) s'.heap := fun b u e => by
    by_cases hb : b = D
    · subst hb
      rw [upd_same] at e; cases e
      exact ⟨hz, its, n, r, eD⟩
    · rw [upd_ne hb] at e
      exact (J.hok b u e).stay (fun c v _ q => q) (fun c q => by rw [upd_ne (ne_of_none q nD)]; exact q) fun c xs q => by rw [upd_ne (ne_of_none q nD)]; exact q
  have I' : Inv X pins σ (upd H' D (.lst acc)) s' := I.call' (ch := fp) J.os U' hok J.bare fun b hb => by
    obtain ⟨_, h1, _, h2, h3, h4⟩ := hf b hb
    exact ⟨h2, h1, h3, h4⟩
  refine I'.pins_of fun p hp => ?_
  rcases List.mem_append.mp hp with z | z
  · exact I'.pin p (List.mem_append_right _ z)
  · have e : p = (C, oC) := List.mem_singleton.mp z
    subst e
    refine ⟨eC, ?_, Nat.ne_of_gt (Nat.lt_of_lt_of_le I.lt hC), I.nofs hC, dC⟩
    rw [upd_ne (Ne.symm hDC)]
    exact J.free

/-- the tests of a comprehension -/
def PF (Y : Cx) (ifs : List Expr) (tc : TT) : Prop :=
  ∀ (pins : List (Addr × Obj)) (s : Shared) (σ : St) (H : Hp) (Q : Bool → Hp → Prop), Inv Y pins σ H s → tc σ H Q →
    wpAny (model Y.prog Y.w) Y.A (forIn ifs true fun c r => if r = true then do let ok ← isTrue c Y.env (eval c Y.env); pure (ForInStep.yield ok) else pure (ForInStep.yield r)) (TP Y pins σ Q) Y.xe s
def tYes : TT := fun _ H Q => Q true H
theorem pf_nil {Y : Cx} : PF Y [] tYes := fun _ _ _ H _ I h => wpAny_tests_nil ⟨H, I, h⟩
theorem pf_one {Y : Cx} {c : Expr} {tc : TT} (h : PT Y c tc) : PF Y [c] tc := fun pins s σ H Q I hw => wpAny_tests_one (h pins s σ H Q I hw)

/-- what a comprehension wants: W the invariant by the turn, a measure, what is made so far -/
def CompW (J : It) (σc : St) (g : TG) (tc : TT) (te : TE) (Q : VK) (H1 : Hp) : Prop :=
  ∃ W : Nat → Nat → List V → Hp → Prop, (∃ m, W 0 m [] H1) ∧ ∀ i m acc H, W i m acc H → acc.length < sizeLine ∧
  ((J.stop i H ∧ ∀ D, H D = none → Q (.ref D) (upd H D (.lst acc))) ∨
   (J.go i H ∧ ∀ x H', J.yld i H x H' → g x σc H' fun σ2 H2 => Wk σc σ2 ∧ tc σ2 H2 fun b H3 => if b = true then te σ2 H3 fun v H4 => ∃ m', m' < m ∧ W (i + 1) m' (acc ++ [v]) H4 else ∃ m', m' < m ∧ W (i + 1) m' acc H3))
def tComp (wi : TI) (ix : List (Option Nat)) (g : TG) (tc : TT) (te : TE) : TE := fun σ H Q => wi σ H fun J H1 => CompW J (subSt σ ix) g tc te Q H1

theorem comp_core {X : Cx} {tg iter elt : Expr} {ifs : List Expr} {scope : Scope} {pos : Pos} {wi : TI} {g : TG} {tc : TT} {te : TE} {Nc : List Str} {ix : List (Option Nat)} (hi : PI X tg iter wi) (hcalm : X.calm = true) (hix : IxOk X scope Nc ix)
    (hcell : ∀ y ∈ scope.names, y.2 ≠ .cell) (hkind : scope.kind = .function) (hfr : ∀ y ∈ scope.names, y.2 = .free → X.env.kindOf y.1 = some .cell ∨ X.env.kindOf y.1 = some .free)
    (hG : ∀ C s H fp, PG (cxComp X scope C Nc s H fp) tg g) (hT : ∀ C s H fp, PF (cxComp X scope C Nc s H fp) ifs tc) (hE : ∀ C s H fp, PE (cxComp X scope C Nc s H fp) elt te)
    {pins : List (Addr × Obj)} {s : Shared} {σ : St} {H : Hp} {Q : VK} (I : Inv X pins σ H s) (h : tComp wi ix g tc te σ H Q) {RR : Value → Addr → Result → Shared → Prop}
    (hRR : ∀ (D C : Addr) (oC : Obj) (m : Str → Option Value) (H' : Hp) (s' : Shared), s'.heap.get? C = some oC → s'.heap.Ns C m → FpOk X pins H' C → Inv X (pins ++ [(C, oC)]) σ H' s' → Q (.ref D) H' → RR (.ref D) C (.ok .next) s') :
    wpAny (model X.prog X.w) X.A (eval iter X.env) (fun v s1 => wpAny (model X.prog X.w) X.A (pyIter v) (fun it s2 => wpAny (model X.prog X.w) X.A (newList []) (fun acc s3 =>
      wpAny (model X.prog X.w) X.A (newFunctionEnv scope X.env.globals (clOf X.env scope.names []) [] X.env.qual none .none (some X.env)) (fun cenv s4 =>
        codeAny (model X.prog X.w) X.A (.compStart (.ListComp elt [⟨tg, iter, ifs, 0⟩] scope pos) 0 it acc { cenv with scope := relabel scope X.env }) (RR acc cenv.locals) s4) X.xe s3) X.xe s2) X.xe s1) X.xe s := by
  refine thn (hi pins s σ H _ I h) fun v s1 h1 => thn h1 fun itv s2 h2 => ?_
  obtain ⟨it, fp, tn, J, H2, e, I2, T, st2, f2, W, ⟨m0, w0⟩, turn⟩ := h2
  subst e
  refine wpAny_newObj_type (wpAny_newFunctionEnv hcell (by intro y hy; simp at hy) (fun h₁ hns₁ hsb₁ => ?_) hkind)
  dsimp only at hns₁ hsb₁ ⊢
  generalize hH2 : s2.heap.push { cls := .type "list", dict := none, data := .seq ([] : List Value).toArray } = P2 at hns₁ hsb₁ ⊢
  have hC : P2.objs.size = s2.heap.objs.size + 1 := by rw [← hH2, Heap.size_push]
  have hDC : s2.heap.objs.size ≠ P2.objs.size := by rw [hC]; exact Nat.ne_of_lt (Nat.lt_succ_self _)
  have hCle : s2.heap.objs.size ≤ P2.objs.size := by rw [hC]; exact Nat.le_succ _
  have neC : ∀ b, b < s2.heap.objs.size → b ≠ P2.objs.size := fun b hb => by rw [hC]; exact Nat.ne_of_lt (Nat.lt_succ_of_lt hb)
  have old : ∀ b o, s2.heap.get? b = some o → h₁.get? b = some o := fun b o e => hsb₁.extBut b o (neC b (Heap.lt_size e)) (Heap.get?_push_of_some _ (hH2 ▸ Heap.get?_push_of_some _ e))
  have hacc : h₁.get? s2.heap.objs.size = some { cls := .type "list", data := .seq ([] : List Value).toArray } := hsb₁.extBut _ _ hDC (Heap.get?_push_of_some _ (hH2 ▸ Heap.get?_push_size _ rfl))
  have st₁ : tn 0 h₁ := T.keep 0 _ _ st2 fun b _ o e => old b o e
  have hfo : ∀ b ∈ fp, ∃ o, s2.heap.get? b = some o := fun b hb => let ⟨o, e, _⟩ := T.obj 0 _ st2 b hb; ⟨o, e⟩
  have fpD : ∀ b ∈ fp, s2.heap.objs.size ≠ b := fun b hb => let ⟨o, e⟩ := hfo b hb; Nat.ne_of_gt (Heap.lt_size e)
  have IY := comp_start I2 hix hcell hkind hfr f2 hfo (t' := s2.toks + ([] : List (Str × Value)).length) hCle hns₁ old
  have notS : ∀ b, s2.heap.objs.size ≤ b → b ∉ frs X.stack := fun b hb hs => by
    rcases List.mem_cons.mp (I2.stkSub b hs) with z | z
    · exact absurd (Nat.lt_of_lt_of_le I2.lt hb) (by rw [z]; exact Nat.lt_irrefl _)
    · exact I2.nofs hb z
  have from_ : ∀ {x : Str} {c : Addr}, (clOf X.env scope.names []).lookup x = some c → X.env.cells.lookup x = some c := fun {x c} e => clOf_from scope.names [] (fun y d q => by simp at q) e
  have cellD : ∀ x c, (clOf X.env scope.names []).lookup x = some c → c ≠ s2.heap.objs.size := fun x c e z => by
    obtain ⟨v, q⟩ := I2.cell x c (from_ e)
    exact absurd (q.lt) (by rw [z]; exact Nat.lt_irrefl _)
  have fY : ∀ {pl : List (Addr × Obj)} {H' : Hp}, (∀ p ∈ pl, p.1 = s2.heap.objs.size) → (∀ b ∈ fp, H' b = none) → ∀ b ∈ fp, FpOk (cxComp X scope P2.objs.size Nc s2 H2 fp) pl H' b := fun {pl H'} hpl hn b hb => by
    refine ⟨hn b hb, ?_, ?_, .inl hb, fun x c e => (f2 b hb).2.2.2.2.1 x c (from_ e), fun p hp => ?_⟩
    · obtain ⟨o, e⟩ := hfo b hb
      exact neC b (Heap.lt_size e)
    · intro hs
      rcases List.mem_cons.mp (I2.stkSub b hs) with z | z
      · exact (f2 b hb).2.1 z
      · exact (f2 b hb).2.2.1 z
    · rw [hpl p hp]
      exact fpD b hb
  have loop : ∀ s₃ : Shared, s₃ = { s2 with heap := h₁, toks := s2.toks + ([] : List (Str × Value)).length } →
      codeAny (model X.prog X.w) X.A (.compLoop (.ListComp elt [⟨tg, iter, ifs, 0⟩] scope pos) 0 (.ref it) (.ref s2.heap.objs.size) (compEnvC scope (clOf X.env scope.names []) P2.objs.size X.env)) (RR (.ref s2.heap.objs.size) P2.objs.size) s₃ := by
    rintro s₃ rfl
    refine compLoop_gen (fun n s' => ∃ i acc its nn H', Inv (cxComp X scope P2.objs.size Nc s2 H2 fp) [] (subSt σ ix) H' s' ∧ tn i s'.heap ∧ (∀ b ∈ fp, H' b = none) ∧
      s'.heap.get? s2.heap.objs.size = some { cls := .type "list", data := .seq (its : List Value).toArray nn } ∧ Vals acc its ∧ H' s2.heap.objs.size = none ∧ W i n acc H') ?_ m0
      ⟨0, [], [], 0, H2, IY, st₁, fun b hb => (f2 b hb).1, hacc, .nil, I2.hok.fresh (Nat.le_refl _), w0⟩
    rintro n s3 ⟨i, acc, its, nn, H3, I3, st3, fr3, eD, rv, nD, w3⟩
    obtain ⟨hz, alt⟩ := turn i n acc H3 w3
    have IP : Inv (cxComp X scope P2.objs.size Nc s2 H2 fp) [(s2.heap.objs.size, { cls := .type "list", data := .seq its.toArray nn })] (subSt σ ix) H3 s3 := I3.pins_of fun p hp => by
      have e : p = (s2.heap.objs.size, _) := List.mem_singleton.mp hp
      subst e
      refine ⟨eD, nD, hDC, notS _ (Nat.le_refl _), fun v z => ?_⟩
      have z' : Data.seq its.toArray nn = Data.cell v := z
      cases z'
    have hpl : ∀ p ∈ [(s2.heap.objs.size, ({ cls := .type "list", data := .seq its.toArray nn } : Obj))], p.1 = s2.heap.objs.size := fun p hp => by
      have e : p = (s2.heap.objs.size, _) := List.mem_singleton.mp hp
      rw [e]
    rcases alt with ⟨stop, fin⟩ | ⟨go, step⟩
    · refine thn (T.done (cxComp X scope P2.objs.size Nc s2 H2 fp) rfl rfl rfl hcalm i _ s3 _ H3 noE IP (fY hpl fr3) st3 stop) fun r s4 ⟨hr, I4⟩ => ?_
      subst hr
      obtain ⟨m, hn, _⟩ := id I4.loc
      obtain ⟨oC, es, ep, eC, dC, _⟩ := id hn
      have eD4 := (I4.pin (s2.heap.objs.size, _) (List.mem_append_right _ (List.mem_singleton.mpr rfl))).1
      have fin' := fin _ nD
      refine hRR _ _ oC m _ s4 eC hn ?_ (comp_exit I2 I4 f2 (Nat.le_refl _) hCle hDC eD4 rv (Nat.le_of_lt hz) nD eC fun v z => ?_) fin'
      · refine I2.fpOk hCle ?_
        rw [upd_ne (Ne.symm hDC)]
        exact I4.free
      · rw [dC] at z; cases z
    · refine thn (T.item (cxComp X scope P2.objs.size Nc s2 H2 fp) rfl rfl rfl hcalm i _ s3 _ H3 noE IP (fY hpl fr3) st3 go) fun r s4 ⟨u, hr, h4⟩ => ?_
      subst hr
      refine thn h4 fun _ s5 ⟨x, H5, I5, r5, y5, st5, fr5⟩ => ?_
      have I5' := I5.pinned (fY hpl fr5) (T.obj _ _ st5)
      refine thn (hG _ s2 H2 fp _ s5 _ H5 x u _ I5' r5 (step x H5 y5)) fun _ s6 ⟨σ6, H6, I6, wk, q6⟩ => ?_
      refine thn (hT _ s2 H2 fp _ s6 σ6 H6 _ I6 q6) fun b s7 ⟨H7, I7, q7⟩ => ?_
      have again : ∀ {H9 : Hp} {s9 : Shared} {m' : Nat}, Inv (cxComp X scope P2.objs.size Nc s2 H2 fp) ([(s2.heap.objs.size, ({ cls := .type "list", data := .seq its.toArray nn } : Obj))] ++ pinsAt fp s5.heap) σ6 H9 s9 →
          (s9.heap.get? s2.heap.objs.size = some { cls := .type "list", data := .seq its.toArray nn } ∧ H9 s2.heap.objs.size = none) ∧ tn (i + 1) s9.heap ∧ (∀ b ∈ fp, H9 b = none) ∧ Inv (cxComp X scope P2.objs.size Nc s2 H2 fp) [] (subSt σ ix) H9 s9 := fun {H9 s9 m'} I9 => by
        have pD := I9.pin (s2.heap.objs.size, _) (List.mem_append_right _ (List.mem_append_left _ (List.mem_singleton.mpr rfl)))
        refine ⟨⟨pD.1, pD.2.1⟩, T.keep _ _ _ st5 fun b hb o e => (I9.pin (b, o) (List.mem_append_right _ (List.mem_append_right _ (mem_pinsAt hb e)))).1, fun b hb => ?_, ?_⟩
        · obtain ⟨o, e, d⟩ := T.obj _ _ st5 b hb
          exact (I9.pin (b, o) (List.mem_append_right _ (List.mem_append_right _ (mem_pinsAt hb e)))).2.1
        · exact (I9.weak wk.len fun i v e => wk.get e).pins_of fun p hp => absurd hp (by simp)
      cases b with
      | false =>
        rw [if_neg Bool.false_ne_true] at q7 ⊢
        obtain ⟨m', hm, w7⟩ := q7
        obtain ⟨⟨e7, n7⟩, t7, f7, J7⟩ := again (m' := 0) I7
        exact ⟨m', hm, i + 1, acc, its, nn, H7, J7, t7, f7, e7, rv, n7, w7⟩
      | true =>
        rw [if_pos rfl] at q7 ⊢
        refine thn (hE _ s2 H2 fp _ s7 σ6 H7 _ I7 q7) fun y s8 ⟨v, H8, I8, r8, m', hm, w8⟩ => ?_
        obtain ⟨⟨e8, n8⟩, t8, f8, J8⟩ := again (m' := 0) I8
        refine wpAny_list_append_plain (items := its.toArray) ⟨nn, e8⟩ (fun h9 hl9 hs9 => ?_) (by rw [List.size_toArray, ← rv.length]; exact Nat.le_of_lt hz)
        obtain ⟨n9, e9⟩ := hl9
        refine ⟨m', hm, i + 1, acc ++ [v], its ++ [y], n9, H8, J8.turned (t' := s8.toks) (fun b o hb e => (hs9.2 b hb).trans e) n8 hDC (.inr (Nat.le_refl _)) cellD (fun p hp => absurd hp (by simp [cxComp])), ?_, f8, ?_, rv.append (.cons r8 .nil), n8, w8⟩
        · exact T.keep _ _ _ t8 fun b hb o e => (hs9.2 b (Ne.symm (fpD b hb))).trans e
        · simpa using e9
  exact codeAny_compStart_list (loop _ rfl) (T.self _ 0 _ _ _ st₁ (loop _ rfl))

/-- [elt for tg in iter if ..] -/
theorem pe_comp {X : Cx} {tg iter elt : Expr} {ifs : List Expr} {scope : Scope} {pos : Pos} {wi : TI} {g : TG} {tc : TT} {te : TE} (Nc : List Str) (ix : List (Option Nat)) (hi : PI X tg iter wi) (hcalm : X.calm = true) (hix : IxOk X scope Nc ix)
    (hcell : ∀ y ∈ scope.names, y.2 ≠ .cell) (hkind : scope.kind = .function) (hfr : ∀ y ∈ scope.names, y.2 = .free → X.env.kindOf y.1 = some .cell ∨ X.env.kindOf y.1 = some .free)
    (hnames : ∀ x ∈ scope.names, x.2 = .local → scope.names.lookup x.1 = some .local)
    (hG : ∀ C s H fp, PG (cxComp X scope C Nc s H fp) tg g) (hT : ∀ C s H fp, PF (cxComp X scope C Nc s H fp) ifs tc) (hE : ∀ C s H fp, PE (cxComp X scope C Nc s H fp) elt te)
    (hs : ∀ x, foldedSetIterable iter X.env x = pure x := by intro _; rfl) : PE X (.ListComp elt [⟨tg, iter, ifs, 0⟩] scope pos) (tComp wi ix g tc te) := by
  intro pins s σ H Q I h
  rw [eval_ListComp]
  have hfc : ∀ y ∈ scope.names, y.2 = .free → ∃ c, X.env.cells.lookup y.1 = some c := fun y hy e => I.ok.has y.1 (hfr y hy e)
  refine wpAny_comprehension_free (use := none) rfl hs (closureFor_cl hfc) hkind hnames (comp_core hi hcalm hix hcell hkind hfr hG hT hE I h (RR := fun acc C => compPost (model X.prog X.w) X.A X.xe none (EP X pins σ Q) acc C) ?_)
  intro D C oC m H' s' eC hn fC I' q
  refine ⟨m, hn, fun h' hs' => ⟨.ref D, H', ?_, rfl, q⟩⟩
  exact I'.unpinned.turned (t' := s'.toks) (fun b o hb e => (hs'.2 b hb).trans e) fC.1 fC.2.1 fC.2.2.2.1 fC.2.2.2.2.1 fC.2.2.2.2.2
/-- x = [elt for tg in iter if ..] -/
theorem ps_setC {X : Cx} {i : Nat} {x : Str} {tg iter elt : Expr} {ifs : List Expr} {scope : Scope} {pos spos pos' : Pos} {wi : TI} {g : TG} {tc : TT} {te : TE} (Nc : List Str) (ix : List (Option Nat)) (hN : X.N.Nodup) (hxi : X.N[i]? = some x) (hx : Loc X.env.scope x)
    (hsw : swapsWith (.ListComp elt [⟨tg, iter, ifs, 0⟩] scope pos) (some (.Name x pos')) spos.line X.env = pure true) (hi : PI X tg iter wi) (hcalm : X.calm = true) (hix : IxOk X scope Nc ix)
    (hcell : ∀ y ∈ scope.names, y.2 ≠ .cell) (hkind : scope.kind = .function) (hfr : ∀ y ∈ scope.names, y.2 = .free → X.env.kindOf y.1 = some .cell ∨ X.env.kindOf y.1 = some .free)
    (hnames : ∀ x ∈ scope.names, x.2 = .local → scope.names.lookup x.1 = some .local)
    (hG : ∀ C s H fp, PG (cxComp X scope C Nc s H fp) tg g) (hT : ∀ C s H fp, PF (cxComp X scope C Nc s H fp) ifs tc) (hE : ∀ C s H fp, PE (cxComp X scope C Nc s H fp) elt te)
    (hs : ∀ x, foldedSetIterable iter X.env x = pure x := by intro _; rfl) (hf : X.fn x = true ∨ X.env.scope.names.lookup x = some .local := by first | exact .inl rfl | exact .inr rfl | assumption) :
    PS X (.Assign [.Name x pos'] (.ListComp elt [⟨tg, iter, ifs, 0⟩] scope pos) spos) (tAsg (tComp wi ix g tc te) (gName i)) := by
  intro pins s σ H E I h
  have hfc : ∀ y ∈ scope.names, y.2 = .free → ∃ c, X.env.cells.lookup y.1 = some c := fun y hy e => I.ok.has y.1 (hfr y hy e)
  rw [exec_Assign_Name_used _ _ _ _ hsw]
  refine wpAny_bind (wpAny_standAt (wpAny_bind ?_))
  show wpAny _ X.A (do let _ ← comprehension (.ListComp elt [⟨tg, iter, ifs, 0⟩] scope pos) scope X.env _ (newList []) false (eval iter X.env) (some (assign (.Name x pos') X.env))) _ _ s
  refine wpAny_bind (wpAny_mono (wpAny_comprehension_free (use := some (assign (.Name x pos') X.env)) (Q := fun _ s' => SP X pins E .next s') rfl hs (closureFor_cl hfc) hkind hnames
    (comp_core hi hcalm hix hcell hkind hfr hG hT hE I h (RR := fun acc C => compPost (model X.prog X.w) X.A X.xe (some (assign (.Name x pos') X.env)) (fun _ s' => SP X pins E .next s') acc C) ?_)) (fun _ s' hq => wpAny_pure (wpAny_pure hq)) fun _ _ e => e)
  intro D C oC m H' s' eC hn fC I' q
  show wpAny _ X.A (assign (.Name x pos') X.env (.ref D)) _ _ _
  refine wpAny_assign_Name (store_ok I' hN hxi hx (show RelV (.ref D) _ from rfl) (fun s'' I'' => ?_) hf)
  have pC := I''.pin (C, oC) (List.mem_append_right _ (List.mem_append_right _ (List.mem_singleton.mpr rfl)))
  refine ⟨m, ?_, fun h' hs' => ?_⟩
  · obtain ⟨o, es, ep, e, r⟩ := hn
    rw [eC] at e; cases e
    exact ⟨oC, es, ep, pC.1, r⟩
  · refine ⟨_, H', I''.unpinned.turned (t' := s''.toks) (fun b o hb e => (hs'.2 b hb).trans e) fC.1 fC.2.1 fC.2.2.2.1 fC.2.2.2.2.1 fC.2.2.2.2.2, q⟩
end L2
namespace L2
open PySem PySem.Spec PyProof.Rows
/-! ### texts as lists of codes -/
def S (l : List Nat) : Str := ⟨l.toArray⟩
theorem S_list (l : List Nat) : (S l).cps.toList = l := by simp [S]
theorem S_len (l : List Nat) : (S l).length = l.length := by simp [S, Str.length]
theorem S_size (l : List Nat) : (S l).cps.size = l.length := by simp [S]
theorem S_inj {a b : List Nat} (h : S a = S b) : a = b := by
  have := congrArg (fun x : Str => x.cps.toList) h
  simpa [S] using this
theorem S_app (a b : List Nat) : S a ++ S b = S (a ++ b) := by
  apply Str.ext'
  apply Array.toList_inj.mp
  simp [S, Str.cps_append]
theorem dec_S {a b : List Nat} : decide (V.str (S a) = V.str (S b)) = decide (a = b) := by
  by_cases h : a = b
  · subst h; simp
  · rw [decide_eq_false h, decide_eq_false]
    intro q
    exact h (S_inj (V.str.inj q))
/-- a part of a list by a slice's bounds -/
def cut {α : Type} (xs : List α) (lo hi : Option Int) : List α := (xs.drop (HT.sIx xs.length 0 lo)).take (HT.sIx xs.length xs.length hi - HT.sIx xs.length 0 lo)
theorem clip_sIx (n d : Nat) (v : Int) : max 0 (min (if v < 0 then v + (n : Int) else v) (n : Int)) = ((HT.sIx n d (some v) : Nat) : Int) := by
  show _ = (((if v < 0 then (v + (n : Int)).toNat else min v.toNat n) : Nat) : Int)
  by_cases hv : v < 0
  · simp only [if_pos hv]; omega
  · simp only [if_neg hv]; omega
theorem indices_sIx (lo hi : Option Int) (n : Nat) : Builtin.Str.strSliceIndices lo hi 1 n = (List.range (HT.sIx n n hi - HT.sIx n 0 lo)).map (HT.sIx n 0 lo + ·) := by
  have h1 : (1 : Int) > 0 := by decide
  rw [← sliceRange_one]
  unfold Builtin.Str.strSliceIndices
  simp only [h1, if_true]
  congr 1
  · cases lo with
    | none => rfl
    | some v => exact clip_sIx n 0 v
  · cases hi with
    | none => rfl
    | some v => exact clip_sIx n n v
theorem slice_S (l : List Nat) (lo hi : Option Int) : Txt.slice (S l) lo hi = S (cut l lo hi) := by
  have hx : ((Builtin.Str.strSliceIndices lo hi 1 (S l).length).filterMap ((S l).cps[·]?)) = cut l lo hi := by
    rw [S_len, indices_sIx, pick_run, S_list]
    rfl
  have hlen : (Builtin.Str.strSliceIndices lo hi 1 (S l).length).length = HT.sIx l.length l.length hi - HT.sIx l.length 0 lo := by
    rw [S_len, indices_sIx, List.length_map, List.length_range]
  unfold Txt.slice
  by_cases hc : ((1 : Int) == 1 && (Builtin.Str.strSliceIndices lo hi 1 (S l).length).length == (S l).length) = true
  · rw [if_pos hc]
    rw [hlen, S_len] at hc
    have e : HT.sIx l.length l.length hi - HT.sIx l.length 0 lo = l.length := by simpa using hc
    have h2 := HT.sIx_le l.length l.length (Nat.le_refl _) hi
    have e0 : HT.sIx l.length 0 lo = 0 ∨ l.length = 0 := by omega
    unfold cut
    rw [e]
    rcases e0 with z | z
    · rw [z]; simp
    · have : l = [] := List.eq_nil_of_length_eq_zero z
      subst this
      simp
  · rw [if_neg hc]
    rw [hx]
    rfl

section
variable {X : Cx}
theorem pe_S {x : Str} {j pos} (l : List Nat) (h : x = S l) : PE X (.Constant (.str x) j pos) (tC (.str (S l))) := by
  subst h
  exact pe_str
def rAddS : R2 := fun x y H Q => ∃ a b, x = .str (S a) ∧ y = .str (S b) ∧ a.length + b.length ≤ sizeLine ∧ Q (.str (S (a ++ b))) H
theorem op_addS : OpR X (binaryOp .Add) rAddS := by
  intro pins s σ H x y v u Q I rx ry h
  obtain ⟨a, b, rfl, rfl, hz, q⟩ := h
  exact op_add_str pins s σ H _ _ v u Q I rx ry ⟨S a, S b, rfl, rfl, by rw [S_len, S_len]; exact hz, by rw [S_app]; exact q⟩
def rIxS' : R2 := fun x y H Q => ∃ l i c, x = .str (S l) ∧ y = .int i ∧ l.length ≤ sizeLine ∧ atI l i = some c ∧ Q (.str (S [c])) H
theorem ix_S : IxR X rIxS' := by
  intro value slice pins s σ H x y v u Q I rx ry h hs
  obtain ⟨l, i, c, rfl, rfl, hz, he, q⟩ := h
  exact ix_str value slice pins s σ H _ _ v u Q I rx ry ⟨S l, i, c, rfl, rfl, by rw [S_len]; exact hz, by rw [S_list]; exact he, q⟩ hs
def rSlS : V → Option Int → Option Int → Hp → VK → Prop := fun x lo hi H Q => ∃ l, x = .str (S l) ∧ l.length ≤ sizeLine ∧ Q (.str (S (cut l lo hi))) H
theorem sl_S : SlR X rSlS := by
  intro pins s σ H x v vl vu lo hi sl Q I rx hs pl pu h
  obtain ⟨l, rfl, hz, q⟩ := h
  obtain ⟨t, rfl⟩ := rx
  refine ⟨"str", _, F.slot_str_getitem.lookup, typeIs_str _ _ _, ?_⟩
  have key : ∀ (a b : Option (Int × Tok)), vl = partValue a → vu = partValue b → a.map (·.1) = lo → b.map (·.1) = hi → wpAny (model X.prog X.w) X.A (getItem (.str (S l) t) (.ref sl)) (EP X pins σ Q) X.xe s := by
    rintro a b rfl rfl rfl rfl
    obtain ⟨o, e, c, d⟩ := hs
    refine wpAny_getItem_str_slice (l := a) (u := b) (st := none) ⟨o, e, c, d⟩ rfl (post_val_or_str ⟨?_, fun t' k => ?_⟩)
    · exact Nat.le_trans (Txt.slice_le (S l) _ _) (by rw [S_len]; exact hz)
    · exact ⟨.str (S (cut l _ _)), H, I.tok _, ⟨t', congrArg (fun z => Value.str z t') (slice_S l _ _)⟩, q⟩
  cases pl with
  | none =>
    cases pu with
    | none => exact key none none rfl rfl rfl rfl
    | int i ti => exact key none (some (i, ti)) rfl rfl rfl rfl
  | int i ti =>
    cases pu with
    | none => exact key (some (i, ti)) none rfl rfl rfl rfl
    | int j tj => exact key (some (i, ti)) (some (j, tj)) rfl rfl rfl rfl
theorem call_lenS : CallR X (.builtin "len") (fun xs H Q => ∃ l, xs = [.str (S l)] ∧ l.length ≤ sizeLine ∧ Q (.int l.length) H) := by
  intro pins s σ H xs us Q I r h
  obtain ⟨l, rfl, hz, q⟩ := h
  exact call_len_str pins s σ H _ us Q I r ⟨S l, rfl, by rw [S_len]; exact hz, by rw [S_len]; exact q⟩
/-- list(text) -/
def sgs (l : List Nat) : List V := l.map fun c => V.str (S [c])
/-- one sign in a text -/
def rInS : R2 := fun x y H Q => ∃ c l, x = .str (S [c]) ∧ y = .str (S l) ∧ Q (.bl (decide (c ∈ l))) H
theorem op_inS : OpR X (compareOp .In) rInS := by
  intro pins s σ H x y v u Q I rx ry h
  obtain ⟨c, l, rfl, rfl, q⟩ := h
  refine op_in_str pins s σ H _ _ v u Q I rx ry ⟨S [c], S l, rfl, rfl, ?_⟩
  have e := StrLaws.found_one (S l) c
  rw [S_list] at e
  rw [show (S [c]) = (⟨#[c]⟩ : Str) from rfl, e]
  exact q
end
end L2
namespace L2
open PySem PySem.Spec PyProof.Rows
/-! ### the first place of a sign -/
theorem occ_stays (s sub : Str) (hi : Nat) : ∀ (l : List Nat) (st : Array Nat × Nat), 1 ≤ st.fst.size → (forIn l st (StrLaws.occBody s sub hi 1)).run.fst = st.fst
  | [], st, h => rfl
  | a :: l, st, h => by
    rw [List.forIn_cons]
    unfold StrLaws.occBody
    rw [if_neg (fun z => absurd z.1.1.1 (Nat.not_lt.mpr h))]
    exact occ_stays s sub hi l _ h
theorem occ_first (s sub : Str) (hi : Nat) : ∀ (l : List Nat) (free : Nat), (∀ i ∈ l, free ≤ i) →
    (forIn l ((#[] : Array Nat), free) (StrLaws.occBody s sub hi 1)).run.fst.toList = (l.find? fun i => decide (i + sub.length ≤ hi) && Builtin.Str.subAt s sub i).toList
  | [], free, _ => rfl
  | a :: l, free, hf => by
    rw [List.forIn_cons, List.find?_cons]
    unfold StrLaws.occBody
    have ha : free ≤ a := hf a List.mem_cons_self
    by_cases hc : a + sub.length ≤ hi ∧ Builtin.Str.subAt s sub a = true
    · rw [if_pos ⟨⟨⟨by simp, ha⟩, hc.1⟩, hc.2⟩]
      have : (decide (a + sub.length ≤ hi) && Builtin.Str.subAt s sub a) = true := by simp [hc]
      rw [this]
      show (forIn l (#[].push a, a + sub.length) (StrLaws.occBody s sub hi 1)).run.fst.toList = _
      rw [occ_stays s sub hi l _ (by simp)]
      rfl
    · rw [if_neg (fun z => hc ⟨z.1.2, z.2⟩)]
      have : (decide (a + sub.length ≤ hi) && Builtin.Str.subAt s sub a) = false := by
        cases h1 : decide (a + sub.length ≤ hi) with
        | false => rfl
        | true =>
          cases h2 : Builtin.Str.subAt s sub a with
          | false => rfl
          | true => exact absurd ⟨of_decide_eq_true h1, h2⟩ hc
      rw [this]
      exact occ_first s sub hi l free fun i hi' => hf i (List.mem_cons_of_mem _ hi')
theorem subAt_one (l : List Nat) (c i : Nat) : Builtin.Str.subAt (S l) (S [c]) i = (l[i]? == some c) := by
  unfold Builtin.Str.subAt
  rw [S_len]
  show ((S l).cps.extract i (i + 1) == #[c]) = _
  have e : ((S l).cps.extract i (i + 1)) = ((l.drop i).take 1).toArray := by
    apply Array.toList_inj.mp
    simp [S, List.take_drop]
  rw [e]
  by_cases h : i < l.length
  · have e2 : (l.drop i).take 1 = [l[i]] := by
      rw [List.drop_eq_getElem_cons h]; rfl
    rw [e2, List.getElem?_eq_getElem h]
    by_cases hc : l[i] = c
    · rw [hc]; simp
    · have h1 : ([l[i]].toArray == #[c]) = false := by
        rw [beq_eq_false_iff_ne]
        intro z
        apply hc
        have := congrArg Array.toList z
        simpa using this
      have h2 : (some l[i] == some c) = false := by simpa using hc
      rw [h1, h2]
  · have e2 : (l.drop i).take 1 = [] := by rw [List.drop_eq_nil_of_le (by omega)]; rfl
    rw [e2, List.getElem?_eq_none (by omega)]
    rfl
theorem find_idx (l : List Nat) (c : Nat) : ∀ (k n : Nat), k + n = l.length + 1 → ((List.range' k n).find? fun i => decide (i + 1 ≤ l.length) && (l[i]? == some c)) = if c ∈ l.drop k then some (k + (l.drop k).idxOf c) else none
  | k, 0, h => by
    have : l.drop k = [] := List.drop_eq_nil_of_le (by omega)
    rw [this]; simp
  | k, n + 1, h => by
    rw [List.range'_succ, List.find?_cons]
    by_cases hk : k < l.length
    · have e : l.drop k = l[k] :: l.drop (k + 1) := List.drop_eq_getElem_cons hk
      rw [List.getElem?_eq_getElem hk, e]
      by_cases hc : l[k] = c
      · have : (decide (k + 1 ≤ l.length) && (some l[k] == some c)) = true := by simp [hc]; omega
        rw [this, if_pos (by simp [hc])]
        simp [hc]
      · have : (decide (k + 1 ≤ l.length) && (some l[k] == some c)) = false := by simp [hc]
        rw [this, find_idx l c (k + 1) n (by omega)]
        have hc' : ¬ c = l[k] := fun z => hc z.symm
        by_cases hm : c ∈ l.drop (k + 1)
        · rw [if_pos hm, if_pos (List.mem_cons_of_mem _ hm), List.idxOf_cons]
          have : (l[k] == c) = false := by simpa using hc
          rw [this]
          show some (k + 1 + List.idxOf c (List.drop (k + 1) l)) = some (k + (List.idxOf c (List.drop (k + 1) l) + 1))
          congr 1
          omega
        · rw [if_neg hm, if_neg (by intro z; rcases List.mem_cons.mp z with z | z; exact hc' z; exact hm z)]
    · have : l.drop k = [] := List.drop_eq_nil_of_le (by omega)
      have e1 : (decide (k + 1 ≤ l.length) && (l[k]? == some c)) = false := by
        rw [decide_eq_false (by omega)]; rfl
      have e2 : l.drop (k + 1) = [] := List.drop_eq_nil_of_le (by omega)
      rw [e1, find_idx l c (k + 1) n (by omega), this, e2]
      simp
theorem occ_S (l : List Nat) (c : Nat) : Builtin.Str.occurrences (S l) (S [c]) 0 (S l).length 1 = if c ∈ l then [l.idxOf c] else [] := by
  rw [StrLaws.occ_eq, occ_first _ _ _ _ 0 fun _ _ => Nat.zero_le _]
  have e : (fun i => decide (i + (S [c]).length ≤ (S l).length) && Builtin.Str.subAt (S l) (S [c]) i) = fun i => decide (i + 1 ≤ l.length) && (l[i]? == some c) := by
    funext i
    rw [subAt_one, S_len, S_len]
    rfl
  rw [e, S_len, Nat.sub_zero, find_idx l c 0 (l.length + 1) (by omega), List.drop_zero]
  by_cases h : c ∈ l
  · rw [if_pos h, if_pos h, Nat.zero_add]; rfl
  · rw [if_neg h, if_neg h]; rfl

section
variable {X : Cx}
def rIndexS : V → List V → Hp → VK → Prop := fun x vs H Q => ∃ l c, x = .str (S l) ∧ vs = [.str (S [c])] ∧ c ∈ l ∧ Q (.int (l.idxOf c : Nat)) H
theorem mt_indexS : MtR X "str.index" rIndexS := by
  intro pins s σ H x xs v us Q I rx rv h
  obtain ⟨l, c, rfl, rfl, hc, q⟩ := h
  obtain ⟨t, rfl⟩ := rx
  obtain ⟨u, rfl, t', rfl⟩ := vals1 rv
  exact SC.index (i := l.idxOf c) (rest := []) (by rw [occ_S, if_pos hc]) ⟨.int (l.idxOf c : Nat), H, I.tok _, ⟨_, rfl⟩, q⟩
/-- one ASCII sign: islower, isupper, upper, lower -/
def rLowS (f : Nat → Bool) : V → List V → Hp → VK → Prop := fun x vs H Q => ∃ c, x = .str (S [c]) ∧ vs = [] ∧ c < 128 ∧ Q (.bl (f c)) H
def rUpS (f : Nat → Nat) : V → List V → Hp → VK → Prop := fun x vs H Q => ∃ c, x = .str (S [c]) ∧ vs = [] ∧ c < 128 ∧ Q (.str (S [f c])) H
def isLow (c : Nat) : Bool := decide (97 ≤ c) && decide (c ≤ 122)
theorem low_all : ∀ c, c < 128 → Txt.islower ⟨#[c]⟩ = isLow c := by decide +kernel
theorem mt_islower : MtR X "str.islower" (rLowS isLow) := by
  intro pins s σ H x xs v us Q I rx rv h
  obtain ⟨c, rfl, rfl, hc, q⟩ := h
  obtain ⟨t, rfl⟩ := rx
  have e : us = [] := by cases rv; rfl
  subst e
  exact SC.islower ⟨.bl (isLow c), H, I, congrArg Value.bool (low_all c hc), q⟩
theorem upper_one {c : Nat} (hc : c < 128) : Txt.upper (S [c]) = S [up1 c] := by
  rw [upper_ascii (by intro d hd; rw [S_list] at hd; simp at hd; omega)]
  simp [S]
theorem lower_one {c : Nat} (hc : c < 128) : Txt.lower (S [c]) = S [lo1 c] := by
  rw [lower_ascii (by intro d hd; rw [S_list] at hd; simp at hd; omega)]
  simp [S]
theorem fits1 (c : Nat) : Builtin.Str.tooLong (S [c]).length = false := by
  rw [S_len]
  show Builtin.Str.tooLong 1 = false
  decide
theorem mt_upper : MtR X "str.upper" (rUpS up1) := by
  intro pins s σ H x xs v us Q I rx rv h
  obtain ⟨c, rfl, rfl, hc, q⟩ := h
  obtain ⟨t, rfl⟩ := rx
  have e : us = [] := by cases rv; rfl
  subst e
  exact SC.upper (by rw [upper_one hc]; exact fits1 _) ⟨.str (S [up1 c]), H, I.tok _, ⟨_, congrArg (fun z => Value.str z _) (upper_one hc)⟩, q⟩
theorem mt_lower : MtR X "str.lower" (rUpS lo1) := by
  intro pins s σ H x xs v us Q I rx rv h
  obtain ⟨c, rfl, rfl, hc, q⟩ := h
  obtain ⟨t, rfl⟩ := rx
  have e : us = [] := by cases rv; rfl
  subst e
  exact SC.lower (by rw [lower_one hc]; exact fits1 _) ⟨.str (S [lo1 c]), H, I.tok _, ⟨_, congrArg (fun z => Value.str z _) (lower_one hc)⟩, q⟩
/-! ### ''.join(list of texts) -/
theorem glue_S : ∀ (ls : List (List Nat)) (a : Array Nat), (ls.map S).foldl (fun acc p => acc ++ (S []).cps ++ p.cps) a = a ++ ls.flatten.toArray
  | [], a => by simp
  | l :: ls, a => by
    rw [List.map_cons, List.foldl_cons, glue_S ls]
    simp [S]
theorem join_S (ls : List (List Nat)) : Txt.join (S []) (ls.map S) = S ls.flatten := by
  unfold Txt.join Builtin.Str.glued
  cases ls with
  | nil => rfl
  | cons l ls =>
    show Str.mk ((List.map S ls).foldl (fun acc p => acc ++ (S []).cps ++ p.cps) (S l).cps) = _
    rw [glue_S]
    simp [S]
theorem strsAre_of : ∀ {ls : List (List Nat)} {us : List Value}, Vals (ls.map fun l => V.str (S l)) us → StrsAre us (ls.map S)
  | [], us, r => by cases r; exact .nil
  | l :: ls, us, r => by
    cases r with
    | cons r1 r2 =>
      obtain ⟨t, rfl⟩ := r1
      exact .cons _ t (strsAre_of r2)
def rJoinS (K : PySem.W.Frag) : V → List V → Hp → VK → Prop := fun x vs H Q => ∃ (p : Addr) (ls : List (List Nat)), x = .str (S []) ∧ vs = [.ref p] ∧ SqL K H p (ls.map fun l => V.str (S l)) ∧ (ls.map List.length).sum ≤ 16777216 ∧ Q (.str (S ls.flatten)) H
theorem mt_joinS : MtR X "str.join" (rJoinS X.K) := by
  intro pins s σ H x xs v us Q I rx rv h
  obtain ⟨p, ls, rfl, rfl, hq, hz, q⟩ := h
  obtain ⟨t, rfl⟩ := rx
  obtain ⟨u, rfl, ru⟩ := vals1 rv
  cases ru
  obtain ⟨its, r, pl, _⟩ := I.list hq
  have e : (S []).length = 0 := rfl
  refine join_list pl.isList (by simpa using strsAre_of r) ?_ fun t' k => ?_
  · rw [e, Nat.mul_zero, Nat.add_zero, List.map_map]
    have e2 : (Str.length ∘ S) = List.length := by funext l; exact S_len l
    have e3 : ((fun x : Str => x.length) ∘ S) = List.length := by funext l; exact S_len l
    first | (rw [e2]; exact hz) | (rw [e3]; exact hz)
  · exact ⟨.str (S ls.flatten), H, I.tok _, ⟨t', congrArg (fun z => Value.str z t') (join_S ls)⟩, q⟩
/-! ### isinstance(x, str) -/
/-! ### all(list of truths) -/
end
end L2
namespace L2.F2
open PySem PySem.Spec PyProof.Rows
theorem owner_rev : Manifest.owners.lookup (String.ofList ['d', 'e', 's', 'r', 'e', 'v', 'e', 'r'].reverse) = some Manifest.sig_reversed := by kernel_rfl
theorem slot_rev_next : Slot "reversed" "__next__" "reversed.__next__" :=
  .of (owner := "reversed") (n := "__next__") (by rw [typeLookup_type, builtinLookup_eq_fast]; kernel_rfl) (by decide +kernel) (by decide +kernel) (by decide +kernel)
    (by first | exact .inl (by decide +kernel) | exact .inr (by decide +kernel)) (by rw [isSubtype_type]; kernel_rfl)
theorem entry_rev_next : entryFor table "reversed.__next__" = some Builtin.«reversed.__next__» := entryFor_of_tree (by kernel_rfl)
theorem args_rev_next_1 (a : Value) : argsOk "reversed.__next__" ⟨[a], []⟩ := by
  unfold argsOk; rw [signature?_of (id := "reversed.__next__") (n := ['_', '_', 't', 'x', 'e', 'n', '_', '_']) (o := ['d', 'e', 's', 'r', 'e', 'v', 'e', 'r']) (by kernel_rfl) owner_rev]; kernel_rfl
theorem slot_rev_iter : Slot "reversed" "__iter__" "reversed.__iter__" :=
  .of (owner := "reversed") (n := "__iter__") (by rw [typeLookup_type, builtinLookup_eq_fast]; kernel_rfl) (by decide +kernel) (by decide +kernel) (by decide +kernel)
    (by first | exact .inl (by decide +kernel) | exact .inr (by decide +kernel)) (by rw [isSubtype_type]; kernel_rfl)
theorem args_rev_iter_1 (a : Value) : argsOk "reversed.__iter__" ⟨[a], []⟩ := by
  unfold argsOk; rw [signature?_of (id := "reversed.__iter__") (n := ['_', '_', 'r', 'e', 't', 'i', '_', '_']) (o := ['d', 'e', 's', 'r', 'e', 'v', 'e', 'r']) (by kernel_rfl) owner_rev]; kernel_rfl
theorem entry_rev_iter : entryFor table "reversed.__iter__" = some Builtin.«dict_keyiterator.__iter__» :=
  entryFor_alias (id' := "dict_keyiterator.__iter__") (by kernel_rfl) (by first | rfl | decide +kernel | (unfold String.splitOn; simp +decide [String.splitOnAux])) (by decide +kernel) (by kernel_rfl)
theorem slot_rev_init : Slot "reversed" "__init__" "object.__init__" :=
  .of (owner := "object") (n := "__init__") (by rw [typeLookup_type, builtinLookup_eq_fast]; kernel_rfl) (by decide +kernel) (by decide +kernel) (by decide +kernel)
    (by first | exact .inl (by decide +kernel) | exact .inr (by decide +kernel)) (by rw [isSubtype_type]; kernel_rfl)
theorem called_rev : TypeCalled "reversed" "reversed.__new__" "object.__init__" :=
  ⟨by decide +kernel, by decide +kernel, ⟨_, _, F.mro_reversed⟩, F.made_reversed, by decide +kernel, by rw [isSubtype_type]; kernel_rfl, slot_rev_init⟩
theorem str_no_rev : typeLookup (.type "str") "__reversed__" = pure none := by rw [typeLookup_type, builtinLookup_eq_fast]; kernel_rfl
end L2.F2
namespace L2
open PySem PySem.Spec PyProof.Rows
theorem meets_rev_newS (x : Str) (t : Tok) (hz : x.length ≤ sizeLine) : Meets (Builtin.«reversed.__new__» ⟨[.type "reversed", .str x t], []⟩) (fun _ R s => ∀ tk, R (.ok (.ret (.ref s.heap.objs.size))) { s with heap := s.heap.push { cls := .type "reversed", data := .fields #[.str x t, rawInt ((x.length : Int) - 1)] }, toks := tk }) := by
  refine Meets.of_wp fun prog w A R s h => ?_
  unfold Builtin.«reversed.__new__»
  refine wpAny_bind (wpAny_of_eq (newClass_reversed _) ?_)
  try dsimp only
  refine wpAny_bind (wpAny_of_eq (a := ()) (by first | rfl | kernel_rfl) ?_)
  refine wpAny_bind (wpAny_of_eq (a := ()) (by first | rfl | kernel_rfl) ?_)
  try dsimp only
  refine wpAny_bind (wpAny_specialOf (typeIs_str s x t) F2.str_no_rev ?_)
  try dsimp only
  refine wpAny_bind (wpAny_of_eq (a := true) (by first | rfl | kernel_rfl) ?_)
  rw [if_neg (by decide)]
  have hn := line63
  refine wpAny_bind (len_str (by omega) ?_)
  refine wpAny_bind (wpAny_of_eq (a := some (x.length : Int)) (by first | rfl | kernel_rfl) ?_)
  show wpAny _ _ (Builtin.SmallTypes.newRecord (Value.type "reversed") [Value.str x t, rawInt ((x.length : Int) - 1)] >>= _) _ _ _
  refine wpAny_bind ?_
  unfold Builtin.SmallTypes.newRecord
  refine wpAny_newObj_type ?_ (by size_fits)
  exact wpAny_pure ⟨_, rfl, h _⟩
section
variable {prog : Program} {w : World} {A : Around} {E : Value → Shared → Prop} {s : Shared}
theorem call_reversedS {x : Str} {t : Tok} {Q : Value → Shared → Prop} (hz : x.length ≤ sizeLine) (h : ∀ tk, Q (.ref s.heap.objs.size) { s with heap := s.heap.push { cls := .type "reversed", data := .fields #[.str x t, rawInt ((x.length : Int) - 1)] }, toks := tk }) :
    wpAny (model prog w) A (call (.type "reversed") [.str x t]) Q E s :=
  callType_new F2.called_rev (by decide +kernel) (F.typeCall_reversed_1 _) (F.newCall_reversed_1 _) (fun obj => by unfold argsOk; kernel_rfl) F.entry_reversed_new (meets_rev_newS x t hz)
    fun tk => ⟨⟨_, Heap.get?_push_size _ rfl, rfl⟩, h tk⟩
/-- the iterator at it: i is the next place -/
def IsRevS (h : Heap) (it : Addr) (x : Str) (t : Tok) (i : Int) : Prop := ∃ o, h.get? it = some o ∧ o.cls = .type "reversed" ∧ o.data = .fields #[.str x t, rawInt i]
theorem IsRevS.typeIs {it : Addr} {x : Str} {t : Tok} {i : Int} (h : IsRevS s.heap it x t i) : s.TypeIs (.ref it) "reversed" := let ⟨o, ho, hc, _⟩ := h; ⟨o, ho, hc⟩
theorem pyIter_rev {it : Addr} {x : Str} {t : Tok} {i : Int} {Q : Value → Shared → Prop} (hit : IsRevS s.heap it x t i) (h : Q (.ref it) s) : wpAny (model prog w) A (pyIter (.ref it)) Q E s := by
  refine wpAny_pyIter_slot hit.typeIs F2.slot_rev_iter (wpAny_call_entry F2.slot_rev_iter hit.typeIs F2.entry_rev_iter ?_ (F2.args_rev_iter_1 _))
  show wpAny _ _ (ret (.ref it)) _ _ s
  exact wpAny_pure ⟨_, rfl, "reversed", _, hit.typeIs, F2.slot_rev_next.lookup, h⟩
theorem pyNext_rev_item {it : Addr} {x : Str} {t : Tok} {i c : Nat} {Q : Option Value → Shared → Prop} (hit : IsRevS s.heap it x t (i : Int)) (hx : x.cps[i]? = some c) (hz : x.length ≤ sizeLine)
    (hQ : ∀ h' tk u, IsRevS h' it x t ((i : Int) - 1) → Heap.SameBut it s.heap h' → Q (some (.str ⟨#[c]⟩ u)) { s with heap := h', toks := tk }) : wpAny (model prog w) A (pyNext (.ref it)) Q E s := by
  obtain ⟨o, ho, hc, hd⟩ := id hit
  have hn := line63
  have hi : i < x.length := (Array.getElem?_eq_some_iff.mp hx).1
  unfold pyNext
  refine wpAny_bind (wpAny_attempt (wpAny_callSpecial?_slot (name := Str.ofString "__next__") hit.typeIs F2.slot_rev_next
    (wpAny_call_entry F2.slot_rev_next hit.typeIs F2.entry_rev_next ?_ (F2.args_rev_next_1 _))))
  unfold Builtin.«reversed.__next__»
  refine wpAny_bind (wpAny_of_eq (a := (Value.ref it, [])) rfl ?_)
  try dsimp only
  refine wpAny_bind (wpAny_field ho hd (x := .str x t) rfl ?_)
  refine wpAny_bind (wpAny_field ho hd (x := rawInt (i : Int)) rfl ?_)
  show wpAny _ _ (if (i : Int) < 0 then _ else _) _ _ s
  rw [if_neg (by omega)]
  refine wpAny_bind (wpAny_specialOf (typeIs_str s x t) F.slot_str_getitem.lookup ?_)
  show wpAny _ _ (if (some (Value.builtin _)).isNone = true then _ else _) _ _ s
  rw [if_neg (by decide)]
  refine wpAny_bind (wpAny_mkInt ?_)
  refine wpAny_bind (wpAny_attempt (getItem_str (c := c) (by
    have e1 : decide ((i : Int) < -(2 ^ 63 : Int)) = false := decide_eq_false (by omega)
    have e2 : decide ((i : Int) ≥ 2 ^ 63) = false := decide_eq_false (by omega)
    rw [e1, e2, Bool.or_false]) (by rw [seqIndex_of (by omega) (by omega), Int.toNat_natCast]; exact hx) ?_))
  show wpAny _ _ (field (Value.ref it) 1 >>= _) _ _ _
  refine wpAny_bind (wpAny_field ho hd (x := rawInt (i : Int)) rfl ?_)
  show wpAny _ _ (setField (Value.ref it) 1 (rawInt ((i : Int) - 1)) >>= _) _ _ _
  refine wpAny_bind (wpAny_setField ho hd (by simp) ?_)
  refine wpAny_pure ⟨_, rfl, wpAny_pure (hQ _ _ _ ?_ (Heap.SameBut.update ..))⟩
  exact ⟨_, Heap.get?_update_self _ ho (Obj.isFreed_of_fields (Obj.data_mapFields hd _)), (Obj.cls_mapFields ..).trans hc, by
    rw [Obj.data_mapFields hd]; simp⟩
theorem pyNext_rev_end {it : Addr} {x : Str} {t : Tok} {Q : Option Value → Shared → Prop} (hh : A.handled = none) (hit : IsRevS s.heap it x t (-1))
    (hQ : ∀ h', Heap.ExtBut it s.heap h' → Q none { s with heap := h' }) : wpAny (model prog w) A (pyNext (.ref it)) Q E s := by
  obtain ⟨o, ho, hc, hd⟩ := id hit
  unfold pyNext
  refine wpAny_bind (wpAny_attempt (wpAny_callSpecial?_slot (name := Str.ofString "__next__") hit.typeIs F2.slot_rev_next
    (wpAny_call_entry F2.slot_rev_next hit.typeIs F2.entry_rev_next ?_ (F2.args_rev_next_1 _))))
  unfold Builtin.«reversed.__next__»
  refine wpAny_bind (wpAny_of_eq (a := (Value.ref it, [])) rfl ?_)
  try dsimp only
  refine wpAny_bind (wpAny_field ho hd (x := .str x t) rfl ?_)
  refine wpAny_bind (wpAny_field ho hd (x := rawInt (-1)) rfl ?_)
  show wpAny _ _ (if (-1 : Int) < 0 then _ else _) _ _ s
  rw [if_pos (by decide)]
  refine wpAny_bind (wpAny_rule ?_)
  refine wpAny_bind ?_
  show wpAny _ _ (setField (Value.ref it) 1 (rawInt (-1)) >>= fun _ => setField (Value.ref it) 0 .none) _ _ _
  refine wpAny_bind (wpAny_setField ho hd (by simp) ?_)
  refine wpAny_setField (Heap.get?_update_self _ ho (Obj.isFreed_of_fields (Obj.data_mapFields hd _))) (Obj.data_mapFields hd _) (by simp) ?_
  first
  | show wpAny _ _ (newExc (.type "StopIteration") [] >>= _) _ _ _
  | (refine wpAny_bind ?_; show wpAny _ _ (newExc (.type "StopIteration") [] >>= _) _ _ _)
  refine wpAny_bind ?_
  simp only [newExc, newTuple]
  refine wpAny_bind (wpAny_newObj_type ?_ (by size_fits))
  refine wpAny_bind (m := firstArgMember _ _) (wpAny_of_eq (a := Value.none) (by first | rfl | (simp only [firstArgMember]; rfl)) ?_)
  refine wpAny_newObj_type ?_ (by size_fits)
  simp only [raiseNew]
  refine wpAny_bind (wpAny_handled ?_)
  first | rw [show A.in1.handled = none from hh] | rw [hh]
  refine wpAny_bind (wpAny_pure (wpAny_throw ?_))
  refine wpAny_bind (wpAny_isInstance (T := "StopIteration") (b := true) ⟨_, Heap.get?_push_size _ rfl, rfl⟩ isSubtype_stop ?_)
  refine wpAny_pure (hQ _ fun b ob hb e => ?_)
  refine Heap.get?_push_of_some _ (Heap.get?_push_of_some _ ?_)
  exact (Heap.get?_update_other _ _ (Ne.symm hb)).trans ((Heap.get?_update_other _ _ (Ne.symm hb)).trans e)
end
/-! ### fixed items -/
def Itx (xs : List V) : It := ⟨fun i _ => i < xs.length, fun i H x H' => H' = H ∧ xs[i]? = some x, fun i _ => xs.length ≤ i⟩
theorem sgs_get {l : List Nat} {i : Nat} {x : V} (h : (sgs l)[i]? = some x) : ∃ c, l[i]? = some c ∧ x = .str (S [c]) := by
  unfold sgs at h
  rw [List.getElem?_map] at h
  cases e : l[i]? with
  | none => rw [e] at h; cases h
  | some c => rw [e] at h; cases h; exact ⟨c, rfl, rfl⟩
theorem sgs_len (l : List Nat) : (sgs l).length = l.length := by unfold sgs; rw [List.length_map]
theorem turn_str {P : Program} {w : World} {K : PySem.W.Frag} {tg : Expr} (it : Addr) (l : List Nat) (t : Tok) : Turn P w K tg (Itx (sgs l)) [it] it (fun i h => h.IsStrIter it (strIterType (S l)) (S l) t i) where
  mem := by simp
  obj := fun i h st b hb => by
    have e : b = it := by simpa using hb
    subst e
    obtain ⟨o, e, c, d⟩ := st
    exact ⟨o, e, fun v z => by rw [d] at z; cases z⟩
  keep := fun i h h' st k => let ⟨o, e, r⟩ := st; ⟨o, k it (by simp) o e, r⟩
  item := by
    intro X hP hw hK hc i pins s σ H E I hf st hg
    subst hP hw hK
    have hg' : i < l.length := by have : i < (sgs l).length := hg; rwa [sgs_len] at this
    obtain ⟨f0, f1, f2, f3, f4, f5⟩ := hf it (by simp)
    have fin : ∀ (v : Value) (h' : Heap) (tk : Nat), SignAt (S l) i v → h'.IsStrIter it (strIterType (S l)) (S l) t (i + 1) → (∀ b o, b ∉ [it] → s.heap.get? b = some o → h'.get? b = some o) →
        ∃ u, some v = some u ∧ wpAny (model X.prog X.w) X.A (letOwnedTupleGo tg (.ref it) u) (fun _ s2 => ∃ x H', Inv X pins σ H' s2 ∧ RelV x u ∧ (Itx (sgs l)).yld i H x H' ∧ s2.heap.IsStrIter it (strIterType (S l)) (S l) t (i + 1) ∧ ∀ b ∈ [it], H' b = none) E { s with heap := h', toks := tk } := by
      intro v h' tk hv st' kk
      obtain ⟨c, u, e1, e2⟩ := hv
      subst e2
      have I1 : Inv X pins σ H { s with heap := h', toks := tk } := I.turned (fun b o hb e => kk b o (by simpa using hb) e) f0 f1 f3 f4 f5
      obtain ⟨o, e, cc, d⟩ := id st'
      refine ⟨_, rfl, go_of (s := { s with heap := h', toks := tk }) e cc d (by unfold strIterType; split <;> decide) ⟨.str (S [c]), H, I1, ⟨u, rfl⟩, ⟨rfl, ?_⟩, st', fun b hb => (hf b hb).1⟩⟩
      unfold sgs
      rw [List.getElem?_map]
      have e1' : l[i]? = some c := by simpa [S] using e1
      rw [e1']
      rfl
    have hsz : i < (S l).cps.size := by rw [S_size]; exact hg'
    by_cases ha : (S l).cps.all (· < 128) = true
    · have et : strIterType (S l) = "str_ascii_iterator" := by unfold strIterType; rw [if_pos ha]
      rw [et] at st
      exact (Walks.strAscii (prog := X.prog) (w := X.w) (I.ok.hd hc) it (S l) t).item i s _ _ hsz st fun v h' tk hv st' kk => fin v h' tk hv (by rw [et]; exact st') kk
    · have et : strIterType (S l) = "str_iterator" := by unfold strIterType; rw [if_neg ha]
      rw [et] at st
      exact (Walks.strWide (prog := X.prog) (w := X.w) (I.ok.hd hc) it (S l) t).item i s _ _ hsz st fun v h' tk hv st' kk => fin v h' tk hv (by rw [et]; exact st') kk
  done := by
    intro X hP hw hK hc i pins s σ H E I hf st hg
    subst hP hw hK
    obtain ⟨f0, f1, f2, f3, f4, f5⟩ := hf it (by simp)
    have hg' : l.length ≤ i := by have : (sgs l).length ≤ i := hg; rwa [sgs_len] at this
    have hx : (S l).cps[i]? = none := by rw [Array.getElem?_eq_none_iff, S_size]; exact hg'
    by_cases ha : (S l).cps.all (· < 128) = true
    · have et : strIterType (S l) = "str_ascii_iterator" := by unfold strIterType; rw [if_pos ha]
      rw [et] at st
      exact wpAny_pyNext_ascii_end (I.ok.hd hc) st hx fun h' eb => ⟨rfl, I.turned (t' := s.toks) (fun b o hb e => eb b o hb e) f0 f1 f3 f4 f5⟩
    · have et : strIterType (S l) = "str_iterator" := by unfold strIterType; rw [if_neg ha]
      rw [et] at st
      exact wpAny_pyNext_wide_end (I.ok.hd hc) st hx fun h' eb => ⟨rfl, I.turned (t' := s.toks) (fun b o hb e => eb b o hb e) f0 f1 f3 f4 f5⟩
  self := fun _ _ s _ _ st h => by
    by_cases ha : (S l).cps.all (· < 128) = true
    · have et : strIterType (S l) = "str_ascii_iterator" := by unfold strIterType; rw [if_pos ha]
      rw [et] at st
      exact wpAny_pyIter_striter_ascii st h
    · have et : strIterType (S l) = "str_iterator" := by unfold strIterType; rw [if_neg ha]
      rw [et] at st
      exact wpAny_pyIter_striter_wide st h
theorem turn_rev {P : Program} {w : World} {K : PySem.W.Frag} {tg : Expr} (it : Addr) (l : List Nat) (t : Tok) (hz : l.length ≤ sizeLine) : Turn P w K tg (Itx (sgs l).reverse) [it] it (fun i h => i ≤ l.length ∧ IsRevS h it (S l) t ((l.length : Int) - 1 - (i : Int))) where
  mem := by simp
  obj := fun i h st b hb => by
    have e : b = it := by simpa using hb
    subst e
    obtain ⟨_, o, e, c, d⟩ := st
    exact ⟨o, e, fun v z => by rw [d] at z; cases z⟩
  keep := fun i h h' st k => let ⟨q, o, e, r⟩ := st; ⟨q, o, k it (by simp) o e, r⟩
  item := by
    intro X hP hw hK hc i pins s σ H E I hf st hg
    subst hP hw hK
    have hg' : i < l.length := by have : i < (sgs l).reverse.length := hg; rwa [List.length_reverse, sgs_len] at this
    obtain ⟨f0, f1, f2, f3, f4, f5⟩ := hf it (by simp)
    obtain ⟨_, st⟩ := st
    have e : (l.length : Int) - 1 - (i : Int) = ((l.length - 1 - i : Nat) : Int) := by omega
    rw [e] at st
    have hlt : l.length - 1 - i < l.length := by omega
    refine pyNext_rev_item (c := l[l.length - 1 - i]) st (by simp [S, hlt]) (by rw [S_len]; exact hz) fun h' tk u st' sb => ?_
    have I1 : Inv X pins σ H { s with heap := h', toks := tk } := I.turned (fun b o hb e => (sb.2 b hb).trans e) f0 f1 f3 f4 f5
    obtain ⟨o, e1, cc, d⟩ := id st'
    refine ⟨_, rfl, go_of (s := { s with heap := h', toks := tk }) e1 cc d (by decide) ⟨.str (S [l[l.length - 1 - i]]), H, I1, ⟨u, rfl⟩, ⟨rfl, ?_⟩, ⟨hg', ?_⟩, fun b hb => (hf b hb).1⟩⟩
    · rw [List.getElem?_reverse (by rw [sgs_len]; exact hg'), sgs_len]
      unfold sgs
      rw [List.getElem?_map, List.getElem?_eq_getElem hlt]
      rfl
    · have e2 : (l.length : Int) - 1 - ((i + 1 : Nat) : Int) = ((l.length - 1 - i : Nat) : Int) - 1 := by omega
      rw [e2]
      exact st'
  done := by
    intro X hP hw hK hc i pins s σ H E I hf st hg
    subst hP hw hK
    obtain ⟨f0, f1, f2, f3, f4, f5⟩ := hf it (by simp)
    have hg' : l.length ≤ i := by have : (sgs l).reverse.length ≤ i := hg; rwa [List.length_reverse, sgs_len] at this
    obtain ⟨hi, st⟩ := st
    have e : (l.length : Int) - 1 - (i : Int) = -1 := by omega
    rw [e] at st
    exact pyNext_rev_end (I.ok.hd hc) st fun h' eb => ⟨rfl, I.turned (t' := s.toks) (fun b o hb e => eb b o hb e) f0 f1 f3 f4 f5⟩
  self := fun _ _ _ _ _ st h => pyIter_rev st.2 h
section
variable {X : Cx} {tg : Expr}
def iStr (tl : TE) : TI := fun σ H R => tl σ H fun x H1 => ∃ l, x = .str (S l) ∧ R (Itx (sgs l)) H1
theorem pi_str {l : Expr} {tl : TE} (hl : PE X l tl) : PI X tg l (iStr tl) := by
  intro pins s σ H R I h
  refine thn (hl pins s σ H _ I h) fun v s1 ⟨x, H1, I1, r1, q1⟩ => ?_
  obtain ⟨l, rfl, q⟩ := q1
  obtain ⟨t, rfl⟩ := r1
  refine wpAny_pyIter_strU ?_
  refine ⟨s1.heap.objs.size, [s1.heap.objs.size], _, _, H1, rfl, I1.kept (t' := s1.toks) fun b o e => Heap.get?_push_of_some _ e, turn_str _ l t, ⟨_, Heap.get?_push_size _ rfl, rfl, rfl⟩, fun b hb => ?_, q⟩
  have e : b = s1.heap.objs.size := by simpa using hb
  subst e
  exact I1.fpOk (Nat.le_refl _) (I1.hok.fresh (Nat.le_refl _))
def iRev (ta : TA) : TI := fun σ H R => ta σ H fun vs H1 => ∃ l, vs = [.str (S l)] ∧ l.length ≤ sizeLine ∧ R (Itx (sgs l).reverse) H1
theorem pi_rev {a : Expr} {ta : TA} {p pos : Pos} (hg : Gl X "reversed") (hm : X.mg "reversed" = none) (ha : PA X [a] ta) (hs : starEach [a] X.env = [(false, eval a X.env)] := by rfl) : PI X tg (.Call (.Name "reversed" p) [a] [] pos) (iRev ta) := by
  intro pins s σ H R I h
  refine Call_ (ld_blt I hg hm boot_reversed (PyProof.Rows.callWith_type1 (thn (ha pos pins s σ H _ I h) fun us s1 ⟨vs, H1, I1, r1, q1⟩ => ?_) hs rfl))
  obtain ⟨l, rfl, hz, q⟩ := q1
  obtain ⟨u, rfl, t, rfl⟩ := vals1 r1
  refine call_reversedS (by rw [S_len]; exact hz) fun tk => ?_
  have hit : IsRevS (s1.heap.push { cls := .type "reversed", data := .fields #[.str (S l) t, rawInt (((S l).length : Int) - 1)] }) s1.heap.objs.size (S l) t (((S l).length : Int) - 1) := ⟨_, Heap.get?_push_size _ rfl, rfl, rfl⟩
  refine pyIter_rev hit ?_
  refine ⟨s1.heap.objs.size, [s1.heap.objs.size], _, _, H1, rfl, I1.kept (t' := tk) fun b o e => Heap.get?_push_of_some _ e, turn_rev _ l t hz, ⟨Nat.zero_le _, ?_⟩, fun b hb => ?_, q⟩
  · have e : (l.length : Int) - 1 - ((0 : Nat) : Int) = ((S l).length : Int) - 1 := by rw [S_len]; simp
    rw [e]
    exact hit
  · have e : b = s1.heap.objs.size := by simpa using hb
    subst e
    exact I1.fpOk (Nat.le_refl _) (I1.hok.fresh (Nat.le_refl _))
end
/-! ### loops and comprehensions over fixed items -/
theorem for_fix {xs : List V} {g : TG} {tb : TS} {D : Ends} {σ : St} {H : Hp} (Pv : Nat → St → Hp → Prop) (h0 : Pv 0 σ H)
    (hs : ∀ i x σ H, xs[i]? = some x → Pv i σ H → g x σ H fun σ2 H2 => tb { D with nx := Pv (i + 1), ct := Pv (i + 1), bk := D.nx } σ2 H2) (hd : ∀ σ H, Pv xs.length σ H → D.nx σ H) :
    ∃ W : Nat → Nat → St → Hp → Prop, (∃ m, W 0 m σ H) ∧ ∀ i m σ H, W i m σ H →
      ((Itx xs).stop i H ∧ D.nx σ H) ∨ ((Itx xs).go i H ∧ ∃ N : St → Hp → Prop, (∀ σ' H', N σ' H' → ∃ m', m' < m ∧ W (i + 1) m' σ' H') ∧ ∀ x H', (Itx xs).yld i H x H' → g x σ H' fun σ2 H2 => tb { D with nx := N, ct := N, bk := D.nx } σ2 H2) := by
  refine ⟨fun i m σ H => m = xs.length - i ∧ i ≤ xs.length ∧ Pv i σ H, ⟨xs.length, by simp, Nat.zero_le _, h0⟩, ?_⟩
  rintro i m σ H ⟨rfl, hi, p⟩
  by_cases hlt : i < xs.length
  · refine .inr ⟨hlt, Pv (i + 1), fun σ' H' p' => ⟨xs.length - (i + 1), by omega, rfl, hlt, p'⟩, fun x H' y => ?_⟩
    obtain ⟨e, y⟩ := y
    subst e
    exact hs i x σ _ y p
  · have e : i = xs.length := by omega
    subst e
    exact .inl ⟨Nat.le_refl _, hd σ H p⟩
theorem comp_by {J : It} {n : Nat} {xs : Nat → V → Prop} {σc : St} {g : TG} {tc : TT} {te : TE} {Q : VK} {H1 : Hp} (Pv : Nat → List V → Hp → Prop) (hn : n < sizeLine) (hgo : ∀ i acc H, i < n → Pv i acc H → J.go i H) (hstop : ∀ acc H, Pv n acc H → J.stop n H)
    (hy : ∀ i acc H x H', i < n → Pv i acc H → J.yld i H x H' → H' = H ∧ xs i x) (h0 : Pv 0 [] H1)
    (hs : ∀ (i : Nat) (x : V) (acc : List V) (H : Hp) (Nx : List V → Hp → Prop), i < n → xs i x → acc.length ≤ i → Pv i acc H → (∀ acc' H', acc'.length ≤ i + 1 → Pv (i + 1) acc' H' → Nx acc' H') →
      g x σc H fun σ2 H2 => Wk σc σ2 ∧ tc σ2 H2 fun b H3 => if b = true then te σ2 H3 fun v H4 => Nx (acc ++ [v]) H4 else Nx acc H3)
    (hd : ∀ acc H D, acc.length ≤ n → Pv n acc H → H D = none → Q (.ref D) (upd H D (.lst acc))) : CompW J σc g tc te Q H1 := by
  refine ⟨fun i m acc H => m = n - i ∧ i ≤ n ∧ acc.length ≤ i ∧ Pv i acc H, ⟨n, by simp, Nat.zero_le _, Nat.le_refl _, h0⟩, ?_⟩
  rintro i m acc H ⟨rfl, hi, hl, p⟩
  refine ⟨by omega, ?_⟩
  by_cases hlt : i < n
  · refine .inr ⟨hgo i acc H hlt p, fun x H' y => ?_⟩
    obtain ⟨rfl, y2⟩ := hy i acc H x H' hlt p y
    exact hs i x acc _ (fun acc' H' => ∃ m', m' < n - i ∧ (m' = n - (i + 1) ∧ i + 1 ≤ n ∧ acc'.length ≤ i + 1 ∧ Pv (i + 1) acc' H')) hlt y2 hl p fun acc' H' h1 h2 => ⟨n - (i + 1), by omega, rfl, hlt, h1, h2⟩
  · have e : i = n := by omega
    subst e
    exact .inl ⟨hstop acc H p, fun D hD => hd acc H D hl p hD⟩
theorem comp_fix {xs : List V} {σc : St} {g : TG} {tc : TT} {te : TE} {Q : VK} {H1 : Hp} (Pv : Nat → List V → Hp → Prop) (hn : xs.length < sizeLine) (h0 : Pv 0 [] H1)
    (hs : ∀ (i : Nat) (x : V) (acc : List V) (H : Hp) (Nx : List V → Hp → Prop), i < xs.length → xs[i]? = some x → acc.length ≤ i → Pv i acc H → (∀ acc' H', acc'.length ≤ i + 1 → Pv (i + 1) acc' H' → Nx acc' H') →
      g x σc H fun σ2 H2 => Wk σc σ2 ∧ tc σ2 H2 fun b H3 => if b = true then te σ2 H3 fun v H4 => Nx (acc ++ [v]) H4 else Nx acc H3)
    (hd : ∀ acc H D, acc.length ≤ xs.length → Pv xs.length acc H → H D = none → Q (.ref D) (upd H D (.lst acc))) : CompW (Itx xs) σc g tc te Q H1 :=
  comp_by (xs := fun i x => xs[i]? = some x) Pv hn (fun i _ _ h _ => h) (fun _ _ _ => Nat.le_refl _) (fun i _ H x H' _ _ y => y) h0 hs hd
theorem comp_rng {lo : Int} {n : Nat} {σc : St} {g : TG} {tc : TT} {te : TE} {Q : VK} {H1 : Hp} (Pv : Nat → List V → Hp → Prop) (hn : n < sizeLine) (h0 : Pv 0 [] H1)
    (hs : ∀ (i : Nat) (acc : List V) (H : Hp) (Nx : List V → Hp → Prop), i < n → acc.length ≤ i → Pv i acc H → (∀ acc' H', acc'.length ≤ i + 1 → Pv (i + 1) acc' H' → Nx acc' H') →
      g (.int (lo + i)) σc H fun σ2 H2 => Wk σc σ2 ∧ tc σ2 H2 fun b H3 => if b = true then te σ2 H3 fun v H4 => Nx (acc ++ [v]) H4 else Nx acc H3)
    (hd : ∀ acc H D, acc.length ≤ n → Pv n acc H → H D = none → Q (.ref D) (upd H D (.lst acc))) : CompW (Itr lo n) σc g tc te Q H1 :=
  comp_by (xs := fun i x => x = .int (lo + i)) Pv hn (fun i _ _ h _ => h) (fun _ _ _ => Nat.le_refl _) (fun i _ H x H' _ _ y => y) h0 (fun i x acc H Nx h1 h2 => by subst h2; exact hs i acc H Nx h1) hd
theorem comp_list {K : PySem.W.Frag} {a : Addr} {xs : List V} {σc : St} {g : TG} {tc : TT} {te : TE} {Q : VK} {H1 : Hp} (Pv : Nat → List V → Hp → Prop) (hn : xs.length < sizeLine) (hl : ∀ i acc H, Pv i acc H → SqL K H a xs) (h0 : Pv 0 [] H1)
    (hs : ∀ (i : Nat) (x : V) (acc : List V) (H : Hp) (Nx : List V → Hp → Prop), i < xs.length → xs[i]? = some x → acc.length ≤ i → Pv i acc H → (∀ acc' H', acc'.length ≤ i + 1 → Pv (i + 1) acc' H' → Nx acc' H') →
      g x σc H fun σ2 H2 => Wk σc σ2 ∧ tc σ2 H2 fun b H3 => if b = true then te σ2 H3 fun v H4 => Nx (acc ++ [v]) H4 else Nx acc H3)
    (hd : ∀ acc H D, acc.length ≤ xs.length → Pv xs.length acc H → H D = none → Q (.ref D) (upd H D (.lst acc))) : CompW (Itl K a) σc g tc te Q H1 :=
  comp_by (xs := fun i x => xs[i]? = some x) Pv hn (fun i acc H h p => ⟨xs, xs[i], hl i acc H p, by simp [h]⟩) (fun acc H p => ⟨xs, hl _ acc H p, Nat.le_refl _⟩) (fun i acc H x H' h p y => ⟨y.1, y.2 xs (hl i acc H p)⟩) h0 hs hd

/-! ### while, its measure within the word -/
def tWhileN (c : TT) (tb : TS) : TS := fun D σ H => ∃ W : Nat → St → Hp → Prop, (∃ m, W m σ H) ∧ ∀ m σ H, W m σ H →
  c σ H fun b H1 => if b = true then tb { D with nx := fun σ' H' => ∃ m', m' < m ∧ W m' σ' H', ct := fun σ' H' => ∃ m', m' < m ∧ W m' σ' H', bk := D.nx } σ H1 else D.nx σ H1
theorem ps_whileN {X : Cx} {c : Expr} {body : List Stmt} {tc : TT} {tb : TS} {pos : Pos} (hp : PassesOwn (model X.prog X.w) X.A X.env X.xe) (hc : PT X c tc) (hb : PSs X body tb) : PS X (.While c body [] pos) (tWhileN tc tb) := by
  intro pins s σ H D I h
  obtain ⟨W, ⟨m0, w0⟩, turn⟩ := h
  refine wpAny_While (codeAny_whileLoop (fun n s' => ∃ σ' H', Inv X pins σ' H' s' ∧ W n σ' H') ?_ m0 ⟨σ, H, I, w0⟩)
  rintro n s1 ⟨σ1, H1, I1, w1⟩
  refine wpAny_passesOwn hp (thn (hc pins s1 σ1 H1 _ I1 (turn n σ1 H1 w1)) fun b s2 ⟨H2, I2, q2⟩ => ?_)
  cases b with
  | true =>
    rw [if_pos rfl] at q2 ⊢
    refine wpAny_passesOwn hp (thn (hb pins s2 σ1 H2 _ I2 q2) fun f s3 q3 => ?_)
    cases f with
    | next =>
      obtain ⟨σ3, H3, I3, m', hm, w3⟩ := q3
      exact ⟨m', hm, σ3, H3, I3, w3⟩
    | cont =>
      obtain ⟨σ3, H3, I3, m', hm, w3⟩ := q3
      exact ⟨m', hm, σ3, H3, I3, w3⟩
    | brk => exact q3
    | ret v => exact q3
  | false =>
    rw [if_neg Bool.false_ne_true] at q2 ⊢
    exact wpAny_execs_nil ⟨σ1, H2, I2, q2⟩

/-! ### the comprehension's rule with its checks reckoned -/
def compOk (X : Cx) (scope : Scope) : Bool := (scope.names.all fun y => y.2 != .cell) && (scope.kind == .function) && (scope.names.all fun y => y.2 != .free || X.env.kindOf y.1 == some .cell || X.env.kindOf y.1 == some .free) && (scope.names.all fun y => y.2 != .local || scope.names.lookup y.1 == some .local)
theorem compOk_parts {X : Cx} {scope : Scope} (h : compOk X scope = true) : (∀ y ∈ scope.names, y.2 ≠ .cell) ∧ scope.kind = .function ∧ (∀ y ∈ scope.names, y.2 = .free → X.env.kindOf y.1 = some .cell ∨ X.env.kindOf y.1 = some .free) ∧ (∀ x ∈ scope.names, x.2 = .local → scope.names.lookup x.1 = some .local) := by
  unfold compOk at h
  simp only [Bool.and_eq_true] at h
  obtain ⟨⟨⟨h1, h2⟩, h3⟩, h4⟩ := h
  refine ⟨fun y hy e => ?_, by simpa using h2, fun y hy e => ?_, fun y hy e => ?_⟩
  · have := List.all_eq_true.mp h1 y hy
    rw [e] at this; simp at this
  · have := List.all_eq_true.mp h3 y hy
    rw [e] at this
    simpa using this
  · have := List.all_eq_true.mp h4 y hy
    rw [e] at this
    simpa using this
theorem pe_compB {X : Cx} {tg iter elt : Expr} {ifs : List Expr} {scope : Scope} {pos : Pos} {wi : TI} {g : TG} {tc : TT} {te : TE} (Nc : List Str) (ix : List (Option Nat)) (hi : PI X tg iter wi) (hix : IxOk X scope Nc ix)
    (hG : ∀ C s H fp, PG (cxComp X scope C Nc s H fp) tg g) (hT : ∀ C s H fp, PF (cxComp X scope C Nc s H fp) ifs tc) (hE : ∀ C s H fp, PE (cxComp X scope C Nc s H fp) elt te) (hok : compOk X scope = true := by rfl) (hcalm : X.calm = true := by rfl)
    (hs : ∀ x, foldedSetIterable iter X.env x = pure x := by intro _; rfl) : PE X (.ListComp elt [⟨tg, iter, ifs, 0⟩] scope pos) (tComp wi ix g tc te) :=
  let ⟨h1, h2, h3, h4⟩ := compOk_parts hok
  pe_comp Nc ix hi hcalm hix h1 h2 h3 h4 hG hT hE hs
theorem ps_setCB {X : Cx} {i : Nat} {x : Str} {tg iter elt : Expr} {ifs : List Expr} {scope : Scope} {pos spos pos' : Pos} {wi : TI} {g : TG} {tc : TT} {te : TE} (Nc : List Str) (ix : List (Option Nat)) (hN : X.N.Nodup) (hxi : X.N[i]? = some x) (hx : Loc X.env.scope x)
    (hi : PI X tg iter wi) (hix : IxOk X scope Nc ix)
    (hG : ∀ C s H fp, PG (cxComp X scope C Nc s H fp) tg g) (hT : ∀ C s H fp, PF (cxComp X scope C Nc s H fp) ifs tc) (hE : ∀ C s H fp, PE (cxComp X scope C Nc s H fp) elt te)
    (hsw : swapsWith (.ListComp elt [⟨tg, iter, ifs, 0⟩] scope pos) (some (.Name x pos')) spos.line X.env = pure true := by rfl) (hok : compOk X scope = true := by rfl) (hcalm : X.calm = true := by rfl)
    (hs : ∀ x, foldedSetIterable iter X.env x = pure x := by intro _; rfl) (hf : X.fn x = true ∨ X.env.scope.names.lookup x = some .local := by first | exact .inl rfl | exact .inr rfl | assumption) :
    PS X (.Assign [.Name x pos'] (.ListComp elt [⟨tg, iter, ifs, 0⟩] scope pos) spos) (tAsg (tComp wi ix g tc te) (gName i)) :=
  let ⟨h1, h2, h3, h4⟩ := compOk_parts hok
  ps_setC Nc ix hN hxi hx hsw hi hcalm hix h1 h2 h3 h4 hG hT hE hs hf

/-! ### comparisons of ints, of texts -/
section
variable {X : Cx}
def rEqS : R2 := fun x y H Q => ∃ a b, x = .str (S a) ∧ y = .str (S b) ∧ Q (.bl (decide (a = b))) H
theorem op_eqS : OpR X (compareOp .Eq) rEqS := by
  intro pins s σ H x y v u Q I rx ry h
  obtain ⟨a, b, rfl, rfl, q⟩ := h
  exact op_eq pins s σ H _ _ v u Q I rx ry ⟨rfl, by rw [dec_S]; exact q⟩
theorem dec_I {i j : Int} : decide (V.int i = V.int j) = decide (i = j) := by
  by_cases h : i = j
  · subst h; simp
  · rw [decide_eq_false h, decide_eq_false]
    intro q
    exact h (V.int.inj q)
theorem dec_B {i j : Bool} : decide (V.bl i = V.bl j) = decide (i = j) := by
  by_cases h : i = j
  · subst h; simp
  · rw [decide_eq_false h, decide_eq_false]
    intro q
    exact h (V.bl.inj q)
theorem op_eqI : OpR X (compareOp .Eq) (rI0 fun i j => .bl (decide (i = j))) := by
  intro pins s σ H x y v u Q I rx ry h
  obtain ⟨a, b, rfl, rfl, q⟩ := h
  exact op_eq pins s σ H _ _ v u Q I rx ry ⟨rfl, by rw [dec_I]; exact q⟩
def rB0 (g : Bool → Bool → V) : R2 := fun x y H Q => ∃ i j, x = .bl i ∧ y = .bl j ∧ Q (g i j) H
theorem op_neB : OpR X (compareOp .NotEq) (rB0 fun i j => .bl (!decide (i = j))) := by
  intro pins s σ H x y v u Q I rx ry h
  obtain ⟨a, b, rfl, rfl, q⟩ := h
  exact op_ne pins s σ H _ _ v u Q I rx ry ⟨rfl, by rw [dec_B]; exact q⟩
end
end L2
namespace L2
open PySem PySem.Spec PyProof.Rows
/-! ### the rules with the text's written part named -/
section
variable {X : Cx} {tg : Expr}
theorem ix_listK (K : PySem.W.Frag) (h : X.K = K) : IxR X (rIxL K) := by subst h; exact ix_list
theorem ix_tupK (K : PySem.W.Frag) (h : X.K = K) : IxR X (rIxT K) := by subst h; exact ix_tup
def rLenL (K : PySem.W.Frag) : List V → Hp → VK → Prop := fun xs H Q => ∃ p ys, xs = [.ref p] ∧ (SqL K H p ys ∨ SqT K H p ys) ∧ Q (.int ys.length) H
theorem call_len_seqK (K : PySem.W.Frag) (h : X.K = K) : CallR X (.builtin "len") (rLenL K) := by subst h; exact call_len_seq
theorem mt_joinK (K : PySem.W.Frag) (h : X.K = K) : MtR X "str.join" (rJoinS K) := by subst h; exact mt_joinS
theorem sl_listK (K : PySem.W.Frag) (h : X.K = K) : SlR X (rSlL K) := by subst h; exact sl_list
theorem pi_listK (K : PySem.W.Frag) (h : X.K = K) {l : Expr} {tl : TE} (hl : PE X l tl) : PI X tg l (iList K tl) := by subst h; exact pi_list hl
theorem pi_tupK (K : PySem.W.Frag) (h : X.K = K) {l : Expr} {tl : TE} (hl : PE X l tl) : PI X tg l (iTup K tl) := by subst h; exact pi_tup hl
end
section
variable {X : Cx} {o e : Expr} {es : List Expr} {to : TE} {t : TA} {name : Str} {apos cpos : Pos} {T id : String} {r : V → List V → Hp → VK → Prop}
theorem pe_bm0K (K : PySem.W.Frag) (hK : X.K = K) (pa : PlainAttrs T) (slot : Slot T name id) (hty : typeOf (.builtin id) = pure (.type "method_descriptor")) (hm : MtR X id r) (ho : PE X o to)
    (hbase : attributeBase o name X.env (eval o X.env) = eval o X.env := by rfl) (hline : (apos.endLine == cpos.line) = true := by rfl) : PE X (.Call (.Attribute o name apos) [] [] cpos) (tBM0 K T r to) := by
  subst hK
  exact pe_bm0 pa slot hty hm ho hbase hline
theorem pe_bmK (K : PySem.W.Frag) (hK : X.K = K) (pa : PlainAttrs T) (slot : Slot T name id) (hty : typeOf (.builtin id) = pure (.type "method_descriptor")) (hm : MtR X id r) (ho : PE X o to) (ha : PA X (e :: es) t)
    (hbase : attributeBase o name X.env (eval o X.env) = eval o X.env := by rfl)
    (hfew : ((backTo cpos (starEach (e :: es) X.env)).all (fun x => !x.1) && (backToKw cpos (keywordEach [] X.env)).all (fun x => x.1.isSome)
      && decide ((e :: es).length + ([] : List Keyword).length + (if ([] : List Keyword).isEmpty then 0 else 1) < 30)) = true := by rfl)
    (hline : (apos.endLine == cpos.line) = true := by rfl) (hs : starEach (e :: es) X.env = (false, eval e X.env) :: starEach es X.env := by rfl) (hplain : (backTo cpos (starEach es X.env)).any (·.1) = false := by rfl) :
    PE X (.Call (.Attribute o name apos) (e :: es) [] cpos) (tBM K T r to t) := by
  subst hK
  exact pe_bm pa slot hty hm ho ha hbase hfew hline hs hplain
end
end L2
namespace L2
open PySem PySem.Spec PyProof.Rows
/-! ### nested data -/
mutual
inductive RdD (K : PySem.W.Frag) (H : Hp) : V → PyData → Prop
  | non : RdD K H .non .none
  | bl (b : Bool) : RdD K H (.bl b) (.bool b)
  | int (i : Int) : RdD K H (.int i) (.int i)
  | str (x : Str) : RdD K H (.str x) (.str x)
  | lst {a : Addr} {xs : List V} {ds : List PyData} (h : SqL K H a xs) (r : RdDs K H xs ds) : RdD K H (.ref a) (.list ds)
  | tup {a : Addr} {xs : List V} {ds : List PyData} (h : SqT K H a xs) (r : RdDs K H xs ds) : RdD K H (.ref a) (.tuple ds)
inductive RdDs (K : PySem.W.Frag) (H : Hp) : List V → List PyData → Prop
  | nil : RdDs K H [] []
  | cons {x : V} {xs : List V} {d : PyData} {ds : List PyData} (h : RdD K H x d) (r : RdDs K H xs ds) : RdDs K H (x :: xs) (d :: ds)
end
section
variable {X : Cx} {pins : List (Addr × Obj)} {σ : St} {H : Hp} {s : Shared}
mutual
theorem RdD.reads (I : Inv X pins σ H s) : ∀ {x : V} {d : PyData} {u : Value}, RdD X.K H x d → RelV x u → ∃ as, Reads s.heap u d as
  | _, _, u, .non, r => by cases (show u = Value.none from r); exact ⟨_, .none⟩
  | _, _, u, .bl b, r => by cases (show u = Value.bool b from r); exact ⟨_, .bool b⟩
  | _, _, u, .int i, r => by obtain ⟨t, rfl⟩ := r; exact ⟨_, .int i t⟩
  | _, _, u, .str x, r => by obtain ⟨t, rfl⟩ := r; exact ⟨_, .str x t⟩
  | _, _, u, .lst (a := a) h q, r => by
    cases (show u = Value.ref a from r)
    obtain ⟨its, rv, pl, _⟩ := I.list h
    obtain ⟨as, ra⟩ := RdDs.reads I q rv
    obtain ⟨o, ho, hc, n, hd⟩ := pl.isList
    exact ⟨_, .list ho hc hd (by simpa using ra)⟩
  | _, _, u, .tup (a := a) h q, r => by
    cases (show u = Value.ref a from r)
    obtain ⟨its, rv, pl, _⟩ := I.tuple h
    obtain ⟨as, ra⟩ := RdDs.reads I q rv
    obtain ⟨o, ho, hc, n, hd⟩ := pl
    exact ⟨_, .tuple ho hc hd (by simpa using ra)⟩
theorem RdDs.reads (I : Inv X pins σ H s) : ∀ {xs : List V} {ds : List PyData} {us : List Value}, RdDs X.K H xs ds → Vals xs us → ∃ as, ReadsAll s.heap us ds as
  | _, _, us, .nil, r => by cases r; exact ⟨_, .nil⟩
  | _, _, us, .cons h q, r => by
    cases r with
    | cons r1 r2 =>
      obtain ⟨as, ra⟩ := RdD.reads I h r1
      obtain ⟨bs, rb⟩ := RdDs.reads I q r2
      exact ⟨_, .cons ra rb⟩
end
mutual
theorem RdD.noDict {K : PySem.W.Frag} : ∀ {x : V} {d : PyData}, RdD K H x d → d.hasDict = false
  | _, _, .non => rfl
  | _, _, .bl b => rfl
  | _, _, .int i => rfl
  | _, _, .str x => rfl
  | _, _, .lst h q => by show PyData.hasDictAll _ = false; exact RdDs.noDict q
  | _, _, .tup h q => by show PyData.hasDictAll _ = false; exact RdDs.noDict q
theorem RdDs.noDict {K : PySem.W.Frag} : ∀ {xs : List V} {ds : List PyData}, RdDs K H xs ds → PyData.hasDictAll ds = false
  | _, _, .nil => rfl
  | _, _, .cons h q => by
    show (PyData.hasDict _ || PyData.hasDictAll _) = false
    rw [RdD.noDict h, RdDs.noDict q]; rfl
end
end
section
variable {X : Cx}
def rNeD (K : PySem.W.Frag) : R2 := fun x y H Q => ∃ dx dy, RdD K H x dx ∧ RdD K H y dy ∧ (dx.canLay0 = true ∧ dy.canLay0 = true) ∧ dx.depth ≤ 60 ∧ Q (.bl (!PyData.eqv dx dy)) H
theorem op_neD {k : Nat} (K : PySem.W.Frag) (h : X.K = K) (hr : Room k X.A) : OpR X (compareOp .NotEq) (rNeD K) := by
  subst h
  intro pins s σ H x y v u Q I rx ry h
  obtain ⟨dx, dy, h1, h2, ⟨h3, h4⟩, h5, q⟩ := h
  obtain ⟨as, ra⟩ := h1.reads I rx
  obtain ⟨bs, rb⟩ := h2.reads I ry
  have hu := hr.units
  exact SeqAt.compareNe_reads ra rb h3 h4 (by omega) ⟨.bl _, H, I, rfl, q⟩
/-- the truth of a list -/
def tTruL (K : PySem.W.Frag) (ta : TE) : TT := fun σ H Q => ta σ H fun x H' => ∃ p xs, x = .ref p ∧ SqL K H' p xs ∧ Q (!xs.isEmpty) H'
theorem pt_truL {a : Expr} {ta : TE} (K : PySem.W.Frag) (h : X.K = K) (ha : PE X a ta) (he : ∀ whole, isTrue a X.env whole = (do let v ← whole; standAt a.pos; holding [v] (truthy v)) := by intro _; rfl) : PT X a (tTruL K ta) := by
  subst h
  intro pins s σ H Q I hw
  refine isTrue_plain (thn (ha pins s σ H _ I hw) fun v s1 ⟨x, H1, I1, r1, q1⟩ => ?_) (he _)
  obtain ⟨p, xs, rfl, hq, q⟩ := q1
  exact tru_ok pins s1 σ H1 _ v Q I1 r1 ⟨_, .inl ⟨xs, hq, rfl⟩, q⟩
/-- a, b = .. -/
theorem pg_tupK (K : PySem.W.Frag) (h : X.K = K) {es : List Expr} {k : Nat} {t : TGs} {n : Nat} {pos : Pos} (hc : X.calm = true) (hs : PGs X es t)
    (hn : (assignEach es X.env).length = n := by rfl) (hst : (assignEach es X.env).findIdx? (·.1) = none := by rfl) : PG X (.Tuple es k pos) (gTup K n t) := by
  subst h
  exact pg_tup hc hs hn hst
end
end L2
namespace L2
open PySem PySem.Spec PyProof.Rows
/-! ### the least of some texts -/
def lesser (a b : List Nat) : List Nat := if b < a then b else a
def leastOf : List Nat → List (List Nat) → List Nat
  | a, [] => a
  | a, b :: r => leastOf (lesser a b) r
section
variable {X : Cx}
end
end L2
namespace L2
open PySem PySem.Spec PyProof.Rows
section
variable {X : Cx}
theorem op_inK (K : PySem.W.Frag) (h : X.K = K) : OpR X (compareOp .In) (rIn K false) := by subst h; exact op_in_seq
/-! ### small data, and their texts -/
/-- of depth at most k, of weight at most n -/
structure SmD (k n : Nat) (d : PyData) : Prop where
  lv : d.leavesShort 13 = true
  sh : d.showable = true
  ly : d.canLay0 = true
  dp : d.depth ≤ k
  wt : d.weight ≤ n
structure SmDs (k n : Nat) (ds : List PyData) : Prop where
  lv : PyData.leavesShortAll 13 ds = true
  sh : PyData.showableAll ds = true
  ly : PyData.canLayAll0 ds = true
  dp : PyData.depthAll ds ≤ k
  wt : PyData.weightAll ds ≤ n
theorem SmD.str {k n : Nat} {l : List Nat} (h : ∀ c ∈ l, c < 128) (hn : l.length ≤ n) : SmD k n (.str (S l)) := by
  refine ⟨?_, rfl, ?_, Nat.zero_le _, by show (S l).cps.size ≤ n; rw [S_size]; exact hn⟩
  · show ((S l).cps.toList.all fun c => decide (c < 16 ^ 8)) = true
    rw [S_list, List.all_eq_true]
    intro c hc
    have := h c hc
    exact decide_eq_true (by omega)
  · show PyData.strOk (S l) = true
    unfold PyData.strOk
    rw [Array.all_eq_true_iff_forall_mem]
    intro c hc
    have : c ∈ l := by simpa [S] using hc
    have := h c this
    simp; omega
theorem SmD.bl {k n : Nat} (b : Bool) : SmD k n (.bool b) := ⟨rfl, rfl, rfl, Nat.zero_le _, Nat.zero_le _⟩
theorem SmD.non {k n : Nat} : SmD k n .none := ⟨rfl, rfl, rfl, Nat.zero_le _, Nat.zero_le _⟩
theorem SmD.int {k n : Nat} {i : Int} (h : i.natAbs < 10 ^ 12) (hn : 40 ≤ n) : SmD k n (.int i) := by
  have hl : i.natAbs.log2 < 40 := by
    by_cases z : i.natAbs = 0
    · rw [z]; decide
    · rw [Nat.log2_lt z]
      exact Nat.lt_trans h (by decide)
  refine ⟨?_, ?_, rfl, Nat.zero_le _, ?_⟩
  · show decide ((PyData.shown (.int i)).length ≤ 13) = true
    exact decide_eq_true (PyData.shown_int_le h)
  · show decide (i.natAbs.log2 < 1920) = true
    exact decide_eq_true (by omega)
  · show (if i == 0 then 0 else i.natAbs.log2 + 1) ≤ n
    split <;> omega
theorem SmDs.nil {k n : Nat} : SmDs k n [] := ⟨rfl, rfl, rfl, Nat.zero_le _, Nat.zero_le _⟩
theorem SmDs.cons {k a b n : Nat} {x : PyData} {xs : List PyData} (h : SmD k a x) (t : SmDs k b xs) (hn : a + 1 + b ≤ n) : SmDs k n (x :: xs) := by
  refine ⟨?_, ?_, ?_, ?_, ?_⟩
  · show (PyData.leavesShort 13 x && PyData.leavesShortAll 13 xs) = true; rw [h.lv, t.lv]; rfl
  · show (PyData.showable x && PyData.showableAll xs) = true; rw [h.sh, t.sh]; rfl
  · show (PyData.canLay0 x && PyData.canLayAll0 xs) = true; rw [h.ly, t.ly]; rfl
  · show max (PyData.depth x) (PyData.depthAll xs) ≤ k; exact Nat.max_le.mpr ⟨h.dp, t.dp⟩
  · show PyData.weight x + 1 + PyData.weightAll xs ≤ n
    have := h.wt; have := t.wt; omega
theorem SmDs.all {k a : Nat} : ∀ {xs : List PyData} {n : Nat}, (∀ x ∈ xs, SmD k a x) → (a + 1) * xs.length ≤ n → SmDs k n xs
  | [], _, _, _ => .nil
  | x :: xs, n, h, hn => .cons (b := (a + 1) * xs.length) (h x List.mem_cons_self) (SmDs.all (fun y hy => h y (List.mem_cons_of_mem _ hy)) (Nat.le_refl _)) (by rw [List.length_cons, Nat.mul_succ] at hn; omega)
theorem SmD.lst {k n : Nat} {ds : List PyData} (h : SmDs k n ds) : SmD (k + 1) n (.list ds) := ⟨h.lv, h.sh, h.ly, Nat.succ_le_succ h.dp, h.wt⟩
theorem SmD.tup {k n : Nat} {ds : List PyData} (h : SmDs k n ds) : SmD (k + 1) n (.tuple ds) := ⟨h.lv, h.sh, h.ly, Nat.succ_le_succ h.dp, h.wt⟩
end
end L2
namespace L2
open PySem PySem.Spec PyProof.Rows
/-! ### a text so many times -/
def reps (n : Nat) (l : List Nat) : List Nat := (List.replicate n l).flatten
theorem reps_succ (n : Nat) (l : List Nat) : reps (n + 1) l = l ++ reps n l := by unfold reps; rw [List.replicate_succ, List.flatten_cons]
theorem reps_len (n : Nat) (l : List Nat) : (reps n l).length = n * l.length := by
  induction n with
  | zero => simp [reps]
  | succ n ih => rw [reps_succ, List.length_append, ih, Nat.succ_mul, Nat.add_comm]
theorem reps_fold (l : List Nat) : ∀ (n : Nat) (acc : Array Nat), ((List.replicate n (S l).cps).foldl (· ++ ·) acc).toList = acc.toList ++ reps n l
  | 0, acc => by simp [reps]
  | n + 1, acc => by
    rw [List.replicate_succ, List.foldl_cons, reps_fold l n, reps_succ]
    simp [S]
def rMulS : R2 := fun x y H Q => ∃ (l : List Nat) (i : Int), x = .str (S l) ∧ y = .int i ∧ (0 ≤ i ∧ i ≤ 1000000) ∧ l.length * i.toNat ≤ sizeLine ∧ Q (.str (S (reps i.toNat l))) H
theorem op_mulS {X : Cx} : OpR X (binaryOp .Mult) rMulS := by
  intro pins s σ H x y v u Q I rx ry h
  obtain ⟨l, i, rfl, rfl, ⟨h0, h1⟩, hz, q⟩ := h
  obtain ⟨t, rfl⟩ := rx
  obtain ⟨t', rfl⟩ := ry
  have hn := line63
  have hln : (S l).length = l.length := S_len l
  have hbig : (l.length : Int) * i ≤ 2 ^ 63 - 1 := by
    have e : ((l.length * i.toNat : Nat) : Int) = (l.length : Int) * i := by rw [Int.natCast_mul, Int.toNat_of_nonneg h0]
    have : ((l.length * i.toNat : Nat) : Int) ≤ (sizeLine : Int) := by exact_mod_cast hz
    rw [← e]; omega
  refine P.mul_str (x := S l) (n := i) (t := t) (u := t') (by
    have e1 : decide (i < -(2 ^ 63 : Int)) = false := decide_eq_false (by omega)
    have e2 : decide (i ≥ 2 ^ 63) = false := decide_eq_false (by omega)
    rw [e1, e2]; rfl) (fun z _ => ?_) (fun z _ => ?_) ?_
  · rw [hln]
    have : (l.length : Int) ≤ (2 ^ 63 - 1) / i := (Int.le_ediv_iff_mul_le (by omega)).mpr hbig
    omega
  · rw [hln]
    show Builtin.Str.tooLong _ = false
    unfold Builtin.Str.tooLong
    exact decide_eq_false (by omega)
  · by_cases z : i < 1
    · rw [if_pos z]
      have e : i.toNat = 0 := by omega
      rw [e] at q
      exact ⟨by decide, .str _, H, I.tok _, ⟨_, rfl⟩, q⟩
    · rw [if_neg z]
      by_cases z2 : (i == 1 || (S l).length == 0) = true
      · rw [if_pos z2]
        have e : reps i.toNat l = l := by
          rcases Bool.or_eq_true _ _ |>.mp z2 with e | e
          · have e : i = 1 := by simpa using e
            subst e
            show reps 1 l = l
            rw [reps_succ]; simp [reps]
          · have e : l.length = 0 := by rw [hln] at e; simpa using e
            have e : l = [] := List.length_eq_zero_iff.mp e
            subst e
            unfold reps
            simp
        rw [e] at q
        exact ⟨.str _, H, I, ⟨_, rfl⟩, q⟩
      · rw [if_neg z2]
        have e : (⟨(List.replicate i.toNat (S l).cps).foldl (· ++ ·) #[]⟩ : Str) = S (reps i.toNat l) := by
          have := reps_fold l i.toNat #[]
          show _ = (⟨(reps i.toNat l).toArray⟩ : Str)
          congr 1
          apply Array.toList_inj.mp
          rw [this]
          simp
        rw [e]
        refine ⟨?_, .str _, H, I.tok _, ⟨_, rfl⟩, q⟩
        rw [S_len, reps_len, Nat.mul_comm]
        exact hz
end L2
namespace L2
open PySem PySem.Spec PyProof.Rows
section
variable {X : Cx}
end
end L2
namespace L2
open PySem PySem.Spec PyProof.Rows
section
variable {X : Cx} {pins : List (Addr × Obj)} {σ : St} {H : Hp} {s : Shared} {h' : Heap}
end
/-! ### enumerate of a text -/
/-! ### sorted -/
section
variable {X : Cx}
end
end L2
namespace L2
open PySem PySem.Spec PyProof.Rows
section
variable {X : Cx}
end
end L2
namespace L2
open PySem PySem.Spec PyProof.Rows
section
variable {X : Cx}
theorem pe_gI {x : Str} {pos : Pos} (i : Int) (hg : Gl X x) (hm : ∃ t, X.mg x = some (.int i t)) (hd : (x == ("__debug__" : Str)) = false := by decide) : PE X (.Name x pos) (tC (.int i)) := by
  obtain ⟨t, e⟩ := hm
  exact pe_glob hg e ⟨t, rfl⟩ hd
end
end L2
namespace L2
open PySem PySem.Spec PyProof.Rows
section
variable {prog : Program} {w : World} {A : Around} {E : Value → Shared → Prop} {s : Shared}
/-! ### enumerate of a tuple, of a list -/
end
/-! ### list(text or sequence); index of a list of texts; isinstance(list, list) -/
section
variable {X : Cx}
end
end L2
namespace L2
open PySem PySem.Spec PyProof.Rows
section
variable {X : Cx}
def rTupOf (K : PySem.W.Frag) : List V → Hp → VK → Prop := fun xs H Q => ∃ p ys, xs = [.ref p] ∧ ((SqL K H p ys ∧ ∀ l, H l = none → Q (.ref l) (upd H l (.tup ys))) ∨ (SqT K H p ys ∧ Q (.ref p) H))
theorem call_tuple_ofK (K : PySem.W.Frag) (h : X.K = K) : CallR X (.type "tuple") (rTupOf K) := by subst h; exact call_tuple_of
end
end L2
namespace L2
open PySem PySem.Spec PyProof.Rows
/-- a comprehension over a tuple -/
theorem comp_tup {K : PySem.W.Frag} {a : Addr} {xs : List V} {σc : St} {g : TG} {tc : TT} {te : TE} {Q : VK} {H1 : Hp} (Pv : Nat → List V → Hp → Prop) (hn : xs.length < sizeLine) (hl : ∀ i acc H, Pv i acc H → SqT K H a xs) (h0 : Pv 0 [] H1)
    (hs : ∀ (i : Nat) (x : V) (acc : List V) (H : Hp) (Nx : List V → Hp → Prop), i < xs.length → xs[i]? = some x → acc.length ≤ i → Pv i acc H → (∀ acc' H', acc'.length ≤ i + 1 → Pv (i + 1) acc' H' → Nx acc' H') →
      g x σc H fun σ2 H2 => Wk σc σ2 ∧ tc σ2 H2 fun b H3 => if b = true then te σ2 H3 fun v H4 => Nx (acc ++ [v]) H4 else Nx acc H3)
    (hd : ∀ acc H D, acc.length ≤ xs.length → Pv xs.length acc H → H D = none → Q (.ref D) (upd H D (.lst acc))) : CompW (Itt K a) σc g tc te Q H1 :=
  comp_by (xs := fun i x => xs[i]? = some x) Pv hn (fun i acc H h p => ⟨xs, xs[i], hl i acc H p, by simp [h]⟩) (fun acc H p => ⟨xs, hl _ acc H p, Nat.le_refl _⟩) (fun i acc H x H' h p y => ⟨y.1, y.2 xs (hl i acc H p)⟩) h0 hs hd
/-- tuples stay -/
def TSame (H H' : Hp) : Prop := ∀ c xs, H c = some (.tup xs) → H' c = some (.tup xs)
theorem TSame.refl (H : Hp) : TSame H H := fun _ _ h => h
theorem TSame.trans {H H1 H2 : Hp} (a : TSame H H1) (b : TSame H1 H2) : TSame H H2 := fun c xs h => b c xs (a c xs h)
theorem TSame.of {H H' : Hp} (s : Same H H') : TSame H H' := fun c xs h => s c _ h
theorem TSame.updL {H : Hp} {p : Addr} {ys : List V} {o : HO} (h : H p = some (.lst ys)) : TSame H (upd H p o) := fun c xs e => by
  rw [upd_ne (fun z => by rw [z, h] at e; cases e)]; exact e
theorem TSame.updN {H : Hp} {p : Addr} {o : HO} (h : H p = none) : TSame H (upd H p o) := fun c xs e => by
  rw [upd_ne (fun z => by rw [z, h] at e; cases e)]; exact e
end L2
namespace HT
open PySem PySem.Spec PyProof.Rows
section
variable {prog : Program} {w : World} {A : Around} {E : Value → Shared → Prop} {s : Shared}
end
end HT
namespace L2
open PySem PySem.Spec PyProof.Rows
section
variable {X : Cx} {e st : Expr} {te : TE} {ts : TO} {pos p2 : Pos}
end
end L2
namespace L2
open PySem PySem.Spec PyProof.Rows

/-! ### lists of pairs as tables -/
section
variable {κ : Type} [DecidableEq κ]
def valV (kvs : List (κ × V)) (k : κ) : Option V := (kvs.find? fun kv => decide (kv.1 = k)).map (·.2)
/-- in its place, or at the end -/
def putK (kvs : List (κ × V)) (k : κ) (v : V) : List (κ × V) :=
  if (kvs.any fun kv => decide (kv.1 = k)) = true then kvs.map (fun kv => if kv.1 = k then (kv.1, v) else kv) else kvs ++ [(k, v)]
def dropK (kvs : List (κ × V)) (k : κ) : List (κ × V) := kvs.filter fun kv => decide (kv.1 ≠ k)

theorem valV_pos {p : κ × V} {r : List (κ × V)} {k : κ} (e : p.1 = k) : valV (p :: r) k = some p.2 := by simp [valV, List.find?_cons, e]
theorem valV_neg {p : κ × V} {r : List (κ × V)} {k : κ} (e : ¬ p.1 = k) : valV (p :: r) k = valV r k := by simp [valV, List.find?_cons, e]
theorem valV_any (k : κ) : ∀ kvs : List (κ × V), (kvs.any fun kv => decide (kv.1 = k)) = (valV kvs k).isSome
  | [] => rfl
  | p :: r => by
    rw [List.any_cons]
    by_cases e : p.1 = k
    · simp only [valV_pos e, decide_eq_true e, Bool.true_or, Option.isSome_some]
    · rw [valV_neg e, decide_eq_false e, Bool.false_or]; exact valV_any k r
theorem valV_snoc (k j : κ) (y : V) : ∀ kvs : List (κ × V), valV kvs k = none → valV (kvs ++ [(k, y)]) j = if j = k then some y else valV kvs j
  | [], _ => by
    by_cases e : k = j
    · rw [if_pos e.symm]; exact valV_pos (p := (k, y)) e
    · rw [if_neg (fun z => e z.symm)]; exact valV_neg (p := (k, y)) e
  | p :: r, hn => by
    rw [List.cons_append]
    have hk : ¬ p.1 = k := fun z => by rw [valV_pos z] at hn; cases hn
    rw [valV_neg hk] at hn
    have ih := valV_snoc k j y r hn
    by_cases e : p.1 = j
    · rw [valV_pos e, valV_pos e, if_neg (fun z => hk (e.trans z))]
    · rw [valV_neg e, valV_neg e, ih]
theorem length_putK (kvs : List (κ × V)) (k : κ) (v : V) : (putK kvs k v).length ≤ kvs.length + 1 := by
  unfold putK
  split
  · rw [List.length_map]; omega
  · rw [List.length_append, List.length_cons, List.length_nil]; omega
theorem putK_new {kvs : List (κ × V)} {k : κ} (v : V) (h : valV kvs k = none) : putK kvs k v = kvs ++ [(k, v)] := by
  unfold putK
  rw [valV_any, h]
  exact if_neg (by decide)

theorem RelO.isSome_eq {o : Option V} {u : Option Value} (r : RelO o u) : o.isSome = u.isSome := by
  cases o with
  | none => cases u with
    | none => rfl
    | some _ => exact (show False from r).elim
  | some _ => cases u with
    | none => exact (show False from r).elim
    | some _ => rfl
theorem RelO.getD {o : Option V} {u : Option Value} {d : V} {d' : Value} (r : RelO o u) (rd : RelV d d') : RelV (o.getD d) (u.getD d') := by
  cases o with
  | none => cases u with
    | none => exact rd
    | some _ => exact (show False from r).elim
  | some _ => cases u with
    | none => exact (show False from r).elim
    | some _ => exact r

/-- raw tables of the same keys -/
theorem KV.val {kvs : List (κ × V)} {vs : List (κ × Value)} (r : KV kvs vs) (k : κ) : RelO (valV kvs k) (valueAt vs k) := by
  unfold KV at r
  induction r with
  | nil => exact True.intro
  | @cons p q ps qs h t ih =>
    obtain ⟨h1, h2⟩ := h
    by_cases e : p.1 = k
    · have e' : q.1 = k := h1.symm.trans e
      have b : valueAt (q :: qs) k = some q.2 := by simp [valueAt, List.find?_cons, e']
      rw [valV_pos e, b]; exact h2
    · have e' : ¬ q.1 = k := fun z => e (h1.trans z)
      have b : valueAt (q :: qs) k = valueAt qs k := by simp [valueAt, List.find?_cons, e']
      rw [valV_neg e, b]; exact ih
theorem KV.any {kvs : List (κ × V)} {vs : List (κ × Value)} (r : KV kvs vs) (k : κ) : (kvs.any fun kv => decide (kv.1 = k)) = vs.any fun kv => decide (kv.1 = k) := by
  unfold KV at r
  induction r with
  | nil => rfl
  | cons h t ih => rw [List.any_cons, List.any_cons, ih, h.1]
theorem KV.repl {kvs : List (κ × V)} {vs : List (κ × Value)} (r : KV kvs vs) (k : κ) {y : V} {u : Value} (ry : RelV y u) :
    KV (kvs.map fun kv => if kv.1 = k then (kv.1, y) else kv) (vs.map fun kv => if kv.1 = k then (kv.1, u) else kv) := by
  unfold KV at r ⊢
  induction r with
  | nil => exact .nil
  | @cons p q ps qs h t ih =>
    rw [List.map_cons, List.map_cons]
    refine .cons ?_ ih
    obtain ⟨h1, h2⟩ := h
    by_cases e : p.1 = k
    · rw [if_pos e, if_pos (h1.symm.trans e)]; exact ⟨h1, ry⟩
    · rw [if_neg e, if_neg (fun z => e (h1.trans z))]; exact ⟨h1, h2⟩
theorem KV.put {kvs : List (κ × V)} {vs : List (κ × Value)} (r : KV kvs vs) (k : κ) {y : V} {u : Value} (ry : RelV y u) : KV (putK kvs k y) (stored vs k u) := by
  unfold putK stored
  rw [r.any k]
  by_cases e : (vs.any fun kv => decide (kv.1 = k)) = true
  · rw [if_pos e, if_pos e]; exact r.repl k ry
  · rw [if_neg e, if_neg e]; exact Paired.snoc r ⟨rfl, ry⟩
theorem KV.drop {kvs : List (κ × V)} {vs : List (κ × Value)} (r : KV kvs vs) (k : κ) : KV (dropK kvs k) (without vs k) := by
  unfold KV at r ⊢
  unfold dropK without
  induction r with
  | nil => exact .nil
  | @cons p q ps qs h t ih =>
    obtain ⟨h1, h2⟩ := h
    rw [List.filter_cons, List.filter_cons]
    by_cases e : p.1 = k
    · have a : ¬ decide (p.1 ≠ k) = true := by simp [e]
      have b : ¬ decide (q.1 ≠ k) = true := by simp [h1.symm.trans e]
      rw [if_neg a, if_neg b]; exact ih
    · have e' : ¬ q.1 = k := fun z => e (h1.trans z)
      have a : decide (p.1 ≠ k) = true := by simp [e]
      have b : decide (q.1 ≠ k) = true := by simp [e']
      rw [if_pos a, if_pos b]; exact .cons ⟨h1, h2⟩ ih
theorem KV.keys {kvs : List (κ × V)} {vs : List (κ × Value)} (r : KV kvs vs) : kvs.map (·.1) = vs.map (·.1) := by
  unfold KV at r
  induction r with
  | nil => rfl
  | cons h t ih => rw [List.map_cons, List.map_cons, ih, h.1]
theorem KV.length {kvs : List (κ × V)} {vs : List (κ × Value)} (r : KV kvs vs) : kvs.length = vs.length := Paired.length r
end


/-! ### a tracked dict, its keys ints and texts or tuples of these -/
theorem kV_is {P : Program} {w : World} {k : Key} {u : Value} (r : RelV (kV k) u) : (mixKind P w).is k u = true := by
  cases k with
  | inl i => obtain ⟨t, e⟩ := (show ∃ t, u = Value.int i t from r); subst e; exact mixKind_int P w i t
  | inr x => obtain ⟨t, e⟩ := (show ∃ t, u = Value.str x t from r); subst e; exact mixKind_str P w x t
theorem items_are {P : Program} {w : World} : ∀ {ks : List Key} {us : List Value}, Vals (ks.map kV) us → ItemsAre (mixKind P w) ks us
  | [], _, r => by rw [List.map_nil] at r; cases r; exact .nil
  | k :: ks, _, r => by
    rw [List.map_cons] at r
    cases r with
    | cons h t => exact .cons (kV_is h) (items_are t)

/-- raw entries of a dict with tuple keys -/
abbrev KT (H : Hp) : List (List Key × V) → List (List Key × Addr × Value) → Prop := Paired fun p q => p.1 = q.1 ∧ H q.2.1 = some (.tup (p.1.map kV)) ∧ RelV p.2 q.2.2
theorem KT.val {H : Hp} {kvs : List (List Key × V)} {xs : List (List Key × Addr × Value)} (r : KT H kvs xs) (k : List Key) : RelO (valV kvs k) ((atKey xs k).map (·.2)) := by
  induction r with
  | nil => exact True.intro
  | @cons p q ps qs h t ih =>
    obtain ⟨h1, _, h2⟩ := h
    by_cases e : p.1 = k
    · have e' : q.1 = k := h1.symm.trans e
      have b : atKey (q :: qs) k = some q.2 := by simp [atKey, List.find?_cons, e']
      rw [valV_pos e, b]; exact h2
    · have e' : ¬ q.1 = k := fun z => e (h1.trans z)
      have b : atKey (q :: qs) k = atKey qs k := by simp [atKey, List.find?_cons, e']
      rw [valV_neg e, b]; exact ih
theorem KT.repl {H : Hp} {kvs : List (List Key × V)} {xs : List (List Key × Addr × Value)} (r : KT H kvs xs) (k : List Key) {y : V} {u : Value} (ry : RelV y u) :
    KT H (kvs.map fun kv => if kv.1 = k then (kv.1, y) else kv) (xs.map (putAt k u)) := by
  induction r with
  | nil => exact .nil
  | @cons p q ps qs h t ih =>
    rw [List.map_cons, List.map_cons]
    refine .cons ?_ ih
    obtain ⟨h1, h2, h3⟩ := h
    unfold putAt
    by_cases e : p.1 = k
    · rw [if_pos e, if_pos (h1.symm.trans e)]; exact ⟨h1, h2, ry⟩
    · rw [if_neg e, if_neg (fun z => e (h1.trans z))]; exact ⟨h1, h2, h3⟩
theorem KT.put {H : Hp} {kvs : List (List Key × V)} {xs : List (List Key × Addr × Value)} (r : KT H kvs xs) (k : List Key) {b : Addr} {y : V} {u : Value} (hb : H b = some (.tup (k.map kV))) (ry : RelV y u) :
    KT H (putK kvs k y) (storedH xs k b u) := by
  have e : (kvs.any fun kv => decide (kv.1 = k)) = (atKey xs k).isSome := by
    rw [valV_any, (r.val k).isSome_eq, Option.isSome_map]
  unfold putK storedH
  rw [e]
  by_cases q : (atKey xs k).isSome = true
  · rw [if_pos q, if_pos q]; exact r.repl k ry
  · rw [if_neg q, if_neg q]; exact Paired.snoc r ⟨rfl, hb, ry⟩
theorem KT.keeps {H H' : Hp} {kvs : List (List Key × V)} {xs : List (List Key × Addr × Value)} (r : KT H kvs xs) (ht : ∀ b ys, H b = some (.tup ys) → H' b = some (.tup ys)) : KT H' kvs xs :=
  Paired.mapP r fun _ _ z => ⟨z.1, ht _ _ z.2.1, z.2.2⟩

section
variable {P : Program} {w : World} {H : Hp} {h : Heap} {a : Addr}
theorem rd_of {u : HO} (ok : HOk P w H h) (e : Rd H a u) : ObjOk P w H h a u := e.ok ok
theorem dk_rd {kvs : List (Key × V)} (ok : HOk P w H h) (e : Rd H a (.dK kvs)) : kvs.length ≤ sizeLine ∧ (a == sysModules) = false ∧ ∃ vs, KV kvs vs ∧ h.DictOf (mixKind P w) a vs :=
  show ObjOk P w H h a (.dK kvs) from rd_of ok e
theorem dk_of {kvs : List (Key × V)} (ok : HOk P w H h) (e : H a = some (.dK kvs)) : kvs.length ≤ sizeLine ∧ (a == sysModules) = false ∧ ∃ vs, KV kvs vs ∧ h.DictOf (mixKind P w) a vs := dk_rd ok (.inl e)
/-- a tracked tuple of ints and texts is a key -/
theorem key_of {ks : List Key} (ok : HOk P w H h) (e : H a = some (.tup (ks.map kV))) : (tupleKind (mixKind P w)).is h ks a := by
  obtain ⟨_, its, r, o, h1, h2, n, h3⟩ := (show ObjOk P w H h a (.tup (ks.map kV)) from ok a _ e)
  exact ⟨o, its.toArray, n, h1, h2, h3, by simpa using items_are r⟩
theorem dt_rd {kvs : List (List Key × V)} (ok : HOk P w H h) (e : Rd H a (.dT kvs)) : kvs.length ≤ sizeLine ∧ (a == sysModules) = false ∧
    ∃ xs, KT H kvs xs ∧ h.DictOfH (tupleKind (mixKind P w)) a xs := by
  obtain ⟨z, y, xs, r, o, es, ep, h1, h2, h3, h4, h5⟩ := (show ObjOk P w H h a (.dT kvs) from rd_of ok e)
  refine ⟨z, y, xs, r, o, es, ep, h1, h2, h3, h4, fun x hx => ?_, h5⟩
  have all : ∀ {l : List (List Key × V)} {m : List (List Key × Addr × Value)}, KT H l m → ∀ x ∈ m, (tupleKind (mixKind P w)).is h x.1 x.2.1 := by
    intro l m q
    induction q with
    | nil => intro x hx; exact nomatch hx
    | @cons p q ps qs hq t ih =>
      intro x hx
      rcases List.mem_cons.mp hx with e | hx
      · subst e
        exact key_of ok (by rw [← hq.1]; exact hq.2.1)
      · exact ih x hx
  exact all r x hx
theorem dt_of {kvs : List (List Key × V)} (ok : HOk P w H h) (e : H a = some (.dT kvs)) : kvs.length ≤ sizeLine ∧ (a == sysModules) = false ∧
    ∃ xs, KT H kvs xs ∧ h.DictOfH (tupleKind (mixKind P w)) a xs := dt_rd ok (.inl e)
end

/-- what the dict at a holds at the key y -/
def DGet (H : Hp) (a : Addr) (y : V) (r : Option V) : Prop :=
  (∃ kvs k, Rd H a (.dK kvs) ∧ y = kV k ∧ r = valV kvs k) ∨ ∃ kvs k b, Rd H a (.dT kvs) ∧ y = .ref b ∧ H b = some (.tup (k.map kV)) ∧ r = valV kvs k
/-- the heap behind a[y] = v -/
def DPut (H : Hp) (a : Addr) (y v : V) (H' : Hp) : Prop :=
  (∃ kvs k, H a = some (.dK kvs) ∧ y = kV k ∧ kvs.length < sizeLine ∧ H' = upd H a (.dK (putK kvs k v))) ∨
  ∃ kvs k b, H a = some (.dT kvs) ∧ y = .ref b ∧ H b = some (.tup (k.map kV)) ∧ kvs.length < sizeLine ∧ H' = upd H a (.dT (putK kvs k v))
theorem DGet.k {H : Hp} {a : Addr} {kvs : List (Key × V)} {k : Key} (e : H a = some (.dK kvs)) : DGet H a (kV k) (valV kvs k) := .inl ⟨kvs, k, .inl e, rfl, rfl⟩
theorem DGet.t {H : Hp} {a b : Addr} {kvs : List (List Key × V)} {k : List Key} (e : H a = some (.dT kvs)) (eb : H b = some (.tup (k.map kV))) : DGet H a (.ref b) (valV kvs k) := .inr ⟨kvs, k, b, .inl e, rfl, eb, rfl⟩
theorem DPut.k {H : Hp} {a : Addr} {kvs : List (Key × V)} {k : Key} {v : V} (e : H a = some (.dK kvs)) (hl : kvs.length < sizeLine) : DPut H a (kV k) v (upd H a (.dK (putK kvs k v))) := .inl ⟨kvs, k, e, rfl, hl, rfl⟩
theorem DPut.t {H : Hp} {a b : Addr} {kvs : List (List Key × V)} {k : List Key} {v : V} (e : H a = some (.dT kvs)) (eb : H b = some (.tup (k.map kV))) (hl : kvs.length < sizeLine) :
    DPut H a (.ref b) v (upd H a (.dT (putK kvs k v))) := .inr ⟨kvs, k, b, e, rfl, eb, hl, rfl⟩


section
variable {X : Cx} {pins : List (Addr × Obj)} {σ : St} {H : Hp} {s : Shared} {a : Addr} {y v : V} {u r : Value} {o : Option V} {A : Around} {E : Value → Shared → Prop}

theorem Inv.big (I : Inv X pins σ H s) : sysModules < s.heap.objs.size := by
  have h : mainGlobals < s.heap.objs.size := (I.mod.glob.keeps I.bk).lt
  exact Nat.lt_trans (by decide) h

/-- d[y], there -/
theorem d_getItem {Q : Value → Shared → Prop} (hu : A.units + 1 < cLine) (I : Inv X pins σ H s) (g : DGet H a y (some v)) (ry : RelV y u) (h : ∀ w' s', Inv X pins σ H s' → RelV v w' → Q w' s') :
    wpAny (model X.prog X.w) A (getItem (.ref a) u) Q E s := by
  rcases g with ⟨kvs, k, e, ey, l⟩ | ⟨kvs, k, b, e, ey, eb, l⟩
  · subst ey
    obtain ⟨z, hd, vs, rel, dd⟩ := dk_rd I.hok e
    obtain ⟨w', hw, rw'⟩ := RelO.some_of (v := v) (o := valueAt vs k) (by rw [l]; exact rel.val k)
    exact wpAny_getItem_of (kV_is ry) dd.mapOf hw (h w' _ (I.tok _) rw')
  · subst ey
    cases (show u = Value.ref b from ry)
    obtain ⟨z, hd, xs, rel, dd⟩ := dt_rd I.hok e
    obtain ⟨w', hw, rw'⟩ := RelO.some_of (v := v) (o := (atKey xs k).map (·.2)) (by rw [l]; exact rel.val k)
    obtain ⟨p, hp, hp2⟩ := Option.map_eq_some_iff.mp hw
    refine wpAny_getItem_heap (tupleKind_room_in1 hu) (key_of I.hok eb) dd hp ?_
    rw [hp2]
    exact h w' _ (I.tok _) rw'
/-- a dict's object is replaced -/
theorem d_write {h' : Heap} {t' : Nat} {ob : HO} (I : Inv X pins σ H s) (mu : Mut (H a)) (hs : Heap.SameBut a s.heap h') (he : ∃ q, h'.get? a = some q) (new : ObjOk X.prog X.w (upd H a ob) h' a ob) :
    Inv X pins σ (upd H a ob) { s with heap := h', toks := t' } :=
  I.write (x := a) (e := a) mu (.inl rfl) (fun b q hb z => (hs.2 b hb).trans z) he new
theorem dk_new {P : Program} {w : World} {H' : Hp} {h' : Heap} {kvs : List (Key × V)} {vs : List (Key × Value)} (z : kvs.length ≤ sizeLine) (hd : (a == sysModules) = false) (rel : KV kvs vs) (dd : h'.DictOf (mixKind P w) a vs) :
    ObjOk P w H' h' a (.dK kvs) := ⟨z, hd, vs, rel, dd⟩
/-- d[y] = v -/
theorem d_setItem {H' : Hp} {Q : Unit → Shared → Prop} (hu : A.units + 1 < cLine) (I : Inv X pins σ H s) (g : DPut H a y v H') (ry : RelV y u) (rv : RelV v r) (h : ∀ s', Inv X pins σ H' s' → Q () s') :
    wpAny (model X.prog X.w) A (setItem (.ref a) u r) Q E s := by
  rcases g with ⟨kvs, k, e, ey, l, eH⟩ | ⟨kvs, k, b, e, ey, eb, l, eH⟩
  · subst ey eH
    obtain ⟨z, hd, vs, rel, dd⟩ := dk_of I.hok e
    have hz : vs.length ≤ sizeLine := by rw [← rel.length]; exact z
    have hl : (putK kvs k v).length ≤ sizeLine := by have := length_putK kvs k v; omega
    refine wpAny_setItem_pairs (hsz := hz) (kV_is ry) dd fun h' dd' hs => h _ ?_
    have he : ∃ q, h'.get? a = some q := let ⟨q, _, _, hq, _⟩ := dd'; ⟨q, hq⟩
    exact d_write I (by rw [e]; exact True.intro) hs he (dk_new hl hd (rel.put k rv) dd')
  · subst ey eH
    cases (show u = Value.ref b from ry)
    obtain ⟨z, hd, xs, rel, dd⟩ := dt_of I.hok e
    have hz : xs.length ≤ sizeLine := by rw [← Paired.length rel]; exact z
    have hl : (putK kvs k v).length ≤ sizeLine := by have := length_putK kvs k v; omega
    refine wpAny_setItem_heap (hsz := hz) (tupleKind_room_in1 hu) (key_of I.hok eb) dd fun h' dd' hs => h _ ?_
    obtain ⟨q, es, ep, hq, h2, h3, h4, _, h5⟩ := dd'
    refine d_write I (by rw [e]; exact True.intro) hs ⟨q, hq⟩ ⟨hl, hd, _, (rel.put k eb rv).keeps fun c ys ec => ?_, q, es, ep, hq, h2, h3, h4, h5⟩
    rw [upd_ne (ne_of ec e (fun z => nomatch z))]
    exact ec
end

section
variable {X : Cx} {pins : List (Addr × Obj)} {σ : St} {H : Hp} {s : Shared} {a : Addr} {kvs : List (Key × V)} {k : Key} {u : Value} {A : Around} {E : Value → Shared → Prop}
end


/-! ### readings and rules -/
/-- the element of a subscription, not a slice -/
def NoSl (i : Expr) : Prop := ∀ ov iv, subscripted i false ov iv = operate [ov, iv] (getItem ov iv)
theorem subD_of {prog : Program} {w : World} {A : Around} {E : Value → Shared → Prop} {s : Shared} {env : Env} {value slice : Expr} {pos : Pos} {T id : String} {Q : Value → Shared → Prop}
    (hl : typeLookup (.type T) "__getitem__" = pure (some (.builtin id))) (hs : NoSl slice)
    (h : wpAny (model prog w) A (eval value env) (fun o s₁ => wpAny (model prog w) A (eval slice env) (fun i s₂ => s₂.TypeIs o T ∧ wpAny (model prog w) A (getItem o i) Q E s₂) E s₁) E s) :
    wpAny (model prog w) A (eval (.Subscript value slice pos) env) Q E s := by
  refine Subscript_ (wpAny_mono h (fun o s₁ h₁ => wpAny_mono h₁ (fun i s₂ h₂ => ?_) fun _ _ x => x) fun _ _ x => x)
  obtain ⟨hT, h₂⟩ := h₂
  unfold subscriptTail
  refine wpAny_bind ?_
  rw [getitemInPython_of_ne hT.not_modules]
  refine wpAny_bind (wpAny_specialOf hT hl ?_)
  have fin : wpAny (model prog w) A (subscripted slice false o i) (fun r s₃ => wpAny (model prog w) A (letTemporaryGo value o r >>= fun _ => pure r) Q E s₃) E s₂ := by
    rw [hs o i]
    exact wpAny_operating (wpAny_mono h₂ (fun r s₃ h₃ => wpAny_bind (wpAny_letTemporaryGo (wpAny_pure h₃))) fun _ _ x => x)
  first
    | exact wpAny_pure (wpAny_bind fin)
    | exact wpAny_bind (wpAny_pure (wpAny_bind fin))
    | exact wpAny_bind fin

theorem dict_typeIs {X : Cx} {pins : List (Addr × Obj)} {σ : St} {H : Hp} {s : Shared} {a : Addr} {y : V} {o : Option V} (I : Inv X pins σ H s) (g : DGet H a y o) : s.TypeIs (.ref a) "dict" := by
  rcases g with ⟨kvs, k, e, _, _⟩ | ⟨kvs, k, b, e, _, _, _⟩
  · obtain ⟨_, _, vs, _, dd⟩ := dk_rd I.hok e
    exact dd.typeIs
  · obtain ⟨_, _, xs, _, dd⟩ := dt_rd I.hok e
    exact dd.typeIs
/-- d[y] -/
def tDGet (td ty : TE) : TE := fun σ H Q => td σ H fun x H1 => ty σ H1 fun y H2 => ∃ a v, x = .ref a ∧ DGet H2 a y (some v) ∧ Q v H2
/-- d[y] = v -/
def sDPut (td ty tv : TE) : TS := fun D σ H => tv σ H fun v H1 => td σ H1 fun x H2 => ty σ H2 fun y H3 => ∃ a H4, x = .ref a ∧ DPut H3 a y v H4 ∧ D.nx σ H4
section
variable {X : Cx} {o i e value : Expr} {pos pos' tpos : Pos} {td ty tv : TE}
theorem pe_dget (hu : X.A.units + 1 < cLine) (ho : PE X o td) (hi : PE X i ty) (hs : NoSl i) : PE X (.Subscript o i pos) (tDGet td ty) := by
  intro pins s σ H Q I h
  refine subD_of PySem.F.slot_dict_getitem.lookup hs (thn (ho pins s σ H _ I h) fun u s1 ⟨x, H1, I1, rx, q1⟩ => thn (hi pins s1 σ H1 _ I1 q1) fun iv s2 ⟨y, H2, I2, ry, a, v, ex, g, q2⟩ => ?_)
  subst ex
  obtain rfl : u = Value.ref a := rx
  exact ⟨dict_typeIs I2 g, d_getItem hu I2 g ry fun w' s3 I3 rw' => ⟨v, H2, I3, rw', q2⟩⟩
theorem ps_dput (hu : X.A.units + 1 < cLine) (ho : PE X o td) (hi : PE X i ty) (hv : PE X value tv) (hs : swapsWith value (some (.Subscript o i pos')) pos.line X.env = pure false) :
    PS X (.Assign [.Subscript o i pos'] value pos) (sDPut td ty tv) := by
  intro pins s σ H D I h
  refine wpAny_Assign_Subscript (thn (hv pins s σ H _ I h) fun r s1 ⟨v, H1, I1, rv, q1⟩ => thn (ho pins s1 σ H1 _ I1 q1) fun u s2 ⟨x, H2, I2, rx, q2⟩ => thn (hi pins s2 σ H2 _ I2 q2) fun iv s3 ⟨y, H3, I3, ry, a, H4, ex, g, q3⟩ => ?_) hs
  subst ex
  obtain rfl : u = Value.ref a := rx
  exact d_setItem hu I3 g ry rv fun s4 I4 => ⟨σ, H4, I4, q3⟩
end


/-! ### displays -/
theorem dk_empty {P : Program} {w : World} {H : Hp} (h : Heap) (hb : sysModules < h.objs.size) : ObjOk P w H (h.push { cls := .type "dict", data := .dict #[] }) h.objs.size (.dK []) :=
  ⟨Nat.zero_le _, beq_eq_false_iff_ne.mpr (Ne.symm (Nat.ne_of_lt hb)), [], .nil, Heap.DictOf.new h⟩
/-- {}, to be a dict of the kind that is wanted -/
def tDNewK : TE := fun _ H Q => ∀ p, H p = none → Q (.ref p) (upd H p (.dK []))
section
variable {X : Cx} {pos : Pos}
theorem pe_dnewK : PE X (.Dict [] [] pos) tDNewK := fun pins s σ H Q I h =>
  wpAny_Dict_empty ⟨.ref s.heap.objs.size, _, I.laid (a := s.heap.objs.size) (o := .dK []) (t' := s.toks) (fun _ _ q => Heap.get?_push_of_some _ q) (Nat.le_refl _) (dk_empty s.heap I.big), rfl, h _ (I.hok.fresh (Nat.le_refl _))⟩
end

/-- the pairs of a display, from the left -/
def tPairs : List (TE × TE) → St → Hp → (List (V × V) → Hp → Prop) → Prop
  | [], _, H, Q => Q [] H
  | (tk, tv) :: r, σ, H, Q => tk σ H fun x H1 => tv σ H1 fun y H2 => tPairs r σ H2 fun ps H3 => Q ((x, y) :: ps) H3
abbrev VV : List (V × V) → List (Value × Value) → Prop := Paired fun p q => RelV p.1 q.1 ∧ RelV p.2 q.2
def PPs (X : Cx) (pos : Pos) (keys : List (Option Expr)) (values : List Expr) (trs : List (TE × TE)) : Prop :=
  ∀ (pins : List (Addr × Obj)) (s : Shared) (σ : St) (H : Hp) (Q : List (V × V) → Hp → Prop), Inv X pins σ H s → tPairs trs σ H Q →
    wpAny (model X.prog X.w) X.A (evalPairs (pairTrees keys values X.env pos)) (fun vs s' => ∃ ps H', Inv X pins σ H' s' ∧ VV ps vs ∧ Q ps H') X.xe s
theorem pps_nil {X : Cx} {pos : Pos} : PPs X pos [] [] [] := fun pins s σ H Q I h => pairTrees_nil_walk ⟨[], H, I, .nil, h⟩
theorem pps_cons {X : Cx} {pos : Pos} {k v : Expr} {ks : List (Option Expr)} {vs : List Expr} {tk tv : TE} {trs : List (TE × TE)} (hk : PE X k tk) (hv : PE X v tv) (hr : PPs X pos ks vs trs) :
    PPs X pos (some k :: ks) (v :: vs) ((tk, tv) :: trs) := fun pins s σ H Q I h =>
  pairTrees_cons_walk (thn (hk pins s σ H _ I h) fun u s1 ⟨x, H1, I1, rx, q1⟩ => thn (hv pins s1 σ H1 _ I1 q1) fun w2 s2 ⟨y, H2, I2, ry, q2⟩ =>
    thn (hr pins s2 σ H2 _ I2 q2) fun ws s3 ⟨ps, H3, I3, rel, q3⟩ => ⟨(x, y) :: ps, H3, I3, .cons ⟨rx, ry⟩ rel, q3⟩)

def mergeK (kvs more : List (Key × V)) : List (Key × V) := more.foldl (fun acc kv => putK acc kv.1 kv.2) kvs
theorem KV.merge : ∀ {more : List (Key × V)} {rs : List (Key × Value)} {kvs : List (Key × V)} {vs : List (Key × Value)}, KV more rs → KV kvs vs → KV (mergeK kvs more) (merged vs rs) := by
  intro more rs kvs vs r
  unfold KV at r
  induction r generalizing kvs vs with
  | nil => intro q; exact q
  | @cons p q ps qs h t ih =>
    intro r0
    have e : KV (putK kvs p.1 p.2) (stored vs q.1 q.2) := by
      have := r0.put p.1 h.2
      rw [← h.1]; exact this
    exact ih e
theorem length_mergeK : ∀ (more kvs : List (Key × V)), (mergeK kvs more).length ≤ kvs.length + more.length
  | [], kvs => by show kvs.length ≤ kvs.length + 0; omega
  | p :: r, kvs => by
    have h1 := length_mergeK r (putK kvs p.1 p.2)
    have h2 := length_putK kvs p.1 p.2
    show (mergeK (putK kvs p.1 p.2) r).length ≤ _
    rw [List.length_cons]; omega
theorem carries_of {P : Program} {w : World} : ∀ {kvs : List (Key × V)} {ws : List (Value × Value)}, VV (kvs.map fun kv => (kV kv.1, kv.2)) ws → ∃ rs, Carries (mixKind P w) ws rs ∧ KV kvs rs
  | [], _, r => by rw [List.map_nil] at r; cases r; exact ⟨[], True.intro, .nil⟩
  | p :: kvs, _, r => by
    rw [List.map_cons] at r
    cases r with
    | @cons a b as bs h t =>
      obtain ⟨rs, c, q⟩ := carries_of (P := P) (w := w) t
      obtain ⟨b1, b2⟩ := b
      exact ⟨(p.1, b2) :: rs, ⟨kV_is h.1, rfl, c⟩, .cons ⟨rfl, h.2⟩ q⟩
/-- {k: v, ..} with keys ints and texts; the new dict stands empty while the pairs are made -/
def tDisp (trs : List (TE × TE)) : TE := fun σ H Q => ∀ p, H p = none → tPairs trs σ (upd H p (.dK [])) fun ps H2 => H2 p = some (.dK []) ∧ ∃ kvs : List (Key × V), ps = kvs.map (fun kv => (kV kv.1, kv.2)) ∧ kvs.length ≤ 15 ∧ Q (.ref p) (upd H2 p (.dK (mergeK [] kvs)))
theorem pe_disp {X : Cx} {pos : Pos} {keys : List (Option Expr)} {values : List Expr} {trs : List (TE × TE)} (h : PPs X pos keys values trs) (hall : keys.all (·.isSome) = true) (hl : keys.length = values.length) (h0 : keys ≠ [])
    (h15 : keys.length ≤ 15) : PE X (.Dict keys values pos) (tDisp trs) := by
  intro pins s σ H Q I q
  have hn := I.hok.fresh (Nat.le_refl s.heap.objs.size)
  have I1 := I.laid (a := s.heap.objs.size) (o := .dK []) (h' := s.heap.push { cls := .type "dict", data := .dict #[] }) (t' := s.toks) (fun _ _ q => Heap.get?_push_of_some _ q) (Nat.le_refl _) (dk_empty s.heap I.big)
  refine wpAny_Dict_walk (knd := mixKind X.prog X.w) hall hl h0 h15 (thn (h pins _ σ _ _ I1 (q _ hn)) fun ws s2 ⟨ps, H2, I2, rel, e, kvs, ep, lk, q2⟩ => ?_)
  subst ep
  obtain ⟨rs, c, rk⟩ := carries_of (P := X.prog) (w := X.w) rel
  obtain ⟨z, hd, vs0, r0, dd⟩ := dk_of I2.hok e
  cases r0
  refine ⟨rs, c, dd, fun h' dd' hs => ⟨.ref s.heap.objs.size, _, ?_, rfl, q2⟩⟩
  have hz : (mergeK [] kvs).length ≤ sizeLine := by
    have h1 := length_mergeK kvs []
    rw [List.length_nil] at h1
    rw [sizeLine_eq]; omega
  have he : ∃ q, h'.get? s.heap.objs.size = some q := let ⟨q, _, _, hq, _⟩ := dd'; ⟨q, hq⟩
  exact d_write I2 (by rw [e]; exact True.intro) hs he (dk_new hz hd (rk.merge .nil) dd')


/-! ### methods -/
/-- a method call o.m(e) of a built-in, with one argument: what must be seen of the text -/
structure M1 (X : Cx) (o : Expr) (m : Str) (apos : Pos) (e : Expr) (cpos : Pos) : Prop where
  base : attributeBase o m X.env (eval o X.env) = eval o X.env
  few : ((backTo cpos (starEach [e] X.env)).all (fun x => !x.1) && (backToKw cpos (keywordEach [] X.env)).all (fun x => x.1.isSome)
    && decide (([e] : List Expr).length + ([] : List Keyword).length + (if ([] : List Keyword).isEmpty then 0 else 1) < 30)) = true
  line : (apos.endLine == cpos.line) = true
  trees : backTo cpos (starEach [e] X.env) = [(false, eval e X.env)]
structure M2 (X : Cx) (o : Expr) (m : Str) (apos : Pos) (e f : Expr) (cpos : Pos) : Prop where
  base : attributeBase o m X.env (eval o X.env) = eval o X.env
  few : ((backTo cpos (starEach [e, f] X.env)).all (fun x => !x.1) && (backToKw cpos (keywordEach [] X.env)).all (fun x => x.1.isSome)
    && decide (([e, f] : List Expr).length + ([] : List Keyword).length + (if ([] : List Keyword).isEmpty then 0 else 1) < 30)) = true
  line : (apos.endLine == cpos.line) = true
  trees : backTo cpos (starEach [e, f] X.env) = [(false, eval e X.env), (false, eval f X.env)]

/-- a is a dict, whatever its keys -/
def IsD (H : Hp) (a : Addr) : Prop := (∃ kvs, Rd H a (.dK kvs)) ∨ ∃ kvs, Rd H a (.dT kvs)
theorem isD_at {X : Cx} {pins : List (Addr × Obj)} {σ : St} {H : Hp} {s : Shared} {a : Addr} (I : Inv X pins σ H s) (d : IsD H a) :
    s.TypeIs (.ref a) "dict" ∧ (∀ b, Value.ref a = .ref b → ∃ ob, s.heap.get? b = some ob ∧ ob.dict = none) ∧ (a == sysModules) = false := by
  rcases d with ⟨kvs, e⟩ | ⟨kvs, e⟩
  · obtain ⟨_, hd, vs, _, dd⟩ := dk_rd I.hok e
    refine ⟨dd.typeIs, fun b q => ?_, hd⟩
    cases q
    obtain ⟨ob, _, _, h1, h2, _⟩ := dd
    exact ⟨ob, h1, h2.2.1⟩
  · obtain ⟨_, hd, xs, _, dd⟩ := dt_rd I.hok e
    refine ⟨dd.typeIs, fun b q => ?_, hd⟩
    cases q
    obtain ⟨ob, _, _, h1, h2, _⟩ := dd
    exact ⟨ob, h1, h2.2.1⟩

section
variable {X : Cx} {pins : List (Addr × Obj)} {σ : St} {H : Hp} {s : Shared} {a : Addr} {y d : V} {u r : Value} {o : Option V} {A : Around} {E : Value → Shared → Prop}
/-- d.get(y, x) -/
theorem d_get2 {Q : Value → Shared → Prop} (hu : A.units + 1 < cLine) (I : Inv X pins σ H s) (g : DGet H a y o) (ry : RelV y u) (rd : RelV d r) (h : ∀ w' s', Inv X pins σ H s' → RelV (o.getD d) w' → Q w' s') :
    wpAny (model X.prog X.w) A (call (.builtin "dict.get") [.ref a, u, r]) Q E s := by
  rcases g with ⟨kvs, k, e, ey, l⟩ | ⟨kvs, k, b, e, ey, eb, l⟩
  · subst ey
    obtain ⟨z, hd, vs, rel, dd⟩ := dk_rd I.hok e
    refine call_meetsIn PySem.F.slot_dict_get dd.typeIs PySem.F.entry_dict_get (PySem.F.args_dict_get_3 _ _ _) (meets_dict_get_default (mixKind X.prog X.w) a (kV_is ry) hd r) ⟨_, dd.mapOf, h _ _ (I.tok _) ?_⟩
    rw [l]
    exact (rel.val k).getD rd
  · subst ey
    cases (show u = Value.ref b from ry)
    obtain ⟨z, hd, xs, rel, dd⟩ := dt_rd I.hok e
    refine call_meetsIn PySem.F.slot_dict_get dd.typeIs PySem.F.entry_dict_get (PySem.F.args_dict_get_3 _ _ _) (meetsH_dict_get_default (tupleKind (mixKind X.prog X.w)) a b hd r) ⟨tupleKind_room_in1 hu, k, xs, key_of I.hok eb, dd, h _ _ (I.tok _) ?_⟩
    rw [l]
    exact (rel.val k).getD rd
end

def tDGet2 (td ty tx : TE) : TE := fun σ H Q => td σ H fun x H1 => ∃ a, x = .ref a ∧ IsD H1 a ∧ ty σ H1 fun y H2 => tx σ H2 fun z H3 => ∃ o, DGet H3 a y o ∧ Q (o.getD z) H3
section
variable {X : Cx} {o e f : Expr} {apos cpos : Pos} {td ty tx : TE}
theorem pe_dget2 (hu : X.A.units + 1 < cLine) (ho : PE X o td) (he : PE X e ty) (hf : PE X f tx) (m : M2 X o "get" apos e f cpos) : PE X (.Call (.Attribute o "get" apos) [e, f] [] cpos) (tDGet2 td ty tx) := by
  intro pins s σ H Q I h
  refine wpAny_Call_method m.base m.few m.line PySem.F.plainAttrs_dict PySem.F.slot_dict_get PySem.F.type_dict_get (thn (ho pins s σ H _ I h) fun u s1 ⟨x, H1, I1, rx, a, ex, d, q1⟩ => ?_)
  subst ex
  obtain rfl : u = Value.ref a := rx
  obtain ⟨t1, t2, _⟩ := isD_at I1 d
  refine ⟨t1, t2, ?_⟩
  rw [m.trees]
  refine Calls.callWith_builtin rfl (Calls.evalArgs_plain (Calls.spliced_cons (thn (he pins s1 σ H1 _ I1 q1) fun iv s2 ⟨y, H2, I2, ry, q2⟩ =>
    Calls.spliced_cons (thn (hf pins s2 σ H2 _ I2 q2) fun fv s3 ⟨z, H3, I3, rz, ov, g, q3⟩ => Calls.spliced_nil ?_))))
  exact d_get2 hu I3 g ry rz fun w' s4 I4 rw' => ⟨_, H3, I4, rw', q3⟩
end

/-! ### dict(d): a copy -/
section
variable {X : Cx} {pins : List (Addr × Obj)} {σ : St} {H : Hp} {s : Shared} {a : Addr} {kvs : List (Key × V)} {A : Around} {E : Value → Shared → Prop}
end


section
variable {X : Cx} {pins : List (Addr × Obj)} {σ : St} {H : Hp} {s : Shared} {a : Addr} {y : V} {u : Value} {A : Around} {E : Value → Shared → Prop}
end
end L2

set_option maxHeartbeats 1000000
/-! ### x in d.values(); list(reversed(text)) -/
namespace L2
open PySem PySem.Spec PyProof.Rows
section
variable {prog : Program} {w : World} {KK : Type} [DecidableEq KK] {knd : KeyKind prog w KK}
end
def valsO (p d : Addr) : HO := .ext fun h => h.IsValuesView p d
def rVals : V → List V → Hp → VK → Prop := fun x vs H Q => ∃ d kvs, x = .ref d ∧ vs = [] ∧ H d = some (.dK kvs) ∧ ∀ p, H p = none → Q (.ref p) (upd H p (valsO p d))
section
variable {X : Cx}
theorem mt_values : MtR X "dict.values" rVals := by
  intro pins s σ H x vs v us Q I rx rv h
  obtain ⟨d, kvs, rfl, rfl, hd, q⟩ := h
  cases rx
  have e : us = [] := by cases rv; rfl
  subst e
  obtain ⟨z, lo, ws, kv, dd⟩ := dk_of I.hok hd
  refine call_meetsIn PySem.F.slot_dict_values dd.typeIs PySem.F.entry_dict_values (PySem.F.args_dict_values_1 _) (meets_dict_values (mixKind X.prog X.w) d lo) ⟨⟨ws, dd⟩, ?_⟩
  refine ⟨.ref s.heap.objs.size, upd H s.heap.objs.size (valsO _ d), I.laid (t' := s.toks) (fun b o e => Heap.get?_push_of_some _ e) (Nat.le_refl _) ?_, rfl, q _ I.fresh⟩
  exact ⟨⟨_, Heap.get?_push_size _ rfl, rfl, rfl⟩, ⟨_, Heap.get?_push_size _ rfl⟩, fun h1 h2 ⟨o, ho, r⟩ k => ⟨o, k o ho, r⟩⟩
theorem kv_vals : ∀ {kvs : List (Key × V)} {ws : List (Key × Value)}, KV kvs ws → Vals (kvs.map (·.2)) (ws.map (·.2))
  | _, _, .nil => .nil
  | _, _, .cons r t => .cons r.2 (kv_vals t)
end
end L2
/-! ### sum(list of whole numbers); isinstance(number, int), isinstance(number, bool) -/
namespace L2
open PySem PySem.Spec PyProof.Rows
section
variable {X : Cx}
theorem sl_tupK (K : PySem.W.Frag) (h : X.K = K) : SlR X (rSlT K) := by subst h; exact sl_tup
end
end L2
/-! ### a comprehension within another one: its own names may be cells -/
namespace L2
open PySem PySem.Spec PyProof.Rows
end L2
set_option maxHeartbeats 4000000
/-! ### own exception classes below ValueError: made, their fields, raised, caught -/
namespace XL
open PySem PySem.Spec PySem.Calls PyProof.Rows PySem.W Builtin Builtin.ObjectAttr
/-- what stands above the own classes -/
abbrev VB : List Value := [.type "ValueError", .type "Exception", .type "BaseException", .type "object"]
/-- an own class below ValueError, by the text's own objects -/
def xIn (K : Frag) (C : Addr) : Bool := match K.lookup C with
  | some ⟨.type "type", _, .cls cd, sl⟩ => (match cd.mro, sl.toList with
    | .ref C' :: bm, [_, _, _, _, some (.builtin n), _] => C' == C && n == "ValueError.__new__" && !cd.hasDel && cd.hasDict && tailIn K VB bm && nsOkIn K cd.ns
    | _, _ => false)
  | _ => false
structure XObj (K : Frag) (h : Heap) (C : Addr) : Prop where
  obj : ∃ bm N nm q bs sn sub ab col dd k0 k1 k2 k3 k5 mN, h.get? C = some (excClassObj nm q C N bs bm true sn sub ab col dd k0 k1 k2 k3 k5 "ValueError.__new__") ∧ h.Ns N mN ∧ OwnTail h VB bm ∧ clsIn K C = some { name := nm, bases := bs, mro := .ref C :: bm, ns := N, qualname := q, hasDict := true, slotNames := sn, subclasses := sub, abstract := ab, collection := col, hasDel := false }
theorem xobj_of {K : Frag} {h : Heap} {C : Addr} (X : K.In h) (e : xIn K C = true) : XObj K h C := by
  unfold xIn at e
  split at e
  · rename_i dd cd sl ho
    split at e
    · rename_i C' bm k0 k1 k2 k3 n k5 hm hs
      simp only [Bool.and_eq_true, beq_iff_eq, Bool.not_eq_true'] at e
      obtain ⟨⟨⟨⟨⟨rfl, rfl⟩, hdel⟩, hdct⟩, ht⟩, hok⟩ := e
      obtain ⟨nm, bs, mro, ns, qn, hd, sn, sub, ab, col, del⟩ := cd
      dsimp only at hm hdel hok hdct
      subst hm hdel hdct
      have hsl : sl = #[k0, k1, k2, k3, some (.builtin "ValueError.__new__"), k5] := by
        obtain ⟨l⟩ := sl
        simp only at hs
        rw [hs]
      subst hsl
      exact ⟨bm, ns, nm, qn, bs, sn, sub, ab, col, dd, k0, k1, k2, k3, k5, _, X _ _ ho, .of_isNs (isNs_of_in X hok), tail_of_in X ht, by unfold clsIn; rw [ho]⟩
    · cases e
  · cases e
theorem lk_at {α : Type} {M : Model} {A : Around} {E : Value → Shared → Prop} {h : Heap} {g : Array GenState} {d : Drawn} {t : Nat} {os : OsState} {T : Sem α} {r : α} {Q : α → Shared → Prop} (x : Looks M h T r) (q : Q r ⟨h, g, d, t, os⟩) : wpAny M A T Q E ⟨h, g, d, t, os⟩ := x A Q E _ (fun _ _ e => e) q
abbrev excNew (C t : Addr) : Obj := { cls := .ref C, data := .fields #[.ref t, .none, .none, .none, .bool false, .none] }
section
variable {prog : Program} {w : World} {A : Around} {E : Value → Shared → Prop} {h : Heap} {g : Array GenState} {d : Drawn} {t : Nat} {os : OsState} {K : Frag} {C : Addr}
theorem x_type_call {rest : List Value} {init : Value} {Q : Fin → Shared → Prop} (X : XObj K h C) (hi : Looks (model prog w) h (typeLookup (.ref C) "__init__") (some init)) (hb : ∀ self, Looks (model prog w) h (bindSpecial init self) (init, [self])) (hrest : rest.length ≤ sizeLine)
    (hq : wpAny (model prog w) A (call init (.ref (h.objs.size + 1) :: rest)) (fun v s' => v = .none ∧ Q (.done (.ret (.ref (h.objs.size + 1)))) s') E ⟨(h.push { cls := .type "tuple", data := .seq rest.toArray }).push (excNew C h.objs.size), g, d, t, os⟩) :
    wpAny (model prog w) A (Builtin.«type.__call__» ⟨.ref C :: rest, []⟩) Q E ⟨h, g, d, t, os⟩ := by
  obtain ⟨bm, N, nm, q, bs, sn, sub, ab, col, dd, k0, k1, k2, k3, k5, mN, hC, hn, T, _⟩ := X.obj
  have F := PySem.F.excBase_ValueError
  repeat (first | with_reducible refine wpAny_loadPart_at hC ?_ | with_reducible refine wpAny_madeBy_exc hC ?_ | wp_step)
  refine codeAny_call_builtin_code (Code.quiet_builtin _ F.quiet) (wpAny_check_new_subT F T hC ?_)
  refine codeAny_exc_new_subT F T hC ?_ hrest
  show wpAny _ _ _ _ _ _
  have kp : ∀ b o, h.get? b = some o → ((h.push { cls := .type "tuple", data := .seq rest.toArray }).push (excNew C h.objs.size)).get? b = some o := fun b o e => Heap.get?_push_of_some _ (Heap.get?_push_of_some _ e)
  have hC₁ := kp _ _ hC
  have hget : ((h.push { cls := .type "tuple", data := .seq rest.toArray }).push (excNew C h.objs.size)).get? (h.objs.size + 1) = some (excNew C h.objs.size) := by heap_get
  have hcC : (Value.ref C :: bm).contains (.ref C) = true := by simp
  have i1 := hi.keeps kp
  have b1 := (hb (.ref (h.objs.size + 1))).keeps kp
  unfold isInstance
  repeat (first | with_reducible refine wpAny_loadPart_at hget ?_ | (with_reducible refine wpAny_isSubtype_exc hC₁ ?_; rw [hcC]) | wp_step)
  show wpAny _ _ (typeLookup (.ref C) _) _ _ _
  refine i1.here ?_
  refine wpAny_holding (wpAny_bind (b1.here ?_))
  refine wpAny_bind (wpAny_mono hq (fun v s' z => ?_) fun _ _ e => e)
  obtain ⟨rfl, z⟩ := z
  exact wpAny_pure (wpAny_pure z)
theorem x_call {rest : List Value} {init : Value} {Q : Value → Shared → Prop} (X : XObj K h C) (hi : Looks (model prog w) h (typeLookup (.ref C) "__init__") (some init)) (hb : ∀ self, Looks (model prog w) h (bindSpecial init self) (init, [self])) (hrest : rest.length ≤ sizeLine)
    (hq : wpAny (model prog w) (A.under (.builtin "type.__call__" ⟨.ref C :: rest, []⟩)) (call init (.ref (h.objs.size + 1) :: rest)) (fun v s' => v = .none ∧ Q (.ref (h.objs.size + 1)) s') E ⟨(h.push { cls := .type "tuple", data := .seq rest.toArray }).push (excNew C h.objs.size), g, d, t, os⟩) :
    wpAny (model prog w) A (call (.ref C) rest) Q E ⟨h, g, d, t, os⟩ := by
  obtain ⟨bm, N, nm, q, bs, sn, sub, ab, col, dd, k0, k1, k2, k3, k5, mN, hC, hn, T, _⟩ := X.obj
  have f1 := tc_lookup
  have f2 := tc_bind (.ref C)
  have hT : (⟨h, g, d, t, os⟩ : Shared).TypeIs (.ref C) "type" := ⟨_, hC, rfl⟩
  refine wpAny_call (codeAny_of_tree ?_)
  show wpAny _ _ (callAny (.ref C) _) _ _ _
  repeat (any_goals (first | assumption | with_reducible refine wpAny_loadPart_at hC ?_ | wp_step))
  refine ⟨rfl, ?_⟩
  exact codeAny_call_builtin_at (Code.quiet_builtin _ (by decide +kernel)) entry_typeCall (wpAny_check_type_call_sub hC (x_type_call X hi hb hrest hq))
/-- the base's own __init__: the arguments are laid anew -/
theorem x_init {rest : List Value} {e : Addr} {oe : Obj} {vs : Array Value} {Q : Value → Shared → Prop} (X : XObj K h C) (he : h.get? e = some oe) (hc : oe.cls = .ref C) (hd : oe.data = .fields vs) {t0 : Addr} (h0 : vs[0]? = some (.ref t0)) (hrest : rest.length ≤ sizeLine)
    (hq : Q .none ⟨(h.push { cls := .type "tuple", data := .seq rest.toArray }).update e (Obj.mapFields (·.setIfInBounds 0 (.ref h.objs.size))), g, d, t, os⟩) :
    wpAny (model prog w) A (call (.builtin "ValueError.__init__") (.ref e :: rest)) Q E ⟨h, g, d, t, os⟩ := by
  obtain ⟨bm, N, nm, q, bs, sn, sub, ab, col, dd, k0, k1, k2, k3, k5, mN, hC, hn, T, _⟩ := X.obj
  have F := PySem.F.excBase_ValueError
  refine wpAny_call (codeAny_call_builtin F.init.plain F.initEntry (wpAny_check_init_subT F T hC he hc ?_))
  wp_walk
  rw [hd]
  refine wpAny_pure ?_
  rw [h0]
  refine wpAny_pure (wpAny_bind ?_)
  have hsz : 0 < vs.size := (Array.getElem?_eq_some_iff.mp h0).1
  refine wpAny_setField (Heap.get?_push_of_some _ he) hd hsz ?_
  wp_walk
  exact hq
theorem refuse_tail {bm : List Value} (T : OwnTail h VB bm) (self : Value) : refuseLoop self "__setattr__" bm = pure () := by
  induction T with
  | base => exact PySem.F.store_ValueError.passes self
  | own _ _ _ _ ih => rw [refuseLoop_ref]; exact ih
variable {x : Addr} {mA : Str → Option Value} {name : Str} {v : Value}
/-- the exception's own dict, laid where there is none -/
theorem x_dict {o : Obj} {Q : Option Addr → Shared → Prop} (X : XObj K h C) (hx : h.get? x = some o) (hc : o.cls = .ref C) (hnc : ∀ c, o.data ≠ .cls c)
    (h1 : ∀ dx, o.dict = some dx → Q (some dx) ⟨h, g, d, t, os⟩) (h2 : o.dict = none → Q (some h.objs.size) ⟨(h.push emptyDict).update x fun o => { o with dict := some h.objs.size }, g, d, t, os⟩) :
    wpAny (model prog w) A (instanceDict x true) Q E ⟨h, g, d, t, os⟩ := by
  obtain ⟨bm, N, nm, q, bs, sn, sub, ab, col, dd, k0, k1, k2, k3, k5, mN, hC, _⟩ := X.obj
  unfold instanceDict
  repeat (first | (with_reducible refine wpAny_loadPart_at hx ?_; rw [hc]) | with_reducible refine wpAny_loadPart_at hC ?_ | wp_step)
  cases e : o.dict with
  | some dx => exact wpAny_pure (h1 dx e)
  | none =>
    have lay : wpAny (model prog w) A (do
        let d ← alloc { cls := .type "dict", data := .dict #[] }
        update x fun o => { o with dict := some d }
        dictMade (.ref C) x d) Q E ⟨h, g, d, t, os⟩ := wpAny_bind (wpAny_alloc (wpAny_bind (wpAny_update (Heap.get?_push_of_some _ hx) (wpAny_pure (h2 e)))))
    obtain ⟨oc, od, odt, osl⟩ := o
    cases odt <;> first | exact lay | exact absurd rfl (hnc _)
/-- a name is put into a dict of names -/
theorem x_put {dx : Addr} {ns : List Str} {tk : Tok} {Q : Fin → Shared → Prop} (hn : h.Ns1 dx mA) (hw : Within mA ns) (hz : ns.length < sizeLine)
    (hq : ∀ h', h'.Ns1 dx (fun y => if y = name then some v else mA y) → Heap.SameBut dx h h' → Q (.done (.ret .none)) ⟨h', g, d, t + 1, os⟩) : wpAny (model prog w) A (storeInDict dx (.str name tk) name v) Q E ⟨h, g, d, t, os⟩ := by
  unfold storeInDict
  refine wpAny_bind (wpAny_pure (wpAny_bind (wpAny_nsSet1 hn fun h' n1 n2 => ?_)))
  obtain ⟨oD, esD, epD, a1, a2, a3⟩ := n1.count (Within.cons name v hw)
  refine wpAny_bind (wpAny_lookBehind a1 (by rw [a2]; exact pastItsLine_dict (Nat.le_trans a3 (by rw [List.length_cons]; omega))) ?_)
  exact wpAny_pure (hq h' n1 n2)
theorem x_store {tk : Tok} {Q : Fin → Shared → Prop} {ns : List Str} (KI : K.In h) (X : XObj K h C) (hn : findIn K (.ref C) name = some none) (I : h.Inst x C mA)
    (hq : ∀ h' tk', h'.Inst x C (fun y => if y = name then some v else mA y) →
      (∀ b o, b ≠ x → (∀ o₀ dx, h.get? x = some o₀ → o₀.dict = some dx → b ≠ dx) → h.get? b = some o → h'.get? b = some o) →
      (∀ o₀, h.get? x = some o₀ → ∃ o₁, h'.get? x = some o₁ ∧ o₁.cls = o₀.cls ∧ o₁.data = o₀.data ∧ o₁.slots = o₀.slots ∧ (∀ dx, o₀.dict = some dx → o₁.dict = some dx) ∧ (o₀.dict = none → o₁.dict = some h.objs.size)) → Q (.done (.ret .none)) ⟨h', g, d, tk', os⟩) (hw : Within mA ns) (hsz : ns.length < sizeLine) :
    wpAny (model prog w) A (Builtin.«object.__setattr__» ⟨[.ref x, .str name tk, v], []⟩) Q E ⟨h, g, d, t, os⟩ := by
  obtain ⟨bm, N, nm, q, bs, sn, sub, ab, col, dd, k0, k1, k2, k3, k5, mN, hC, _, T, _⟩ := X.obj
  obtain ⟨o, hx, hc, hnc, hd⟩ := I
  have t1 : Looks (model prog w) h (typeOf (.ref x)) (.ref C) := hc ▸ (Looks.ld hx).andThen .now
  have same : ∀ o₀, h.get? x = some o₀ → o = o₀ := fun o₀ e => Option.some.inj (hx.symm.trans e)
  rw [osa_eq]
  refine wpAny_bind ?_
  rw [refuse_eq]
  refine wpAny_bind (lk_at t1 (wpAny_bind (wpAny_mroOf_exc hC ?_)))
  rw [refuseLoop_ref, refuse_tail T]
  refine wpAny_pure (wpAny_bind (lk_at t1 (wpAny_bind (lk_at (looks_findIn KI hn) (wpAny_bind (wpAny_pure ?_))))))
  show wpAny _ _ (storeInOwnDict (.ref x) (.ref C) (.str name tk) name v false) _ _ _
  unfold storeInOwnDict
  refine wpAny_bind (wpAny_pure (wpAny_bind (x_dict X hx hc hnc (fun dx e => ?_) (fun e => ?_))))
  · rcases hd with ⟨z, _⟩ | ⟨dx', e', ne, n1⟩
    · rw [z] at e; cases e
    · rw [e'] at e
      cases e
      refine x_put n1 hw hsz fun h' n2 sb => hq h' _ ⟨o, (sb.2 x ne.symm).trans hx, hc, hnc, .inr ⟨dx, e', ne, n2⟩⟩ (fun b ob _ away hb => (sb.2 b (away o dx hx e')).trans hb) fun o₀ e0 => ?_
      cases same o₀ e0
      exact ⟨o, (sb.2 x ne.symm).trans hx, rfl, rfl, rfl, fun _ y => y, fun y => by (rw [e'] at y; cases y)⟩
  · have empty : ∀ n, mA n = none := by
      rcases hd with ⟨_, z⟩ | ⟨dx', e', _⟩
      · exact z
      · rw [e'] at e; cases e
    have lt : x ≠ h.objs.size := Nat.ne_of_lt (Heap.lt_size hx)
    have live : Obj.isFreed { o with dict := some h.objs.size } = false := by
      have := (Heap.get?_some_iff.mp hx).2
      obtain ⟨oc, od, odt, osl⟩ := o
      cases odt <;> first | rfl | exact this
    have gx := Heap.get?_update_self (fun o : Obj => { o with dict := some h.objs.size }) (Heap.get?_push_of_some emptyDict hx) live
    have gd : ((h.push emptyDict).update x fun o => { o with dict := some h.objs.size }).get? h.objs.size = some emptyDict := (Heap.get?_update_ne _ _ _ _ (Ne.symm lt)).trans (Heap.get?_push_at rfl rfl)
    have nd : ((h.push emptyDict).update x fun o => { o with dict := some h.objs.size }).Ns1 h.objs.size fun _ => none := Heap.Ns1.of_empty ⟨_, #[], _, gd, rfl, fun y hy => absurd hy (by simp), fun _ => rfl⟩
    have old : ∀ b ob, b ≠ x → h.get? b = some ob → ((h.push emptyDict).update x fun o => { o with dict := some h.objs.size }).get? b = some ob := fun b ob hb e => (Heap.get?_update_ne _ _ _ _ hb).trans (Heap.get?_push_of_some _ e)
    refine x_put (ns := []) nd Within.nil (by decide) fun h' n2 sb => hq h' _ ⟨_, (sb.2 x lt).trans gx, hc, hnc, .inr ⟨h.objs.size, rfl, Ne.symm lt, ?_⟩⟩ (fun b ob hb _ eb => (sb.2 b (Nat.ne_of_lt (Heap.lt_size eb))).trans (old b ob hb eb)) fun o₀ e0 => ?_
    · obtain ⟨o', es, ep, y1, y2, y3, y4, y5⟩ := n2
      refine ⟨o', es, ep, y1, y2, y3, y4, fun y => (y5 y).trans ?_⟩
      show (if y = name then some v else none) = if y = name then some v else mA y
      by_cases z : y = name
      · rw [if_pos z, if_pos z]
      · rw [if_neg z, if_neg z, empty]
    · cases same o₀ e0
      exact ⟨_, (sb.2 x lt).trans gx, rfl, rfl, rfl, fun dx y => by (rw [e] at y; cases y), fun _ => rfl⟩
theorem x_set {Q : Unit → Shared → Prop} {ns : List Str} (KI : K.In h) (X : XObj K h C) (hs : findIn K (.ref C) "__setattr__" = some (some (.builtin "object.__setattr__"))) (hn : findIn K (.ref C) name = some none) (I : h.Inst x C mA)
    (hq : ∀ h' tk', h'.Inst x C (fun y => if y = name then some v else mA y) →
      (∀ b o, b ≠ x → (∀ o₀ dx, h.get? x = some o₀ → o₀.dict = some dx → b ≠ dx) → h.get? b = some o → h'.get? b = some o) →
      (∀ o₀, h.get? x = some o₀ → ∃ o₁, h'.get? x = some o₁ ∧ o₁.cls = o₀.cls ∧ o₁.data = o₀.data ∧ o₁.slots = o₀.slots ∧ (∀ dx, o₀.dict = some dx → o₁.dict = some dx) ∧ (o₀.dict = none → o₁.dict = some h.objs.size)) → Q () ⟨h', g, d, tk', os⟩) (hw : Within mA ns) (hsz : ns.length < sizeLine) :
    wpAny (model prog w) A (setAttr (.ref x) name v) Q E ⟨h, g, d, t, os⟩ := by
  obtain ⟨bm, N, nm, q, bs, sn, sub, ab, col, dd, k0, k1, k2, k3, k5, mN, hC, _, T, _⟩ := X.obj
  obtain ⟨o, hx, hc, _⟩ := id I
  have SF := PySem.F.store_ValueError
  have f3 := SF.slot.bind (.ref x)
  have L := looks_findIn (M := model prog w) KI hs
  have hcO : (Value.ref C :: bm).contains (.type "object") = true := by rw [List.contains_cons, T.hasType (X := "object") (b := true) (by decide +kernel), Bool.or_true]
  unfold setAttr callSpecial? specialOf
  repeat (any_goals (first | assumption | (with_reducible refine wpAny_loadPart_at hx ?_; rw [hc]) | with_reducible refine lk_at L ?_ | wp_step))
  refine codeAny_call_builtin SF.slot.plain SF.entry ?_
  refine @check_slot (model prog w) _ _ _ "object.__setattr__" "object" "__setattr__" (.ref x) _ [] _ SF.kind SF.split ?_ (SF.args _ _ _) (x_store KI X hn I (fun h' tk' I' hk hsame => ?_) hw hsz)
  · have t1 : Looks (model prog w) h (typeOf (.ref x)) (.ref C) := hc ▸ (Looks.ld hx).andThen .now
    refine t1.andThen ?_
    intro A Q E s k q
    obtain ⟨hh, gg, ddr, tt, oos⟩ := s
    refine wpAny_isSubtype_exc (k _ _ hC) ?_
    rw [hcO]; exact q
  repeat (any_goals (first | assumption | wp_step))
  exact hq h' tk' I' hk hsame
/-- an attribute of the exception's own -/
theorem x_get {expr : Bool} {Q : Value → Shared → Prop} (KI : K.In h) (X : XObj K h C) (hga : findIn K (.ref C) "__getattribute__" = some (some (.builtin "BaseException.__getattribute__"))) (hk : findIn K (.ref C) "__getattr__" = some none)
    (hn : findIn K (.ref C) name = some none) {ox od : Obj} (I : InstAt h x ox C (some od)) (hl : lookIn name od = some (some v)) (hv : handedIn v = true) (hq : Q v ⟨h, g, d, t + 1, os⟩) :
    wpAny (model prog w) A (getAttr (.ref x) name expr) Q E ⟨h, g, d, t, os⟩ := by
  obtain ⟨bm, N, nm, q, bs, sn, sub, ab, col, dd, k0, k1, k2, k3, k5, mN, hC, _, T, hcd⟩ := X.obj
  have hx := I.at_
  have hc := I.cls
  have FB := PySem.F.attrBase_ValueError
  have f3 := FB.ga.bind (.ref x)
  have hx0 : (expr && onTheHeap (Value.builtin "BaseException.__getattribute__")) = false := by cases expr <;> rfl
  have hx2 : (Value.builtin "BaseException.__getattribute__" == Value.builtin "object.__getattribute__") = false := by decide +kernel
  have hx1 : (onTheHeap (Value.ref C) && Value.builtin "BaseException.__getattribute__" == Value.builtin "object.__getattribute__") = false := by rw [hx2]; rfl
  have L1 := looks_findIn (M := model prog w) KI hga
  have L2 := looks_findIn (M := model prog w) KI hk
  have hcB : (Value.ref C :: bm).contains (.type "BaseException") = true := by rw [List.contains_cons, T.hasType (X := "BaseException") (b := true) (by decide +kernel), Bool.or_true]
  have hf : findObj K C (some od) name = some (.value v) := by
    unfold findObj
    rw [hcd, hn]
    show (Option.bind (PySem.W.ownOf _ (some od) name) _) = _
    unfold PySem.W.ownOf
    rw [if_pos rfl]
    show (Option.bind (lookIn name od) _) = _
    rw [hl]
    rfl
  have t1 : Looks (model prog w) h (typeOf (.ref x)) (.ref C) := hc ▸ (Looks.ld hx).andThen .now
  have LF := looks_find (M := model prog w) KI I hf
  unfold getAttr getAttrBy
  repeat (any_goals (first | assumption | (with_reducible refine wpAny_loadPart_at hx ?_; rw [hc]) | with_reducible refine lk_at L1 ?_ | with_reducible refine lk_at L2 ?_ | wp_step))
  refine codeAny_call_builtin FB.ga.plain PySem.F.entry_bexc_ga ?_
  refine @check_slot (model prog w) _ _ _ "BaseException.__getattribute__" "BaseException" "__getattribute__" (.ref x) _ [] _ (by decide +kernel) (by decide +kernel) ?_ (PySem.F.args_bexc_ga _ _) ?_
  · refine t1.andThen ?_
    intro A Q E s k q
    obtain ⟨hh, gg, ddr, tt, oos⟩ := s
    refine wpAny_isSubtype_exc (k _ _ hC) ?_
    rw [hcB]; exact q
  unfold Builtin.«object.__getattribute__»
  repeat (first | with_reducible refine lk_at t1 ?_ | with_reducible refine lk_at LF ?_ | wp_step)
  show wpAny _ _ (handedOut v) _ _ _
  rw [handedOut_of hv]
  exact wpAny_pure hq
end
end XL
set_option maxHeartbeats 4000000
namespace XL
open PySem PySem.Spec PySem.Calls PyProof.Rows PySem.W Builtin Builtin.ObjectAttr
/-- what the text's own objects must tell of an exception class -/
structure XC (K : Frag) (C : Addr) : Prop where
  is : xIn K C = true
  ga : findIn K (.ref C) "__getattribute__" = some (some (.builtin "BaseException.__getattribute__"))
  gh : findIn K (.ref C) "__getattr__" = some none
  sa : findIn K (.ref C) "__setattr__" = some (some (.builtin "object.__setattr__"))
  cl : findIn K (.ref C) "__class__" = some (some (.builtin "object.__class__"))
  cg : specialIn K (.builtin "object.__class__") "__get__" = some (some (.builtin "getset_descriptor.__get__"))
  ct : takesIn K (.builtin "object.__class__") = some true
  ob : mroIn K C (.type "object") = some true
  kp : keepIn K (.ref C) = true
def XAt (e C : Addr) (h : Heap) : Prop := ∃ ox, h.get? e = some ox ∧ ox.cls = .ref C ∧ notCls ox = true ∧ (∀ d, ox.dict = some d → ∃ od, h.get? d = some od)
theorem XAt.inst {e C : Addr} {h : Heap} (p : XAt e C h) : ∃ ox od, InstAt h e ox C od := by
  obtain ⟨ox, h1, h2, h3, h4⟩ := p
  cases hd : ox.dict with
  | none => exact ⟨ox, none, h1, h2, h3, by rw [hd]; trivial⟩
  | some d =>
    obtain ⟨od, h5⟩ := h4 d hd
    exact ⟨ox, some od, h1, h2, h3, by rw [hd]; exact h5⟩
section
variable {prog : Program} {w : World} {A : Around} {E : Value → Shared → Prop} {h : Heap} {g : Array GenState} {d : Drawn} {t : Nat} {os : OsState} {K : Frag} {C x : Addr}
theorem x_class {Q : Option Value → Shared → Prop} (KI : K.In h) (c : XC K C) (p : XAt x C h) (hq : Q (some (.ref C)) ⟨h, g, d, t + 1, os⟩) : wpAny (model prog w) A (getAttr? (.ref x) "__class__") Q E ⟨h, g, d, t, os⟩ := by
  obtain ⟨ox, od, I⟩ := p.inst
  obtain ⟨bm, N, nm, q, bs, sn, sub, ab, col, dd, k0, k1, k2, k3, k5, mN, hC, _, T, hcd⟩ := (xobj_of KI c.is).obj
  have hx := I.at_
  have hc := I.cls
  have FB := PySem.F.attrBase_ValueError
  have f3 := FB.ga.bind (.ref x)
  have hx0 : (false && onTheHeap (Value.builtin "BaseException.__getattribute__")) = false := rfl
  have hx2 : (Value.builtin "BaseException.__getattribute__" == Value.builtin "object.__getattribute__") = false := by decide +kernel
  have hx1 : (onTheHeap (Value.ref C) && Value.builtin "BaseException.__getattribute__" == Value.builtin "object.__getattribute__") = false := by rw [hx2]; rfl
  have L1 := looks_findIn (M := model prog w) KI c.ga
  have L2 := looks_findIn (M := model prog w) KI c.gh
  have hcB : (Value.ref C :: bm).contains (.type "BaseException") = true := by rw [List.contains_cons, T.hasType (X := "BaseException") (b := true) (by decide +kernel), Bool.or_true]
  have hf : findObj K C od "__class__" = some (.bind (.builtin "getset_descriptor.__get__") (.builtin "object.__class__")) := by
    unfold findObj
    rw [hcd, Option.bind_some, c.cl, Option.bind_some]
    simp [c.cg, c.ct]
  have t1 : Looks (model prog w) h (typeOf (.ref x)) (.ref C) := hc ▸ (Looks.ld hx).andThen .now
  have LF := looks_find (M := model prog w) KI I hf
  unfold getAttr? getAttrBy? getAttrBy
  repeat (any_goals (first | assumption | (with_reducible refine wpAny_loadPart_at hx ?_; rw [hc]) | with_reducible refine lk_at L1 ?_ | with_reducible refine lk_at L2 ?_ | wp_step))
  refine codeAny_call_builtin FB.ga.plain PySem.F.entry_bexc_ga ?_
  refine @check_slot (model prog w) _ _ _ "BaseException.__getattribute__" "BaseException" "__getattribute__" (.ref x) _ [] _ (by decide +kernel) (by decide +kernel) ?_ (PySem.F.args_bexc_ga _ _) ?_
  · refine t1.andThen ?_
    intro A Q E s k q
    obtain ⟨hh, gg, ddr, tt, oos⟩ := s
    refine wpAny_isSubtype_exc (k _ _ hC) ?_
    rw [hcB]; exact q
  unfold Builtin.«object.__getattribute__»
  repeat (first | with_reducible refine lk_at t1 ?_ | with_reducible refine lk_at LF ?_ | wp_step)
  refine class_get (s := ⟨h, g, d, t + 1, os⟩) KI I c.ob (wpAny_pure ?_)
  exact handed_on rfl (wpAny_pure hq)
theorem kitx_exc (c : XC K C) : KitX K (.ref x) (.ref C) (XAt x C) where
  ty := fun _ _ _ p => by
    obtain ⟨ox, od, I⟩ := p.inst
    exact I.type
  it := fun _ h X _ => by
    obtain ⟨bm, N, nm, q, bs, sn, sub, ab, col, dd, k0, k1, k2, k3, k5, mN, hC, _⟩ := (xobj_of X c.is).obj
    intro A' Q' E' s' k q
    unfold isType loadHead
    exact wpAny_bind (wpAny_loadPart (k _ _ hC) (wpAny_pure q))
  ne := fun h tp dd its n sl X htp => by
    obtain ⟨bm, N, nm, q, bs, sn, sub, ab, col, dd, k0, k1, k2, k3, k5, mN, hC, _⟩ := (xobj_of X c.is).obj
    refine Bool.eq_false_iff.mpr fun q => ?_
    have e : C = tp := Value.ref.inj (beq_iff_eq.mp q)
    subst e
    have z := congrArg (Option.map Obj.cls) (hC.symm.trans htp)
    have z2 : Value.type "type" = Value.type "tuple" := Option.some.inj z
    exact absurd (Value.type.inj z2) (by decide)
  ca := fun {_ _ _ _ _ s} X p k => by
    obtain ⟨h, g, d, t, os⟩ := s
    exact x_class X c p k
/-- except M: the class of the exception is below M -/
theorem x_matches {M : Addr} {Q : Bool → Shared → Prop} (KI : K.In h) (c : XC K C) (cm : XC K M) (hs : mroIn K C (.ref M) = some true) (p : XAt x C h) (hq : Q true ⟨h, g, d, t, os⟩) :
    wpAny (model prog w) A (excMatches (.ref x) (.ref M)) Q E ⟨h, g, d, t, os⟩ := by
  obtain ⟨bm, N, nm, q, bs, sn, sub, ab, col, dd, k0, k1, k2, k3, k5, mN, hC, _, T, hcd⟩ := (xobj_of KI c.is).obj
  obtain ⟨bm', N', nm', q', bs', sn', sub', ab', col', dd', k0', k1', k2', k3', k5', mN', hM, _, T', hcd'⟩ := (xobj_of KI cm.is).obj
  obtain ⟨ox, he, hcls, _⟩ := p
  have hcB : (Value.ref M :: bm').contains (.type "BaseException") = true := by rw [List.contains_cons, T'.hasType (X := "BaseException") (b := true) (by decide +kernel), Bool.or_true]
  have hcC : (Value.ref C :: bm).contains (.ref M) = true := by
    unfold mroIn at hs
    rw [hcd, Option.bind_some] at hs
    have : (if (Value.ref C :: bm).isEmpty = true then none else some ((Value.ref C :: bm).contains (.ref M))) = some true := hs
    rw [if_neg (by simp)] at this
    exact Option.some.inj this
  have f := tc_notTuple
  unfold excMatches
  repeat (first | (with_reducible refine wpAny_loadPart_at he ?_; rw [hcls]) | with_reducible refine wpAny_loadPart_at hM ?_ | (with_reducible refine wpAny_isSubtype_exc hM ?_; rw [hcB]) | (with_reducible refine wpAny_isSubtype_exc hC ?_; rw [hcC]) | wp_step)
  exact hq
/-- raise e, e made ahead -/
theorem x_raise {env : Env} {s : Shared} {ex : Sem Value} {Q : Flow → Shared → Prop} (hh : A.handled = none)
    (hx : wpAny (model prog w) A ex (fun v s₁ => ∃ e C oe vs, v = .ref e ∧ K.In s₁.heap ∧ XC K C ∧ s₁.heap.get? e = some oe ∧ oe.cls = .ref C ∧ oe.data = .fields vs ∧ vs[1]? = some .none ∧ E (.ref e) s₁) E s) :
    wpAny (model prog w) A (raiseStmt env (some ex) none) Q E s := by
  unfold raiseStmt
  refine wpAny_bind (wpAny_mono hx (fun v s₁ h₁ => ?_) fun _ _ y => y)
  obtain ⟨e, C, oe, vs, rfl, KI, c, he, hcls, hdt, hf1, hE⟩ := h₁
  obtain ⟨hp, g, d, tk, os⟩ := s₁
  obtain ⟨bm, N, nm, q, bs, sn, sub, ab, col, dd, k0, k1, k2, k3, k5, mN, hC, _, T, hcd⟩ := (xobj_of KI c.is).obj
  have hcB : (Value.ref C :: bm).contains (.type "BaseException") = true := by rw [List.contains_cons, T.hasType (X := "BaseException") (b := true) (by decide +kernel), Bool.or_true]
  obtain ⟨oc, od, odt, osl⟩ := oe
  cases (show oc = .ref C from hcls)
  cases (show odt = .fields vs from hdt)
  repeat (first | with_reducible refine wpAny_loadPart_at he ?_ | with_reducible refine wpAny_loadPart_at hC ?_ | with_reducible refine wpAny_field he rfl hf1 ?_ | (with_reducible refine wpAny_isSubtype_exc hC ?_; rw [hcB]) | wp_step)
  exact wpAny_raiseNew_none hh hE
end
end XL
set_option maxHeartbeats 4000000
/-! ### an exception on its way: its record, its last entry -/
namespace XL
open PySem PySem.Spec PySem.Calls PyProof.Rows PySem.W
/-- not yet raised -/
def Ex0 (h : Heap) (e C : Addr) (dO : Option Addr) : Prop := ∃ oe vs, h.get? e = some oe ∧ oe.cls = .ref C ∧ oe.dict = dO ∧ oe.data = .fields vs ∧ vs[1]? = some .none
/-- raised: its last entry at T, with what stands there for the frame -/
def Tb (h : Heap) (e C : Addr) (dO : Option Addr) (T : Addr) (fl : Value) : Prop :=
  ∃ oe vs oT ts, h.get? e = some oe ∧ oe.cls = .ref C ∧ oe.dict = dO ∧ oe.data = .fields vs ∧ vs[1]? = some (.ref T) ∧ T ≠ e ∧ h.get? T = some oT ∧ oT.data = .fields ts ∧ ts[3]? = some fl
/-- all is kept but what is named; of the frames all but slots -/
structure Kept (S ex : List Addr) (h h' : Heap) : Prop where
  keep : ∀ b o, b ∉ ex → b ∉ S → h.get? b = some o → h'.get? b = some o
  slot : ∀ b o, b ∉ ex → b ∈ S → h.get? b = some o → ∃ sl, h'.get? b = some { o with slots := sl }
theorem Kept.trans {S ex ey : List Addr} {h h1 h2 : Heap} (a : Kept S ex h h1) (b : Kept S ey h1 h2) : Kept S (ex ++ ey) h h2 := by
  refine ⟨fun c o hx hs e => ?_, fun c o hx hs e => ?_⟩
  · rw [List.mem_append, not_or] at hx
    exact b.keep c o hx.2 hs (a.keep c o hx.1 hs e)
  · rw [List.mem_append, not_or] at hx
    obtain ⟨sl, e1⟩ := a.slot c o hx.1 hs e
    obtain ⟨sl2, e2⟩ := b.slot c _ hx.2 hs e1
    exact ⟨sl2, e2⟩
theorem Kept.mono {S ex ey : List Addr} {h h1 : Heap} (a : Kept S ex h h1) (k : ∀ b, b ∈ ex → b ∈ ey) : Kept S ey h h1 := ⟨fun c o hx => a.keep c o fun z => hx (k c z), fun c o hx => a.slot c o fun z => hx (k c z)⟩
theorem Kept.frames {S ex : List Addr} {h h' base : Heap} (a : Kept S ex h h') : ∀ {l : List Env}, (∀ b, b ∈ l.filterMap (·.frame) → b ∈ S ∧ b ∉ ex) → h.FunFrames base l → h'.FunFrames base l
  | [], _, _ => trivial
  | env :: r, hS, ⟨hk, ⟨L, o, hf, hn, ho, hd⟩, hr⟩ => by
    have hL := hS L (by rw [List.filterMap_cons, hf]; exact List.mem_cons_self)
    obtain ⟨sl, e⟩ := a.slot L o hL.2 hL.1 ho
    exact ⟨hk, ⟨L, _, hf, hn, e, hd⟩, Kept.frames a (fun b hb => hS b (by rw [List.filterMap_cons, hf]; exact List.mem_cons_of_mem _ hb)) hr⟩
section
variable {M : Model} {A : Around} {E : Value → Shared → Prop} {s : Shared} {base : Heap} {env : Env} {outer : List Env} {L e C : Addr} {dO : Option Addr}
/-- a frame's object is no exception's -/
theorem frame_apart {S : List Env} {b : Addr} {o : Obj} {vs : Array Value} (hl : s.heap.FunFrames base S) (hb : s.heap.get? b = some o) (hd : o.data = .fields vs) : b ∉ S.filterMap (·.frame) := fun z => by
  obtain ⟨_, o', e', n⟩ := hl.mem z
  rw [hb] at e'
  cases e'
  exact n vs hd
theorem x_entry {oe : Obj} {vs : Array Value} {head : Value} {hadNext : Bool} {Q : Unit → Shared → Prop} (hfr : A.frames = some (env :: outer)) (hl : s.heap.FunFrames base (env :: outer)) (hf : env.frame = some L)
    (he : s.heap.get? e = some oe) (hc : oe.cls = .ref C) (hdi : oe.dict = dO) (hd : oe.data = .fields vs) (hz : 1 < vs.size)
    (hQ : ∀ h' T, s.heap.get? T = none → Tb h' e C dO T (rawInt L) → Kept ((env :: outer).filterMap (·.frame)) [e] s.heap h' → Q () { s with heap := h' }) :
    wpAny M A (do setField (.ref e) 1 (← EntryCells.newEntry head (← frameOf env) .none (rawInt L) .none (← entryPlaceOf L hadNext))) Q E s := by
  have ap := frame_apart hl he hd
  refine wpAny_bind (wpAny_frameOf_fun hfr hl hf fun h1 so => ?_)
  refine wpAny_bind (wpAny_entryPlaceOf fun pl hpl => ?_)
  unfold EntryCells.newEntry newFields
  refine wpAny_bind (wpAny_newObj_type ?_ (hpl.sizeOk5 _ _ _ _ _))
  have e1 : h1.get? e = some oe := (so.2.1 e ap).trans he
  generalize hts : ([head, .ref L, .none, rawInt L, .none] ++ (if pl.isEmpty then List.replicate 6 Value.none else pl)).toArray = ts
  have t3 : ts[3]? = some (rawInt L) := by rw [← hts]; simp
  have ne : h1.objs.size ≠ e := Nat.ne_of_gt (Heap.lt_size e1)
  have d2 := Obj.data_mapFields hd (·.setIfInBounds 1 (Value.ref h1.objs.size))
  have e2 := Heap.get?_push_of_some { cls := .type "traceback", dict := none, data := .fields ts } e1
  refine wpAny_setField e2 hd hz ?_
  have e3 := Heap.get?_update_self (Obj.mapFields (·.setIfInBounds 1 (Value.ref h1.objs.size))) e2 (Obj.isFreed_of_fields d2)
  have other : ∀ b o, b ≠ e → h1.get? b = some o → ((h1.push { cls := .type "traceback", dict := none, data := .fields ts }).update e (Obj.mapFields (·.setIfInBounds 1 (Value.ref h1.objs.size)))).get? b = some o := fun b o hb e0 => by
    rw [Heap.get?_update_other _ _ (Ne.symm hb)]
    exact Heap.get?_push_of_some _ e0
  refine hQ _ h1.objs.size ?_ ⟨_, _, _, ts, e3, (Obj.cls_mapFields _ _).trans hc, ?_, d2, by simp [hz], ne, (Heap.get?_update_other _ _ (Ne.symm ne)).trans (Heap.get?_push_size h1 rfl), rfl, t3⟩ ⟨fun b o hb hS e0 => ?_, fun b o hb hS e0 => ?_⟩
  · exact Heap.get?_none_of_le (Nat.le_of_eq so.1.symm)
  · rw [← hdi]
    obtain ⟨oc, od, odt, osl⟩ := oe
    cases (show odt = _ from hd)
    rfl
  · exact other b o (fun z => hb (by simp [z])) ((so.2.1 b hS).trans e0)
  · obtain ⟨sl, e4⟩ := so.2.2 b o e0
    exact ⟨sl, other b _ (fun z => hb (by simp [z])) e4⟩
theorem x_note0 {Q : Unit → Shared → Prop} (hfr : A.frames = some (env :: outer)) (hl : s.heap.FunFrames base (env :: outer)) (hf : env.frame = some L) (hx : Ex0 s.heap e C dO)
    (hQ : ∀ h' T, s.heap.get? T = none → Tb h' e C dO T (rawInt L) → Kept ((env :: outer).filterMap (·.frame)) [e] s.heap h' → Q () { s with heap := h' }) : wpAny M A (noteFrame (.ref e) env) Q E s := by
  obtain ⟨oe, vs, he, hc, hdi, hd, h1⟩ := hx
  unfold noteFrame
  simp only [hf]
  refine wpAny_bind (wpAny_field he hd h1 ?_)
  rw [if_neg (by decide)]
  exact x_entry hfr hl hf he hc hdi hd (Array.getElem?_eq_some_iff.mp h1).1 hQ
theorem x_noteT {T0 : Addr} {Q : Unit → Shared → Prop} (hfr : A.frames = some (env :: outer)) (hl : s.heap.FunFrames base (env :: outer)) (hf : env.frame = some L) (hx : Tb s.heap e C dO T0 .none)
    (hQ : ∀ h' T, s.heap.get? T = none → Tb h' e C dO T (rawInt L) → Kept ((env :: outer).filterMap (·.frame)) [T0, e] s.heap h' → Q () { s with heap := h' }) : wpAny M A (noteFrame (.ref e) env) Q E s := by
  obtain ⟨oe, vs, oT, ts, he, hc, hdi, hd, h1, ne, hT, hdT, h3⟩ := hx
  unfold noteFrame
  simp only [hf]
  refine wpAny_bind (wpAny_field he hd h1 ?_)
  rw [if_pos (by simp)]
  refine wpAny_bind (wpAny_field hT hdT h3 ?_)
  rw [if_neg (by simp [rawInt])]
  refine wpAny_bind (wpAny_setField hT hdT (Array.getElem?_eq_some_iff.mp h3).1 ?_)
  have apT := frame_apart hl hT hdT
  have k1 : Kept ((env :: outer).filterMap (·.frame)) [T0] s.heap (s.heap.update T0 (Obj.mapFields (·.setIfInBounds 3 Value.none))) :=
    ⟨fun b o hb _ e0 => (Heap.get?_update_other _ _ (fun z => hb (by simp [z]))).trans e0, fun b o hb _ e0 => ⟨o.slots, (Heap.get?_update_other _ _ (fun z => hb (by simp [z]))).trans e0⟩⟩
  refine x_entry (s := { s with heap := s.heap.update T0 (Obj.mapFields (·.setIfInBounds 3 Value.none)) }) hfr (k1.frames (fun b hb => ⟨hb, fun z => apT ((List.mem_singleton.mp z) ▸ hb)⟩) hl) hf
    (k1.keep e oe (fun z => ne (List.mem_singleton.mp z).symm) (frame_apart hl he hd) he) hc hdi hd (Array.getElem?_eq_some_iff.mp h1).1 fun h' T hn tb k2 => hQ h' T ?_ tb (k1.trans k2)
  cases hq : s.heap.get? T with
  | none => rfl
  | some o =>
    exfalso
    by_cases z : T = T0
    · rw [z, Heap.get?_update_self _ hT (Obj.isFreed_of_fields (Obj.data_mapFields hdT _))] at hn
      cases hn
    · rw [Heap.get?_update_other _ _ (Ne.symm z), hq] at hn
      cases hn
theorem x_land {S : List Addr} {T : Addr} {fl : Value} {Q : Unit → Shared → Prop} (hx : Tb s.heap e C dO T fl) (hQ : ∀ h', Tb h' e C dO T .none → Kept S [T] s.heap h' → Q () { s with heap := h' }) : wpAny M A (setFlight (.ref e) none) Q E s := by
  obtain ⟨oe, vs, oT, ts, he, hc, hdi, hd, h1, ne, hT, hdT, h3⟩ := hx
  unfold setFlight
  refine wpAny_bind (wpAny_field he hd h1 ?_)
  rw [if_pos (by simp)]
  have hsz : 3 < ts.size := (Array.getElem?_eq_some_iff.mp h3).1
  have d2 := Obj.data_mapFields hdT (·.setIfInBounds 3 ((none : Option Addr).elim Value.none fun f => rawInt f))
  refine wpAny_setField hT hdT hsz (hQ _ ⟨oe, vs, _, _, (Heap.get?_update_other _ _ ne).trans he, hc, hdi, hd, h1, ne, Heap.get?_update_self _ hT (Obj.isFreed_of_fields d2), d2, by simp [hsz]⟩
    ⟨fun b o hb _ e0 => (Heap.get?_update_other _ _ (fun z => hb (by simp [z]))).trans e0, fun b o hb _ e0 => ⟨o.slots, (Heap.get?_update_other _ _ (fun z => hb (by simp [z]))).trans e0⟩⟩)
end
end XL
set_option maxHeartbeats 4000000
/-! ### exceptions in the layer -/
namespace L2
open PySem PySem.Spec PyProof.Rows XL
/-- an exception: its class, its own dict; nw: not yet raised -/
def excO (nw : Bool) (e C : Addr) (dO : Option Addr) : HO := .ext fun h => ∃ oe vs, h.get? e = some oe ∧ oe.cls = .ref C ∧ oe.dict = dO ∧ oe.data = .fields vs ∧ (nw = true → vs[1]? = some .none ∧ ∃ t0, vs[0]? = some (.ref t0))
/-- its own dict -/
def xdO (d : Addr) (fs : List (Str × V)) : HO := .ext fun h => ∃ mA, h.Ns1 d mA ∧ (∀ f, RelO (fs.lookup f) (mA f)) ∧ PySem.Within mA (fs.map (·.1))
/-- no more tracked -/
def unt (H : Hp) (e : Addr) : Hp := fun b => if b = e then none else H b
theorem unt_same {H : Hp} {e : Addr} : unt H e e = none := by unfold unt; rw [if_pos rfl]
theorem unt_ne {H : Hp} {e b : Addr} (h : b ≠ e) : unt H e b = H b := by unfold unt; rw [if_neg h]
theorem unt_none {H : Hp} {e b : Addr} (h : H b = none) : unt H e b = none := by
  unfold unt
  split
  · rfl
  · exact h
section
variable {P : Program} {w : World} {H H' H1 H2 : Hp} {h h' h0 h1 h2 : Heap} {a e : Addr} {o : HO} {fs ex S : List Addr}
theorem ObjOk.some_ (x : ObjOk P w H h a o) : ∃ ob, h.get? a = some ob := by
  cases o with
  | lst xs => obtain ⟨_, _, _, _, q⟩ := x; exact ⟨_, q⟩
  | tup xs => obtain ⟨_, _, _, ob, q, _⟩ := x; exact ⟨ob, q⟩
  | dK kvs => obtain ⟨_, _, _, _, ob, _, _, q, _⟩ := x; exact ⟨ob, q⟩
  | dT kvs => obtain ⟨_, _, _, _, ob, _, _, q, _⟩ := x; exact ⟨ob, q⟩
  | set S n => obtain ⟨ob, _, _, _, q, _⟩ := x; exact ⟨ob, q⟩
  | ins C dx fs => obtain ⟨_, _, _, q, _⟩ := x; exact ⟨_, q⟩
  | own y => exact x
  | xd fs => obtain ⟨_, ⟨ob, _, _, q, _⟩, _⟩ := x; exact ⟨ob, q⟩
  | rng lo hi => obtain ⟨_, _, _, q⟩ := x; exact ⟨_, q⟩
  | frz ob u => obtain ⟨q, _⟩ := x; exact ⟨ob, q⟩
  | tbl ps => exact ⟨_, (show h.get? a = some _ from x)⟩
  | met f y => exact ⟨_, (show h.get? a = some _ from x)⟩
  | ext φ => obtain ⟨_, q, _⟩ := x; exact q
theorem HOk.none_of (ok : HOk P w H h) (q : h.get? a = none) : H a = none := by
  cases e : H a with
  | none => rfl
  | some u =>
    obtain ⟨ob, z⟩ := (ok a u e).some_
    rw [q] at z; cases z
theorem un_unt (u : Un fs ex H H1 h h1) (he : ∃ φ, H1 e = some (.ext φ)) : Un fs ex H (unt H1 e) h h1 := by
  obtain ⟨φ, he⟩ := he
  have ne : ∀ {b o}, H1 b = some o → (∀ ψ, o ≠ .ext ψ) → b ≠ e := fun {b o} q n z => by
    rw [z, he] at q
    exact n φ (Option.some.inj q).symm
  refine ⟨u.keep, u.slot, fun b o q n hx => unt_none (u.free b o q n hx), u.there, fun b xs q => ?_, fun b ob v q => ?_, fun b ps q => ?_⟩
  · have z := u.tups b xs q
    rw [unt_ne (ne z (fun _ z => by cases z))]; exact z
  · have z := u.frzs b ob v q
    rw [unt_ne (ne z (fun _ z => by cases z))]; exact z
  · obtain ⟨more, z⟩ := u.tbls b ps q
    exact ⟨more, by rw [unt_ne (ne z (fun _ z => by cases z))]; exact z⟩
theorem hok_unt (ok : HOk P w H h) (he : ∃ φ, H e = some (.ext φ)) : HOk P w (unt H e) h := fun b u q => by
  obtain ⟨φ, he⟩ := he
  have hb : b ≠ e := fun z => by rw [z, unt_same] at q; cases q
  rw [unt_ne hb] at q
  refine (ok b u q).stay (fun _ _ _ z => z) (fun c z => ?_) fun c xs z => ?_
  · rw [unt_ne (fun y => by rw [y, he] at z; cases z)]; exact z
  · rw [unt_ne (fun y => by rw [y, he] at z; cases z)]; exact z
/-- what a frame that is left has changed -/
theorem un_kept {outer : List Env} {env : Env} {L : Addr} (u : Un (frs outer) [] H H2 h0 h2) (k : Kept ((env :: outer).filterMap (·.frame)) ex h2 h') (hx : ∀ b ∈ ex, h0.get? b = none) (hf : env.frame = some L) (hL : h0.get? L = none) : Un (frs outer) [] H H2 h0 h' := by
  have nex : ∀ {b o}, h0.get? b = some o → b ∉ ex := fun {b o} q z => by rw [hx b z] at q; cases q
  have inS : ∀ {b}, b ∈ frs outer → b ∈ (env :: outer).filterMap (·.frame) := fun {b} z => by rw [List.filterMap_cons, hf]; exact List.mem_cons_of_mem _ z
  have outS : ∀ {b o}, h0.get? b = some o → b ∉ frs outer → b ∉ (env :: outer).filterMap (·.frame) := fun {b o} q n z => by
    rw [List.filterMap_cons, hf] at z
    rcases List.mem_cons.mp z with z | z
    · rw [z, hL] at q; cases q
    · exact n z
  refine ⟨fun b o q n hb _ => k.keep b o (nex q) (outS q hb) (u.keep b o q n hb (by simp)), fun b o q n hb _ => ?_, u.free, fun b o q _ => ?_, u.tups, u.frzs, u.tbls⟩
  · obtain ⟨sl, z⟩ := u.slot b o q n hb (by simp)
    obtain ⟨sl2, z2⟩ := k.slot b _ (nex q) (inS hb) z
    exact ⟨sl2, z2⟩
  · obtain ⟨o', z⟩ := u.there b o q (by simp)
    by_cases hb : b ∈ frs outer
    · obtain ⟨sl2, z2⟩ := k.slot b _ (nex q) (inS hb) z
      exact ⟨_, z2⟩
    · exact ⟨o', k.keep b o' (nex q) (outS q hb) z⟩
theorem hok_kept (ok : HOk P w H h) (k : Kept S ex h h') (hS : ∀ b ∈ S, H b = none) (hx : ∀ b ∈ ex, H b = none) : HOk P w H h' := fun b u q => by
  have tr : ∀ {c o}, H c = some o → c ∉ S ∧ c ∉ ex := fun {c o} z => ⟨fun y => (by rw [hS c y] at z; cases z), fun y => (by rw [hx c y] at z; cases z)⟩
  refine (ok b u q).stay (fun c v hc z => ?_) (fun _ z => z) fun _ _ z => z
  rcases hc with y | y
  · rw [y] at z ⊢; exact k.keep b v (tr q).2 (tr q).1 z
  · exact k.keep c v (tr y).2 (tr y).1 z
theorem excO_ok {nw : Bool} {C : Addr} {dO : Option Addr} (q : ∃ oe vs, h.get? e = some oe ∧ oe.cls = .ref C ∧ oe.dict = dO ∧ oe.data = .fields vs ∧ (nw = true → vs[1]? = some .none ∧ ∃ t0, vs[0]? = some (.ref t0))) : ObjOk P w H h e (excO nw e C dO) :=
  ⟨q, let ⟨oe, _, z, _⟩ := q; ⟨oe, z⟩, fun h1 h2 ⟨oe, vs, z, r⟩ k => ⟨oe, vs, k oe z, r⟩⟩
theorem excO_get {nw : Bool} {C : Addr} {dO : Option Addr} (ok : HOk P w H h) (q : H e = some (excO nw e C dO)) : ∃ oe vs, h.get? e = some oe ∧ oe.cls = .ref C ∧ oe.dict = dO ∧ oe.data = .fields vs ∧ (nw = true → vs[1]? = some .none ∧ ∃ t0, vs[0]? = some (.ref t0)) := (ok e _ q).1
theorem xdO_ok {d : Addr} {fs : List (Str × V)} (q : ∃ mA, h.Ns1 d mA ∧ (∀ f, RelO (fs.lookup f) (mA f)) ∧ PySem.Within mA (fs.map (·.1))) : ObjOk P w H h d (xdO d fs) :=
  ⟨q, let ⟨_, ⟨o, _, _, z, _⟩, _⟩ := q; ⟨o, z⟩, fun h1 h2 ⟨mA, ⟨o, es, ep, z, r⟩, r2⟩ k => ⟨mA, ⟨o, es, ep, k o z, r⟩, r2⟩⟩
end
/-- an exception leaves a def: how it lies behind the call -/
def CXF (P : Program) (w : World) (K : PySem.W.Frag) : CXT := fun outer H s E ev s' => ∃ (e C : Addr) (dO : Option Addr) (T : Addr) (H' : Hp), ev = .ref e ∧ XC K C ∧ s'.os = s.os ∧ AllBare s'.gens ∧ Un (frs outer) [] H H' s.heap s'.heap ∧ HOk P w H' s'.heap ∧
  s.heap.get? e = none ∧ s.heap.get? T = none ∧ H' e = none ∧ H' T = none ∧ Tb s'.heap e C dO T .none ∧ E (.ref C) dO H'
/-- an exception that is raised reaches what is wanted of it -/
def Throws (X : Cx) (E : St → XK) : Prop := ∀ (pins : List (Addr × Obj)) (σ : St) (H : Hp) (s : Shared) (e C : Addr) (dO : Option Addr), Inv X pins σ H s → H e = some (excO true e C dO) → X.H₀ e = none → XC X.K C → E σ (.ref C) dO (unt H e) → X.xe (.ref e) s
def PassesS (CX : CXT) (X : Cx) (E : St → XK) : Prop := ∀ (pins : List (Addr × Obj)) (σ : St) (H : Hp) (s : Shared) (e : Value) (s' : Shared), Inv X pins σ H s → CX X.stack H s (E σ) e s' → X.xe e s'
section
variable {P : Program} {w : World} {K : PySem.W.Frag} {mg : Str → Option Value} {base : Heap} {N : List Str} {qual : Str} {scope : Scope} {f : Addr} {cd : Value} {A : Around} {outer : List Env} {s : Shared} {H : Hp} {E : XK}
theorem throwF : Throws (cxOf (CXF P w K) P w K mg base N qual scope f cd A outer s H E) (fun _ => E) := by
  intro pins σ H1 s1 e C dO I he hn c q
  obtain ⟨oe, vs, x1, x2, x3, x4, x5⟩ := excO_get I.hok he
  have e0 : s.heap.get? e = none := by
    cases z : s.heap.get? e with
    | none => rfl
    | some o =>
      have := I.base.free e o z hn (by show e ∉ ([] : List Addr); simp)
      rw [he] at this; cases this
  show wpAny _ _ (leaving _ (.ref e)) _ _ s1
  unfold leaving
  refine wpAny_bind (x_note0 (base := base) (L := s.heap.objs.size) I.ok.frames I.stack rfl ⟨oe, vs, x1, x2, x3, x4, (x5 rfl).1⟩ fun h1 T hT tb k1 => ?_)
  refine x_land (S := (envOfC qual scope s.heap.objs.size f cd :: outer).filterMap (·.frame)) tb fun h2 tb2 k2 => ?_
  have T0 : s.heap.get? T = none := by
    cases z : s.heap.get? T with
    | none => rfl
    | some o =>
      obtain ⟨o', z'⟩ := I.base.there T o z (by show T ∉ ([] : List Addr); simp)
      rw [hT] at z'; cases z'
  have nT : H1 T = none := I.hok.none_of hT
  refine ⟨e, C, dO, T, unt H1 e, rfl, c, I.os, I.bare, un_kept (un_unt I.base ⟨_, he⟩) (k1.trans k2) (fun b hb => ?_) rfl (Heap.get?_none_of_le (Nat.le_refl _)), hok_kept (hok_unt I.hok ⟨_, he⟩) (k1.trans k2) (fun b hb => unt_none (I.stkFree b hb)) (fun b hb => ?_), e0, T0, unt_same, unt_none nT, tb2, q⟩
  · simp only [List.cons_append, List.nil_append, List.mem_cons, List.not_mem_nil, or_false] at hb
    rcases hb with z | z <;> rw [z] <;> assumption
  · simp only [List.cons_append, List.nil_append, List.mem_cons, List.not_mem_nil, or_false] at hb
    rcases hb with z | z <;> rw [z]
    · exact unt_same
    · exact unt_none nT
theorem passF : PassesS (CXF P w K) (cxOf (CXF P w K) P w K mg base N qual scope f cd A outer s H E) (fun _ => E) := by
  intro pins σ H1 s1 ev s2 I h
  obtain ⟨e, C, dO, T0, H2, rfl, c, os, bare, un, hok, n1, n2, n3, n4, tb0, q⟩ := h
  have I2 := I.call' os un hok bare (fun b z => absurd z (by simp))
  have old : ∀ {b}, s1.heap.get? b = none → s.heap.get? b = none := fun {b} y => by
    cases z : s.heap.get? b with
    | none => rfl
    | some o =>
      obtain ⟨o', z'⟩ := I.base.there b o z (by show b ∉ ([] : List Addr); simp)
      rw [y] at z'; cases z'
  show wpAny _ _ (leaving _ (.ref e)) _ _ s2
  unfold leaving
  refine wpAny_bind (x_noteT (base := base) (L := s.heap.objs.size) I2.ok.frames I2.stack rfl tb0 fun h1 T hT tb k1 => ?_)
  refine x_land (S := (envOfC qual scope s.heap.objs.size f cd :: outer).filterMap (·.frame)) tb fun h2 tb2 k2 => ?_
  have oT : s.heap.get? T = none := by
    cases z : s.heap.get? T with
    | none => rfl
    | some o =>
      obtain ⟨o', z'⟩ := I2.base.there T o z (by show T ∉ ([] : List Addr); simp)
      rw [hT] at z'; cases z'
  have nT : H2 T = none := I2.hok.none_of hT
  refine ⟨e, C, dO, T, H2, rfl, c, I2.os, I2.bare, un_kept I2.base (k1.trans k2) (fun b hb => ?_) rfl (Heap.get?_none_of_le (Nat.le_refl _)), hok_kept I2.hok (k1.trans k2) (fun b hb => I2.stkFree b hb) (fun b hb => ?_), old n1, oT, n3, nT, tb2, q⟩
  · simp only [List.cons_append, List.nil_append, List.mem_cons, List.not_mem_nil, or_false] at hb
    rcases hb with z | z | z <;> rw [z]
    · exact old n2
    · exact old n1
    · exact oT
  · simp only [List.cons_append, List.nil_append, List.mem_cons, List.not_mem_nil, or_false] at hb
    rcases hb with z | z | z <;> rw [z] <;> assumption
end
end L2
set_option maxHeartbeats 4000000
/-! ### exceptions: rules -/
namespace L2
open PySem PySem.Spec PyProof.Rows XL
theorem upd_id {H : Hp} {a : Addr} {o : HO} (h : H a = some o) : upd H a o = H := by
  funext b
  unfold upd
  split
  · rename_i z; rw [z, h]
  · rfl
section
variable {X : Cx} {pins : List (Addr × Obj)} {σ : St} {H : Hp} {s : Shared} {a : Addr} {o : HO}
/-- an object that lies there is tracked from now on -/
theorem Inv.track (I : Inv X pins σ H s) (hn : H a = none) (h0 : X.s₀.heap.get? a = none) (hL : a ≠ X.env.locals) (hc : ∀ x c, X.env.cells.lookup x = some c → c ≠ a) (hp : ∀ p ∈ X.pn ++ pins, p.1 ≠ a) (new : ObjOk X.prog X.w (upd H a o) s.heap a o) :
    Inv X pins σ (upd H a o) s := by
  refine ⟨I.ok, I.os, I.bare, ⟨I.base.keep, I.base.slot, fun b ob q n hx => ?_, I.base.there, fun b xs q => ?_, fun b ob u q => ?_, fun b ps q => ?_⟩, I.loc, I.cell, ?_, fun x c q => ?_, fun p hp' => ?_, fun b u q => ?_, I.len⟩
  · rw [upd_ne (fun z => by rw [z, h0] at q; cases q)]; exact I.base.free b ob q n hx
  · have z := I.base.tups b xs q
    rw [upd_ne (ne_of_none z hn)]; exact z
  · have z := I.base.frzs b ob u q
    rw [upd_ne (ne_of_none z hn)]; exact z
  · obtain ⟨more, z⟩ := I.base.tbls b ps q
    exact ⟨more, by rw [upd_ne (ne_of_none z hn)]; exact z⟩
  · rw [upd_ne (Ne.symm hL)]; exact I.free
  · rw [upd_ne (hc x c q)]; exact I.freeC x c q
  · obtain ⟨z1, z2, z3⟩ := I.pin p hp'
    exact ⟨z1, by rw [upd_ne (hp p hp')]; exact z2, z3⟩
  · by_cases hb : b = a
    · subst hb; rw [upd_same] at q; cases q; exact new
    · rw [upd_ne hb] at q
      exact (I.hok b u q).stay (fun _ _ _ z => z) (fun c z => by rw [upd_ne (ne_of_none z hn)]; exact z) fun c xs z => by rw [upd_ne (ne_of_none z hn)]; exact z
/-- .. and from now on no more -/
theorem Inv.untrack (I : Inv X pins σ H s) (he : ∃ φ, H a = some (.ext φ)) : Inv X pins σ (unt H a) s :=
  ⟨I.ok, I.os, I.bare, un_unt I.base he, I.loc, I.cell, unt_none I.free, fun x c q => unt_none (I.freeC x c q), fun p hp => let ⟨z1, z2, z3⟩ := I.pin p hp; ⟨z1, unt_none z2, z3⟩, hok_unt I.hok he, I.len⟩
/-- records have turned that were made here -/
theorem Inv.kept2 {ex : List Addr} {h' : Heap} (I : Inv X pins σ H s) (k : Kept (frs X.stack) ex s.heap h') (hx : ∀ b ∈ ex, X.s₀.heap.get? b = none ∧ (∀ o, s.heap.get? b = some o → ∃ vs, o.data = .fields vs) ∧ (∀ p ∈ X.pn ++ pins, p.1 ≠ b) ∧ H b = none) : Inv X pins σ H { s with heap := h' } := by
  have nL : X.env.locals ∉ ex := fun z => by
    obtain ⟨m, ⟨ol, es, ep, q, qd, _⟩, _⟩ := I.loc
    obtain ⟨vs, e⟩ := (hx _ z).2.1 ol q
    rw [qd] at e; cases e
  have any : ∀ {b ob}, b ∉ ex → s.heap.get? b = some ob → ∃ sl, h'.get? b = some { ob with slots := sl } := fun {b ob} n q => by
    by_cases hb : b ∈ frs X.stack
    · exact k.slot b ob n hb q
    · exact ⟨ob.slots, k.keep b ob n hb q⟩
  have nc : ∀ {x c}, X.env.cells.lookup x = some c → c ∉ ex := fun {x c} e z => by
    obtain ⟨v, oc, q, qd⟩ := I.cell x c e
    obtain ⟨vs, e'⟩ := (hx _ z).2.1 oc q
    rw [qd] at e'; cases e'
  have nsx : ∀ {b ob}, X.s₀.heap.get? b = some ob → b ∉ ex := fun {b ob} q z => by rw [(hx b z).1] at q; cases q
  have inS : ∀ {b}, b ∈ X.fs → b ∈ frs X.stack := fun {b} hb => by
    rcases I.ok.stk with e | ⟨e, hf⟩
    · rw [e]; exact hb
    · rw [e]; unfold frs; rw [List.filterMap_cons, hf]; exact List.mem_cons_of_mem _ hb
  have outS : ∀ {b ob}, X.s₀.heap.get? b = some ob → b ∉ X.fs → b ∉ frs X.stack := fun {b ob} q n z => by
    rcases List.mem_cons.mp (I.stkSub b z) with y | y
    · exact absurd (Nat.lt_of_lt_of_le (Heap.lt_size q) I.ok.above) (by rw [y]; exact Nat.lt_irrefl _)
    · exact n y
  refine ⟨I.ok, I.os, I.bare, ⟨fun b ob q n hb hxx => k.keep b ob (nsx q) (outS q hb) (I.base.keep b ob q n hb hxx), fun b ob q n hb hxx => ?_, I.base.free, fun b ob q hxx => ?_, I.base.tups, I.base.frzs, I.base.tbls⟩, ?_, fun x c e => ?_, I.free, I.freeC, fun p hp => ?_, ?_, I.len⟩
  · obtain ⟨sl, z⟩ := I.base.slot b ob q n hb hxx
    obtain ⟨sl2, z2⟩ := any (nsx q) z
    exact ⟨sl2, z2⟩
  · obtain ⟨o', z⟩ := I.base.there b ob q hxx
    obtain ⟨sl2, z2⟩ := any (nsx q) z
    exact ⟨_, z2⟩
  · obtain ⟨m, ⟨ol, es, ep, q, qd, qr⟩, hl⟩ := I.loc
    obtain ⟨sl, z⟩ := any nL q
    refine ⟨m, ⟨_, es, ep, z, qd, qr⟩, fun i x v e1 e2 e3 => ?_⟩
    obtain ⟨u, r, l⟩ := hl i x v e1 e2 e3
    refine ⟨u, r, ?_⟩
    rcases l with l | ⟨kk, c, e, oc, q2, q3⟩
    · exact .inl l
    · obtain ⟨sl2, z2⟩ := any (nc e) q2
      exact .inr ⟨kk, c, e, _, z2, q3⟩
  · obtain ⟨v, oc, q, qd⟩ := I.cell x c e
    obtain ⟨sl, z⟩ := any (nc e) q
    exact ⟨v, _, z, qd⟩
  · obtain ⟨z1, z2, z3, z4, z5⟩ := I.pin p hp
    refine ⟨k.keep p.1 p.2 (fun y => (hx p.1 y).2.2.1 p hp rfl) (fun y => ?_) z1, z2, z3, z4, z5⟩
    rcases List.mem_cons.mp (I.stkSub p.1 y) with q | q
    · exact z3 q
    · exact z4 q
  · exact hok_kept I.hok k (fun b hb => I.stkFree b hb) fun b hb => (hx b hb).2.2.2
end
/-! ### calls that may raise -/
def tCallX (sp : Sp) (dvs : List V) (E : St → XK) (t : TA) : TE := fun σ H Q => t σ H fun vs H1 => sp (vs ++ dvs) H1 Q (E σ)
section
variable {X : Cx} {CX : CXT} {k : Nat} {f C : Addr} {fd : FuncData} {ps : List Str} {sp : Sp} {dvs : List V} {ds : List Value} {E : St → XK} {x : Str} {p pos : Pos} {e : Expr} {es : List Expr} {ta te : TE} {t : TA}
theorem pe_callX (F : FnOk X.prog X.w X.K X.mg X.base CX k f fd ps sp) (hr : Room k X.A) (hg : Gl X x) (hm : X.mg x = some (.ref f)) (hk : PySem.W.keepIn X.K (.ref f) = true) (hb : Binds X.K fd ps ds) (hd : Vals dvs ds) (hx : PassesS CX X E)
    (ha : PA X (e :: es) t) (hdb : (x == ("__debug__" : Str)) = false := by decide) (he : starEach (e :: es) X.env = (false, eval e X.env) :: starEach es X.env := by rfl) (hpl : (backTo pos (starEach es X.env)).any (·.1) = false := by rfl) :
    PE X (.Call (.Name x p) (e :: es) [] pos) (tCallX sp dvs E t) := by
  intro pins s σ H Q I h
  refine wpAny_Call_Name_kw (ld_glob I hg hm ?_ hdb)
  refine PySem.W.callWith_K (h₀ := X.base) I.ok.mod.kin hk (thn (ha pos pins s σ H _ I h) fun us s1 ⟨vs, H1, I1, r, q⟩ => ⟨I1.kIn, ?_⟩) he hpl
  have r2 : Vals (vs ++ dvs) (us ++ ds) := r.append hd
  have hl : (us ++ ds).length = ps.length := by rw [← r2.length]; exact F.len _ _ _ _ q
  refine wpAny_call (codeAny_mono (F.run X.A X.stack s1 H1 ⟨us, []⟩ (us ++ ds) (vs ++ dvs) Q (E σ) hr I1.env0 (hb s1 us I1.kIn hl) r2 q) fun rr s' hq => ?_)
  cases rr with
  | error ev => exact hx pins σ H1 s1 ev s' I1 hq
  | ok fl =>
    cases fl with
    | ret u => exact I1.after hq
    | next => exact False.elim hq
    | brk => exact False.elim hq
    | cont => exact False.elim hq
/-! ### raise -/
def tRaise (K : PySem.W.Frag) (H0 : Hp) (E : St → XK) (te : TE) : TS := fun _ σ H => te σ H fun v H1 => ∃ e C dO, v = .ref e ∧ H1 e = some (excO true e C dO) ∧ H0 e = none ∧ XC K C ∧ E σ (.ref C) dO (unt H1 e)
theorem ps_raise (hh : X.A.handled = none) (th : Throws X E) (hx : PE X e te) : PS X (.Raise (some e) none pos) (tRaise X.K X.H₀ E te) := by
  intro pins s σ H D I h
  rw [arm_exec_Raise]
  refine wpAny_bind (wpAny_standAt ?_)
  refine x_raise (K := X.K) hh ?_
  refine wpAny_bind (thn (hx pins s σ H _ I h) fun u s1 ⟨v, H1, I1, r, e1, C, dO, ev, he, h0, c, q⟩ => wpAny_bind (wpAny_standAt (wpAny_pure ?_)))
  subst ev
  obtain rfl : u = Value.ref e1 := r
  obtain ⟨oe, vs, x1, x2, x3, x4, x5⟩ := excO_get I1.hok he
  exact ⟨e1, C, oe, vs, rfl, I1.kIn, c, x1, x2, x4, (x5 rfl).1, th pins σ H1 s1 e1 C dO I1 he h0 c q⟩
end
section
variable {P : Program} {w : World} {K : PySem.W.Frag} {mg : Str → Option Value} {base : Heap}
/-- THE RULE for a def that may raise -/
theorem Fun.okX {x qual : Str} {st : Stmt} {f : Addr} {fd : FuncData} {N ps : List Str} {k : Nat} {sp : Sp} (F : Fun K x qual st f fd) (S : FnScope N ps (defScope st)) (len : ∀ vs H Q E, sp vs H Q E → vs.length = ps.length)
    (hbody : ∀ (cdv : Value) (A : Around) (outer : List Env) (s : Shared) (H : Hp) (vs : List V) (Q : VK) (E : XK), Room k (A.deeper (envOfC qual (defScope st) s.heap.objs.size f cdv)) → sp vs H Q E →
      ∃ t, PSs (cxOf (CXF P w K) P w K mg base N qual (defScope st) f cdv A outer s H E) (defBody st) t ∧ t { nx := fun _ H' => Q .non H', rt := Q } (start N vs) H) : FnOk P w K mg base (CXF P w K) (k + 1) f fd ps sp := by
  obtain ⟨oc, od, kV, doc, pm, an, cdv, ct, osl, rfl, lk, hcd⟩ := F.ex
  exact fn_of lk hcd S len fun A outer s H vs Q E hr hsp => hbody cdv A outer s H vs Q E hr hsp
end
end L2
set_option maxHeartbeats 4000000
/-! ### exceptions: made, their fields, isinstance -/
namespace L2
open PySem PySem.Spec PyProof.Rows XL
/-- a class with an __init__ of its own -/
structure XInit (K : PySem.W.Frag) (C f : Addr) : Prop where
  c : XC K C
  init : PySem.W.findIn K (.ref C) "__init__" = some (some (.ref f))
  fn : PySem.W.isFn K (.ref f) = true
/-- the class above, whose __init__ is ValueError's -/
structure XBase (K : PySem.W.Frag) (M : Addr) : Prop where
  rd : PySem.W.readsIn K M (.type "type") = true
  ga : PySem.W.specialIn K (.ref M) "__getattribute__" = some (some (.builtin "type.__getattribute__"))
  fi : PySem.W.findCls K (.ref M) (.type "type") "__init__" = some (.val (.builtin "ValueError.__init__"))
def tXMake (C : Addr) (sp : Sp) (t : TA) : TE := fun σ H Q => t σ H fun vs H1 => vs.length ≤ sizeLine ∧ ∀ e, H1 e = none → sp (.ref e :: vs) (upd H1 e (excO true e C none)) (fun v H2 => v = .non ∧ Q (.ref e) H2) E0
section
variable {X : Cx} {k : Nat} {f C M : Addr} {fd : FuncData} {ps : List Str} {sp : Sp} {x : Str} {p pos apos : Pos} {e : Expr} {es : List Expr} {ta te tv : TE} {t : TA} {pins : List (Addr × Obj)} {σ : St} {H : Hp} {s : Shared}
/-- a new exception, tracked -/
theorem Inv.xmade {us : List Value} (I : Inv X pins σ H s) : Inv X pins σ (upd H (s.heap.objs.size + 1) (excO true (s.heap.objs.size + 1) C none)) { s with heap := (s.heap.push { cls := .type "tuple", data := .seq us.toArray }).push (excNew C s.heap.objs.size) } := by
  have I1 := I.kept (h' := s.heap.push { cls := .type "tuple", data := .seq us.toArray }) (t' := s.toks) fun b u q => Heap.get?_push_of_some _ q
  refine I1.laid (a := s.heap.objs.size + 1) (t' := s.toks) (fun b u q => Heap.get?_push_of_some _ q) (Nat.le_of_eq (Heap.size_push _ _)) (excO_ok ?_)
  have g : ((s.heap.push { cls := .type "tuple", data := .seq us.toArray }).push (excNew C s.heap.objs.size)).get? (s.heap.objs.size + 1) = some (excNew C s.heap.objs.size) := by
    have := Heap.get?_push_size (s.heap.push { cls := .type "tuple", data := .seq us.toArray }) (o := excNew C s.heap.objs.size) rfl
    rwa [Heap.size_push] at this
  exact ⟨_, _, g, rfl, rfl, rfl, fun _ => ⟨rfl, _, rfl⟩⟩
theorem pe_xmake (M : XInit X.K C f) (F : FnOk X.prog X.w X.K X.mg X.base CX0 k f fd ps sp) (hr : Room (k + 1) X.A) (hg : Gl X x) (hm : X.mg x = some (.ref C)) (hb : Binds X.K fd ps [])
    (ha : PA X (e :: es) t) (hdb : (x == ("__debug__" : Str)) = false := by decide) (he : starEach (e :: es) X.env = (false, eval e X.env) :: starEach es X.env := by rfl) (hpl : (backTo pos (starEach es X.env)).any (·.1) = false := by rfl) :
    PE X (.Call (.Name x p) (e :: es) [] pos) (tXMake C sp t) := by
  intro pins s σ H Q I h
  refine wpAny_Call_Name_kw (ld_glob I hg hm ?_ hdb)
  refine PySem.W.callWith_K (h₀ := X.base) I.ok.mod.kin M.c.kp (thn (ha pos pins s σ H _ I h) fun us s1 ⟨vs, H1, I1, r, hz, q⟩ => ⟨I1.kIn, ?_⟩) he hpl
  have I2 := Inv.xmade (C := C) (us := us) I1
  have hq := q (s1.heap.objs.size + 1) (I1.hok.fresh (Nat.le_succ _))
  have r2 : Vals (V.ref (s1.heap.objs.size + 1) :: vs) (Value.ref (s1.heap.objs.size + 1) :: us) := .cons rfl r
  have hl : (Value.ref (s1.heap.objs.size + 1) :: us ++ []).length = ps.length := by
    have z := r2.length
    rw [F.len _ _ _ _ hq] at z
    rw [List.append_nil]
    exact z.symm
  have hbb := hb { s1 with heap := (s1.heap.push { cls := .type "tuple", data := .seq us.toArray }).push (excNew C s1.heap.objs.size) } (Value.ref (s1.heap.objs.size + 1) :: us) I2.kIn hl
  rw [List.append_nil] at hbb
  have run := F.run _ X.stack _ _ ⟨Value.ref (s1.heap.objs.size + 1) :: us, []⟩ (Value.ref (s1.heap.objs.size + 1) :: us) _ _ E0 (hr.make C us []) (I2.env0.make C us []) hbb r2 hq
  have K1 := I1.kIn
  have fn := beq_iff_eq.mp M.fn
  obtain ⟨hh, gg, dd, tt, oo⟩ := s1
  refine x_call (xobj_of K1 M.c.is) (PySem.W.looks_findIn K1 M.init) (fun self => PySem.W.bind_fn K1 self fn) (by show us.length ≤ sizeLine; rw [← r.length]; exact hz) ?_
  refine wpAny_call (codeAny_mono run fun rr s' hq' => ?_)
  cases rr with
  | error ev => exact hq'.elim
  | ok fl =>
    cases fl with
    | ret u =>
      obtain ⟨v, H', I3, rv, ev, q3⟩ := I2.after hq'
      subst ev
      exact ⟨rv, ⟨V.ref (hh.objs.size + 1), H', I3, rfl, q3⟩⟩
    | next => exact False.elim hq'
    | brk => exact False.elim hq'
    | cont => exact False.elim hq'
/-- the arguments of a tracked exception are laid anew -/
theorem Inv.xargs {ec : Addr} {dO : Option Addr} {us : List Value} (I : Inv X pins σ H s) (he : H ec = some (excO true ec C dO)) : Inv X pins σ H { s with heap := (s.heap.push { cls := .type "tuple", data := .seq us.toArray }).update ec (Obj.mapFields (·.setIfInBounds 0 (.ref s.heap.objs.size))) } := by
  obtain ⟨oe, vs, x1, x2, x3, x4, x5⟩ := excO_get I.hok he
  obtain ⟨y1, t0, y2⟩ := x5 rfl
  have I1 := I.kept (h' := s.heap.push { cls := .type "tuple", data := .seq us.toArray }) (t' := s.toks) fun b u q => Heap.get?_push_of_some _ q
  have d2 := Obj.data_mapFields x4 (·.setIfInBounds 0 (Value.ref s.heap.objs.size))
  have g := Heap.get?_update_self (Obj.mapFields (·.setIfInBounds 0 (Value.ref s.heap.objs.size))) (Heap.get?_push_of_some { cls := .type "tuple", data := .seq us.toArray } x1) (Obj.isFreed_of_fields d2)
  have hz : 0 < vs.size := (Array.getElem?_eq_some_iff.mp y2).1
  have := I1.write (x := ec) (e := ec) (o := excO true ec C dO) (t' := s.toks) (h' := (s.heap.push { cls := .type "tuple", data := .seq us.toArray }).update ec (Obj.mapFields (·.setIfInBounds 0 (.ref s.heap.objs.size)))) (by rw [he]; exact True.intro) (.inl rfl) (fun b u hb q => (Heap.get?_update_other _ _ (Ne.symm hb)).trans q) ⟨_, g⟩ (excO_ok ⟨_, _, g, (Obj.cls_mapFields _ _).trans x2, ?_, d2, fun _ => ⟨by rw [Array.getElem?_setIfInBounds_ne (by decide)]; exact y1, s.heap.objs.size, by simp [hz]⟩⟩)
  · rw [upd_id he] at this; exact this
  · rw [← x3]
    obtain ⟨oc, od, odt, osl⟩ := oe
    cases (show odt = _ from x4)
    rfl
/-- M.__init__(self, ..) -/
def tXInit (K : PySem.W.Frag) (t : TA) : TE := fun σ H Q => t σ H fun vs H1 => ∃ e C dO rest, vs = .ref e :: rest ∧ rest.length ≤ sizeLine ∧ H1 e = some (excO true e C dO) ∧ XC K C ∧ Q .non H1
theorem pe_xinit {mx : Str} {mp : Pos} {pl : Sem Bool} (B : XBase X.K M) (hg : Gl X mx) (hm : X.mg mx = some (.ref M)) (ha : PA X (e :: es) t) (hdb : (mx == ("__debug__" : Str)) = false := by decide)
    (he : starEach (e :: es) X.env = (false, eval e X.env) :: starEach es X.env := by rfl) (hpl : (backTo pos (starEach es X.env)).any (·.1) = false := by rfl)
    (ht : eval (.Call (.Attribute (.Name mx mp) "__init__" apos) (e :: es) [] pos) X.env = (do
      let ov ← eval (.Name mx mp) X.env
      standAt apos.atName
      let (f, first) ← holding [ov] (getMethod ov "__init__" pl)
      callWith pos f first (backTo pos (starEach (e :: es) X.env)) (backToKw pos (keywordEach [] X.env))) := by rfl) :
    PE X (.Call (.Attribute (.Name mx mp) "__init__" apos) (e :: es) [] pos) (tXInit X.K t) := by
  intro pins s σ H Q I h
  refine PySem.W.methodCall_KW (pl := pl) (ld_glob I hg hm ?_ hdb) ht
  refine PySem.W.method_cls I.kIn B.ga (PySem.W.cls_value I.kIn B.rd B.fi rfl ?_)
  refine PyProof.Rows.callWith_builtin1 (thn (ha pos pins _ σ H _ (I.tok _) h) fun us s1 ⟨vs, H1, I1, r, ec, C, dO, rest, ev, hz, hec, c, q⟩ => ?_) he hpl
  subst ev
  obtain ⟨u0, ur, rfl, r0, r1⟩ : ∃ u0 ur, us = u0 :: ur ∧ RelV (.ref ec) u0 ∧ Vals rest ur := by
    cases r with
    | cons a b => exact ⟨_, _, rfl, a, b⟩
  obtain rfl : u0 = Value.ref ec := r0
  obtain ⟨oe, ws, x1, x2, x3, x4, x5⟩ := excO_get I1.hok hec
  obtain ⟨y1, t0, y2⟩ := x5 rfl
  have I2 := I1.xargs (us := ur) hec
  have K1 := I1.kIn
  obtain ⟨hh, gg, dd, tt, oo⟩ := s1
  exact x_init (xobj_of K1 c.is) x1 x2 x4 y2 (by rw [← r1.length]; exact hz) ⟨.non, H1, I2, rfl, q⟩
/-- self.f = value: the first field lays the dict -/
def sXFld (K : PySem.W.Frag) (ta tv : TE) (f : Str) : TS := fun D σ H => tv σ H fun y H1 => ta σ H1 fun x H2 => ∃ e C, x = .ref e ∧ XC K C ∧ NoAttr K C f ∧
  ((H2 e = some (excO true e C none) ∧ ∀ d, H2 d = none → d ≠ e → D.nx σ (upd (upd H2 e (excO true e C (some d))) d (xdO d [(f, y)]))) ∨
   (∃ d fs, H2 e = some (excO true e C (some d)) ∧ H2 d = some (xdO d fs) ∧ d ≠ e ∧ fs.length < 1000 ∧ D.nx σ (upd H2 d (xdO d (putF f y fs)))))
theorem ps_xfld {o value : Expr} {g : Str} {pos' : Pos} (ha : PE X o ta) (hv : PE X value tv) (hs : swapsWith value (some (.Attribute o g pos')) pos.line X.env = pure false) : PS X (.Assign [.Attribute o g pos'] value pos) (sXFld X.K ta tv g) := by
  intro pins s σ H D I h
  refine plainObj_wpAny_Assign_Attribute (thn (hv pins s σ H _ I h) fun u s1 ⟨y, H1, I1, ry, q⟩ => thn (ha pins s1 σ H1 _ I1 q) fun ov s2 ⟨x, H2, I2, rx, e, C, ex, c, n, q2⟩ => ?_) hs
  subst ex
  obtain rfl : ov = Value.ref e := rx
  have K2 := I2.kIn
  rcases q2 with ⟨he, q2⟩ | ⟨d, fs, he, hd, ne, hl, q2⟩
  · obtain ⟨oe, vs, x1, x2, x3, x4, x5⟩ := excO_get I2.hok he
    have nd : H2 s2.heap.objs.size = none := I2.hok.fresh (Nat.le_refl _)
    have lt : s2.heap.objs.size ≠ e := Nat.ne_of_gt (Heap.lt_size x1)
    have Fd := Inv.fpOk (H' := H2) I2 (Nat.le_refl s2.heap.objs.size) nd
    have s0 : X.s₀.heap.get? s2.heap.objs.size = none := Heap.get?_none_of_le I2.sz
    have fin := q2 _ nd lt
    have base : Inv X pins σ H2 s2 := I2
    obtain ⟨hh, gg, dd, tt, oo⟩ := s2
    refine x_set (ns := []) (mA := fun _ => none) K2 (xobj_of K2 c.is) c.sa n ⟨oe, x1, x2, (fun cc z => by (rw [x4] at z; cases z)), .inl ⟨x3, fun _ => rfl⟩⟩ (fun h' tk' In kp sm => ?_) (fun _ z => absurd rfl z) (by decide)
    obtain ⟨o1, z1, z2, z3, z4, z5, z6⟩ := sm oe x1
    have keep : ∀ b u, b ≠ e → hh.get? b = some u → h'.get? b = some u := fun b u hb q => kp b u hb (fun o₀ dx e0 e1 => by (rw [x1] at e0; cases e0; rw [x3] at e1; cases e1)) q
    have J := base.write (x := e) (e := e) (o := excO true e C (some hh.objs.size)) (t' := tk') (by rw [he]; exact True.intro) (.inl rfl) keep ⟨o1, z1⟩ (excO_ok ⟨o1, vs, z1, z2.trans x2, z6 x3, z3.trans x4, x5⟩)
    obtain ⟨o2, w1, w2, w3, w4⟩ := In
    rw [z1] at w1
    cases w1
    have ns : h'.Ns1 hh.objs.size (fun y => if y = g then some u else none) := by
      rcases w4 with ⟨b1, _⟩ | ⟨dx, b1, _, b3⟩
      · rw [z6 x3] at b1; cases b1
      · rw [z6 x3] at b1; cases b1; exact b3
    refine ⟨σ, _, J.track (a := hh.objs.size) (o := xdO hh.objs.size [(g, y)]) (by rw [upd_ne lt]; exact nd) s0 Fd.2.1 Fd.2.2.2.2.1 Fd.2.2.2.2.2 (xdO_ok ⟨_, ns, fun a => ?_, fun a ha => ?_⟩), fin⟩
    · show RelO (List.lookup a [(g, y)]) (if a = g then some u else none)
      by_cases z : a = g
      · subst z
        rw [if_pos rfl, List.lookup_cons, beq_self_eq_true]
        exact ry
      · rw [if_neg z, List.lookup_cons, beq_eq_false_iff_ne.mpr z]
        trivial
    · have : a = g := by
        by_cases z : a = g
        · exact z
        · exact absurd (show (if a = g then some u else none) = none by rw [if_neg z]) ha
      rw [this]; simp
  · obtain ⟨oe, vs, x1, x2, x3, x4, x5⟩ := excO_get I2.hok he
    obtain ⟨mA, n1, n2, n3⟩ := (I2.hok d _ hd).1
    have base : Inv X pins σ H2 s2 := I2
    obtain ⟨hh, gg, dd, tt, oo⟩ := s2
    refine x_set (ns := fs.map (·.1)) (mA := mA) K2 (xobj_of K2 c.is) c.sa n ⟨oe, x1, x2, (fun cc z => by (rw [x4] at z; cases z)), .inr ⟨d, x3, ne, n1⟩⟩ (fun h' tk' In kp sm => ?_) n3 (by rw [List.length_map]; exact small1000 (Nat.le_of_lt hl))
    obtain ⟨o1, z1, z2, z3, z4, z5, z6⟩ := sm oe x1
    have d1 := z5 d x3
    have oo1 : o1 = oe := by
      obtain ⟨a1, a2, a3, a4⟩ := o1
      obtain ⟨b1, b2, b3, b4⟩ := oe
      dsimp only at z2 z3 z4 d1 x3
      rw [z2, z3, z4, d1, x3]
    obtain ⟨o2, w1, w2, w3, w4⟩ := In
    rw [z1] at w1
    cases w1
    have ns : h'.Ns1 d (fun y => if y = g then some u else mA y) := by
      rcases w4 with ⟨b1, _⟩ | ⟨dx, b1, _, b3⟩
      · rw [d1] at b1; cases b1
      · rw [d1] at b1; cases b1; exact b3
    have keep : ∀ b u, b ≠ d → hh.get? b = some u → h'.get? b = some u := fun b u hb q => by
      by_cases z : b = e
      · rw [z] at q ⊢
        rw [x1] at q
        cases q
        rw [z1, oo1]
      · exact kp b u z (fun o₀ dx e0 e1 => by (rw [x1] at e0; cases e0; rw [x3] at e1; cases e1; exact hb)) q
    refine ⟨σ, _, base.write (x := d) (e := d) (o := xdO d (putF g y fs)) (t' := tk') (by rw [hd]; exact True.intro) (.inl rfl) keep (let ⟨o', _, _, zz, _⟩ := ns; ⟨o', zz⟩) (xdO_ok ⟨_, ns, fun a => ?_, fun a ha => ?_⟩), q2⟩
    · show RelO ((putF g y fs).lookup a) (if a = g then some u else mA a)
      rw [lookup_putF]
      by_cases z : a = g
      · rw [if_pos z, if_pos z]; exact ry
      · rw [if_neg z, if_neg z]; exact n2 a
    · by_cases z : a = g
      · rw [z]; exact (keys_putF g y fs).1
      · refine (keys_putF g y fs).2 a (n3 a fun zz => ha ?_)
        show (if a = g then some u else mA a) = none
        rw [if_neg z]; exact zz
/-- e.f -/
def tXFld (K : PySem.W.Frag) (ta : TE) (f : Str) : TE := fun σ H Q => ta σ H fun x H1 => ∃ e C nw d fs v, x = .ref e ∧ H1 e = some (excO nw e C (some d)) ∧ XC K C ∧ NoAttr K C f ∧ H1 d = some (xdO d fs) ∧ fs.lookup f = some v ∧ Q v H1
theorem pe_xfld {o : Expr} {g : Str} (ha : PE X o ta) (hb : attributeBase o g X.env (eval o X.env) = eval o X.env) : PE X (.Attribute o g pos) (tXFld X.K ta g) := by
  intro pins s σ H Q I h
  refine attr_of hb (thn (ha pins s σ H _ I h) fun u s1 ⟨x, H1, I1, rx, e, C, nw, d, fs, v, ex, he, c, n, hd, hl, q⟩ => ?_)
  subst ex
  obtain rfl : u = Value.ref e := rx
  obtain ⟨oe, vs, x1, x2, x3, x4, x5⟩ := excO_get I1.hok he
  obtain ⟨mA, n1, n2, n3⟩ := (I1.hok d _ hd).1
  obtain ⟨od, hod, hlk⟩ := lookIn_ns n1
  obtain ⟨u', hu, ru⟩ := RelO.some_of (v := v) (o := mA g) (by rw [← hl]; exact n2 g)
  have K1 := I1.kIn
  have fin : ∀ t', Inv X pins σ H1 { s1 with toks := t' } := fun t' => I1.tok t'
  have inst : PySem.W.InstAt s1.heap e oe C (some od) := ⟨x1, x2, by unfold PySem.W.notCls; rw [x4], by rw [x3]; exact hod⟩
  obtain ⟨hh, gg, dd, tt, oo⟩ := s1
  exact x_get K1 (xobj_of K1 c.is) c.ga c.gh n inst (by rw [hlk, hu]) (handed_of ru) ⟨v, H1, fin _, ru, q⟩
/-! ### isinstance -/
def clsV : V → Option Value
  | .ref a => some (.ref a)
  | .ty n => some (.type n)
  | _ => none
theorem clsV_rel {v : V} {u z : Value} (h : clsV v = some z) (r : RelV v u) : u = z := by
  cases v <;> first | (cases h; exact r) | cases h
def rIsX (K : PySem.W.Frag) : List V → Hp → VK → Prop := fun xs H Q => ∃ e C nw dO c z b, xs = [.ref e, c] ∧ H e = some (excO nw e C dO) ∧ (∀ d, dO = some d → ∃ fs, H d = some (xdO d fs)) ∧ XC K C ∧ clsV c = some z ∧ PySem.W.kitOne K (.ref C) z = some b ∧ Q (.bl b) H
theorem xat_of {e C : Addr} {nw : Bool} {dO : Option Addr} (I : Inv X pins σ H s) (he : H e = some (excO nw e C dO)) (hd : ∀ d, dO = some d → ∃ fs, H d = some (xdO d fs)) : XAt e C s.heap := by
  obtain ⟨oe, vs, x1, x2, x3, x4, _⟩ := excO_get I.hok he
  refine ⟨oe, x1, x2, by unfold PySem.W.notCls; rw [x4], fun d q => ?_⟩
  rw [x3] at q
  obtain ⟨fs, h2⟩ := hd d q
  exact (I.hok d _ h2).some_
theorem call_isX (K : PySem.W.Frag) (h : X.K = K) : CallR X (.builtin "isinstance") (rIsX K) := by
  subst h
  intro pins s σ H xs us Q I r h
  obtain ⟨e, C, nw, dO, c, z, b, rfl, he, hd, xc, hz, hk, q⟩ := h
  obtain ⟨u, w', rfl, r1, r2⟩ := vals2 r
  obtain rfl : u = Value.ref e := r1
  cases clsV_rel hz r2
  exact PySem.W.kia_one (kitx_exc xc) I.kIn (xat_of I he hd) hk (fun z => nomatch z) fun tk => ⟨.bl b, H, I.tok _, rfl, q⟩
def clsVs : List V → Option (List Value)
  | [] => some []
  | v :: r => match clsV v, clsVs r with
    | some z, some zs => some (z :: zs)
    | _, _ => none
theorem clsVs_rel : ∀ {vs : List V} {us zs : List Value}, clsVs vs = some zs → Vals vs us → us = zs
  | [], _, _, h, .nil => by cases h; rfl
  | v :: r, _, zs, h, .cons a b => by
    unfold clsVs at h
    split at h
    · rename_i z zs' h1 h2
      cases h
      rw [clsV_rel h1 a, clsVs_rel h2 b]
    · cases h
def rIsXT (K : PySem.W.Frag) : List V → Hp → VK → Prop := fun xs H Q => ∃ e C nw dO tp cs zs b, xs = [.ref e, .ref tp] ∧ H e = some (excO nw e C dO) ∧ (∀ d, dO = some d → ∃ fs, H d = some (xdO d fs)) ∧ XC K C ∧ H tp = some (.tup cs) ∧ clsVs cs = some zs ∧ PySem.W.kitAny K (.ref C) zs = some b ∧ Q (.bl b) H
theorem call_isXT (K : PySem.W.Frag) (h : X.K = K) : CallR X (.builtin "isinstance") (rIsXT K) := by
  subst h
  intro pins s σ H xs us Q I r h
  obtain ⟨e, C, nw, dO, tp, cs, zs, b, rfl, he, hd, xc, ht, hz, hk, q⟩ := h
  obtain ⟨u, w', rfl, r1, r2⟩ := vals2 r
  obtain rfl : u = Value.ref e := r1
  obtain rfl : w' = Value.ref tp := r2
  obtain ⟨_, its, rv, ob, o1, o2, n, o3⟩ := (show ObjOk X.prog X.w H s.heap tp (.tup cs) from I.hok tp _ ht)
  have := clsVs_rel hz rv
  subst this
  obtain ⟨a1, a2, a3, a4⟩ := ob
  cases (show a1 = _ from o2)
  cases (show a3 = _ from o3)
  exact PySem.W.kia_tup (kitx_exc xc) I.kIn (xat_of I he hd) o1 hk (fun z => nomatch z) fun tk => ⟨.bl b, H, I.tok _, rfl, q⟩
end
end L2
set_option maxHeartbeats 4000000
/-! ### try, except M as n -/
namespace L2
open PySem PySem.Spec PyProof.Rows XL
/-- a try's body: pn: what is pinned ahead of it; W: what is wanted of an exception -/
abbrev cxTry (X : Cx) (pn : List (Addr × Obj)) (W : Value → Shared → Prop) : Cx := { X with pn := X.pn ++ pn, xe := W }
/-- an except suite -/
abbrev cxIn (X : Cx) (ev : Value) : Cx := { X with A := X.A.mark (some ev), calm := false, xe := fun _ _ => False }
section
variable {X : Cx} {pins pn : List (Addr × Obj)} {σ : St} {H : Hp} {s : Shared} {W : Value → Shared → Prop} {ev : Value}
theorem Inv.toTry (I : Inv X pins σ H s) : Inv (cxTry X pins W) [] σ H s :=
  ⟨⟨I.ok.mod, I.ok.kind, I.ok.glob, I.ok.blt, I.ok.above, I.ok.inj, I.ok.has, I.ok.cab, I.ok.hd, I.ok.frames, I.ok.stk, I.ok.exf, I.ok.bs, I.ok.bsz, I.ok.noex, I.ok.exfs, I.ok.funs, I.ok.frf⟩, I.os, I.bare, I.base, I.loc, I.cell, I.free, I.freeC, fun p hp => I.pin p (by simpa using hp), I.hok, I.len⟩
theorem Inv.ofTry (I : Inv (cxTry X pn W) pins σ H s) : Inv X pn σ H s :=
  ⟨⟨I.ok.mod, I.ok.kind, I.ok.glob, I.ok.blt, I.ok.above, I.ok.inj, I.ok.has, I.ok.cab, I.ok.hd, I.ok.frames, I.ok.stk, I.ok.exf, I.ok.bs, I.ok.bsz, I.ok.noex, I.ok.exfs, I.ok.funs, I.ok.frf⟩, I.os, I.bare, I.base, I.loc, I.cell, I.free, I.freeC, fun p hp => I.pin p (List.mem_append_left _ hp), I.hok, I.len⟩
theorem Inv.toIn (I : Inv X pins σ H s) : Inv (cxIn X ev) pins σ H s :=
  ⟨⟨I.ok.mod, I.ok.kind, I.ok.glob, I.ok.blt, I.ok.above, I.ok.inj, I.ok.has, I.ok.cab, (fun z => by cases z), I.ok.frames, I.ok.stk, I.ok.exf, I.ok.bs, I.ok.bsz, I.ok.noex, I.ok.exfs, I.ok.funs, I.ok.frf⟩, I.os, I.bare, I.base, I.loc, I.cell, I.free, I.freeC, I.pin, I.hok, I.len⟩
theorem Inv.ofIn (ok : X.Ok) (I : Inv (cxIn X ev) pins σ H s) : Inv X pins σ H s := ⟨ok, I.os, I.bare, I.base, I.loc, I.cell, I.free, I.freeC, I.pin, I.hok, I.len⟩
/-- a local name is unbound -/
theorem Inv.unbind {i : Nat} {x : Str} {M : Model} {A : Around} {E : Value → Shared → Prop} {Q : Unit → Shared → Prop} {v : V} (I : Inv X pins σ H s) (hN : X.N.Nodup) (hi : X.N[i]? = some x) (hx : X.env.kindOf x = some .local) (hv : σ[i]? = some (some v))
    (h : ∀ s', Inv X pins (σ.set i none) H s' → Q () s') : wpAny M A (unbindName X.env x) Q E s := by
  obtain ⟨m, hn, hl⟩ := id I.loc
  have hcls : (X.env.scope.kind == .class || (X.env.scope.kind == .module && X.env.locals != X.env.globals)) = false := by rw [I.ok.kind]; rfl
  obtain ⟨u, _, hu⟩ := hl i x v hi hv (.inl hx)
  have mu : m x = some u := by
    rcases hu with ⟨_, z⟩ | ⟨z, _⟩
    · exact z
    · rcases z with z | z <;> (rw [hx] at z; cases z)
  obtain ⟨oL, esL, epL, hoL, dL, rL⟩ := id hn
  refine wpAny_unbindName_local hx hn mu hcls fun h' w hn' hs => h _ ?_
  have neL : ∀ b o, X.s₀.heap.get? b = some o → b ≠ X.env.locals := fun b o e => Nat.ne_of_lt (Nat.lt_of_lt_of_le (Heap.lt_size e) I.ok.above)
  refine ⟨I.ok, I.os, I.bare, ⟨fun b o e n hb hxx => (hs.2 b (neL b o e)).trans (I.base.keep b o e n hb hxx), fun b o e n hb hxx => ?_, I.base.free, fun b o e hxx => ?_, I.base.tups, I.base.frzs, I.base.tbls⟩, ⟨_, hn', fun j y v' e1 e2 e3 => ?_⟩, fun y c e => ?_, I.free, I.freeC, fun p hp => ?_, fun b ob e => ?_, by simpa using I.len⟩
  · obtain ⟨sl, e1⟩ := I.base.slot b o e n hb hxx
    exact ⟨sl, (hs.2 b (neL b o e)).trans e1⟩
  · obtain ⟨o', e1⟩ := I.base.there b o e hxx
    exact ⟨o', (hs.2 b (neL b o e)).trans e1⟩
  · have ji : j ≠ i := fun z => by
      rw [z] at e2
      by_cases hlt : i < σ.length
      · rw [List.getElem?_set_self hlt] at e2; cases e2
      · rw [List.getElem?_eq_none (by simpa using hlt)] at e2; cases e2
    rw [List.getElem?_set_ne (Ne.symm ji)] at e2
    obtain ⟨u', r', q⟩ := hl j y v' e1 e2 e3
    refine ⟨u', r', ?_⟩
    rcases q with ⟨k, e⟩ | ⟨k, c, e, z⟩
    · refine .inl ⟨k, ?_⟩
      have ne : y ≠ x := fun z => ji (nodup_ix hN e1 (z ▸ hi))
      show (if y = x then w else m y) = some u'
      rw [if_neg ne]; exact e
    · exact .inr ⟨k, c, e, z.sameBut hs (I.cne y c e)⟩
  · obtain ⟨v', z⟩ := I.cell y c e
    exact ⟨v', z.sameBut hs (I.cne y c e)⟩
  · obtain ⟨e, n, ne, nf, d⟩ := I.pin p hp
    exact ⟨(hs.2 p.1 ne).trans e, n, ne, nf, d⟩
  · refine (I.hok b ob e).stay (fun c w' hc q => (hs.2 c ?_).trans q) (fun _ q => q) fun _ _ q => q
    rintro rfl
    rcases hc with rfl | hc
    · rw [I.free] at e; cases e
    · rw [I.free] at hc; cases hc
end
/-- what is wanted of an exception: the suite's reading -/
def hTry (K : PySem.W.Frag) (M : Addr) (n : Nat) (th : TS) (D : Ends) : St → XK := fun σ c dO H' => ∃ C, c = .ref C ∧ PySem.W.mroIn K C (.ref M) = some true ∧ (∀ d, dO = some d → ∃ fs, H' d = some (xdO d fs)) ∧
  ∀ e, H' e = none → th { nx := fun σ' H'' => D.nx (σ'.set n none) H'', rt := D.rt, bk := fun σ' H'' => D.bk (σ'.set n none) H'', ct := fun σ' H'' => D.ct (σ'.set n none) H'' } (σ.set n (some (.ref e))) (upd H' e (excO false e C dO))
def tTry (K : PySem.W.Frag) (M : Addr) (n : Nat) (tb : (St → XK) → TS) (th : TS) : TS := fun D σ H => tb (hTry K M n th D) D σ H
section
variable {X : Cx} {M : Addr} {n : Nat} {mx nm : Str} {body suite : List Stmt} {b₀ : Stmt} {tb : (St → XK) → TS} {th : TS} {pos hpos mp : Pos} {pins : List (Addr × Obj)} {σ : St} {H : Hp} {s : Shared} {D : Ends}
theorem try_end {e C : Addr} {dO : Option Addr} {f : Flow} (ok : X.Ok) (hN : X.N.Nodup) (hni : X.N[n]? = some nm) (hnl : X.env.kindOf nm = some .local)
    (h : SP (cxIn X (.ref e)) pins { nx := fun σ' H'' => D.nx (σ'.set n none) H'', rt := D.rt, bk := fun σ' H'' => D.bk (σ'.set n none) H'', ct := fun σ' H'' => D.ct (σ'.set n none) H'' } f s) :
    wpAny (model X.prog X.w) X.A (do bindName X.env nm .none; unbindBehindTheSuite X.env nm hpos) (fun _ s₅ => SP X pins D f s₅) X.xe s := by
  have go : ∀ {σ' : St} {H' : Hp} {Q : Unit → Shared → Prop}, Inv (cxIn X (.ref e)) pins σ' H' s → (∀ s', Inv X pins (σ'.set n none) H' s' → Q () s') → wpAny (model X.prog X.w) X.A (do bindName X.env nm .none; unbindBehindTheSuite X.env nm hpos) Q X.xe s := fun {σ' H' Q} J k => by
    have I5 := J.ofIn ok
    have hlt : n < σ'.length := by rw [I5.len]; exact (List.getElem?_eq_some_iff.mp hni).1
    refine wpAny_bind (wpAny_bindName (store_ok I5 hN hni (.inl hnl) (v := .non) rfl (fun s6 I6 => ?_) (.inr hnl)))
    unfold unbindBehindTheSuite
    refine wpAny_onRaise (I6.unbind hN hni hnl (v := .non) (List.getElem?_set_self hlt) fun s7 I7 => ?_)
    rw [List.set_set] at I7
    exact k s7 I7
  cases f with
  | next => obtain ⟨σ', H', J, q⟩ := h; exact go J fun s' I' => ⟨_, H', I', q⟩
  | brk => obtain ⟨σ', H', J, q⟩ := h; exact go J fun s' I' => ⟨_, H', I', q⟩
  | cont => obtain ⟨σ', H', J, q⟩ := h; exact go J fun s' I' => ⟨_, H', I', q⟩
  | ret u => obtain ⟨v, σ', H', J, r, q⟩ := h; exact go J fun s' I' => ⟨v, _, H', I', r, q⟩
theorem try_handle {e C T : Addr} {dO : Option Addr} (cm : XC X.K M) (hg : Gl X mx) (hm : X.mg mx = some (.ref M)) (hN : X.N.Nodup) (hni : X.N[n]? = some nm) (hnl : X.env.kindOf nm = some .local) (hh : ∀ ev, PSs (cxIn X ev) (b₀ :: suite) th)
    (I : Inv X pins σ H s) (c : XC X.K C) (tb : Tb s.heap e C dO T .none) (e0 : X.s₀.heap.get? e = none) (T0 : X.s₀.heap.get? T = none) (pe : ∀ p ∈ X.pn ++ pins, p.1 ≠ e) (pT : ∀ p ∈ X.pn ++ pins, p.1 ≠ T) (He : H e = none) (HT : H T = none) (q : hTry X.K M n th D σ (.ref C) dO H)
    (hdb : (mx == ("__debug__" : Str)) = false) : wpAny (model X.prog X.w) X.A (handleBy (.ref e) X.env [.ExceptHandler (some (.Name mx mp)) (some nm) (b₀ :: suite) hpos]) (SP X pins D) X.xe s := by
  obtain ⟨C', ec, hs, hd, q⟩ := q
  cases ec
  have q := q e He
  refine wpAny_handleBy_cons (codeAny_handlers_test ?_) (by intro q; cases q)
  refine ld_glob (X := cxIn X (.ref e)) I.toIn hg hm ?_ hdb
  have K1 := I.kIn
  have id := tb
  obtain ⟨oe, vs, oT, ts, t1, t2, t3, t4, t5, t6, t7, t8, t9⟩ := id
  have xat : XAt e C s.heap := ⟨oe, t1, t2, by unfold PySem.W.notCls; rw [t4], fun d z => by
    rw [t3] at z
    obtain ⟨fs, y⟩ := hd d z
    exact (I.hok d _ y).some_⟩
  have neL : e ≠ X.env.locals := fun z => by
    obtain ⟨m, ⟨ol, es, ep, y, yd, _⟩, _⟩ := I.loc
    rw [← z, t1] at y
    cases y
    rw [t4] at yd; cases yd
  have nec : ∀ x cc, X.env.cells.lookup x = some cc → cc ≠ e := fun x cc y z => by
    obtain ⟨v, oc, y1, y2⟩ := I.cell x cc y
    rw [z, t1] at y1
    cases y1
    rw [t4] at y2; cases y2
  have I0 : Inv X pins σ H s := I
  obtain ⟨h0, gg, dd, tt, oo⟩ := s
  refine x_matches K1 c cm hs xat ?_
  refine codeAny_handlers_suite_as ?_
  refine x_land (S := frs X.stack) tb fun h1 tb1 k1 => ?_
  have I1 := I0.kept2 k1 (fun b hb => by
    have z : b = T := List.mem_singleton.mp hb
    rw [z]
    refine ⟨T0, fun o y => ⟨ts, ?_⟩, pT, HT⟩
    rw [t7] at y
    cases y
    exact t8)
  obtain ⟨oe', vs', _, _, u1, u2, u3, u4, _⟩ := tb1
  have I2 := I1.track (a := e) (o := excO false e C dO) He e0 neL nec pe (excO_ok ⟨oe', vs', u1, u2, u3, u4, fun z => nomatch z⟩)
  refine store_ok I2 hN hni (.inl hnl) (v := .ref e) rfl (fun s4 I4 => ?_) (.inr hnl)
  refine wpAny_mono (hh (.ref e) pins s4 _ _ _ I4.toIn q) (fun f s5 sp => ?_) fun _ _ z => z.elim
  exact try_end (C := C) (dO := dO) I0.ok hN hni hnl sp
theorem ps_try (cm : XC X.K M) (hg : Gl X mx) (hm : X.mg mx = some (.ref M)) (hN : X.N.Nodup) (hni : X.N[n]? = some nm) (hnl : X.env.kindOf nm = some .local) (hstk : X.stack = X.env :: X.outer) (hfrm : X.env.frame = some X.env.locals) (hexn : X.ex = [])
    (hb : ∀ pn W E, Throws (cxTry X pn W) E → PassesS (CXF X.prog X.w X.K) (cxTry X pn W) E → PSs (cxTry X pn W) body (tb E)) (hh : ∀ ev, PSs (cxIn X ev) (b₀ :: suite) th) (hdb : (mx == ("__debug__" : Str)) = false := by decide) :
    PS X (.Try body [.ExceptHandler (some (.Name mx mp)) (some nm) (b₀ :: suite) hpos] [] [] pos) (tTry X.K M n tb th) := by
  intro pins s σ H D I h
  refine wpAny_Try_except ?_
  have frames : X.A.frames = some (X.env :: X.outer) := by rw [← hstk]; exact I.ok.frames
  refine wpAny_mono (hb pins _ (hTry X.K M n th D) ?_ ?_ [] s σ H D I.toTry h) (fun f s1 q => ?_) fun e s1 z => z
  · intro pins' σ' H1 s1 e C dO J he h0 c q
    have I1 := J.ofTry
    obtain ⟨oe, vs, x1, x2, x3, x4, x5⟩ := excO_get I1.hok he
    have stack1 : s1.heap.FunFrames X.base (X.env :: X.outer) := by rw [← hstk]; exact I1.stack
    have e0 : X.s₀.heap.get? e = none := by
      cases z : X.s₀.heap.get? e with
      | none => rfl
      | some o =>
        have := I1.base.free e o z h0 (by rw [hexn]; simp)
        rw [he] at this; cases this
    have pe : ∀ p ∈ X.pn ++ pins, p.1 ≠ e := fun p hp z => by
      have := (I1.pin p hp).2.1
      rw [z, he] at this; cases this
    show wpAny _ _ (noteFrame (.ref e) X.env) _ _ s1
    refine x_note0 (base := X.base) (L := X.env.locals) frames stack1 hfrm ⟨oe, vs, x1, x2, x3, x4, (x5 rfl).1⟩ fun h1 T hT tb k1 => ?_
    refine x_land (S := frs X.stack) tb fun h2 tb2 k2 => ?_
    have k1' : Kept (frs X.stack) [e] s1.heap h1 := by rw [hstk]; exact k1
    have T0 : X.s₀.heap.get? T = none := by
      cases z : X.s₀.heap.get? T with
      | none => rfl
      | some o =>
        obtain ⟨o', z'⟩ := I1.base.there T o z (by rw [hexn]; simp)
        rw [hT] at z'; cases z'
    have pT : ∀ p ∈ X.pn ++ pins, p.1 ≠ T := fun p hp z => by
      have := (I1.pin p hp).1
      rw [z, hT] at this; cases this
    have nT : H1 T = none := I1.hok.none_of hT
    have I2 := (I1.untrack ⟨_, he⟩).kept2 (k1'.trans k2) (fun b hbx => by
      simp only [List.cons_append, List.nil_append, List.mem_cons, List.not_mem_nil, or_false] at hbx
      rcases hbx with z | z
      · rw [z]
        refine ⟨e0, fun o y => ⟨vs, ?_⟩, pe, unt_same⟩
        rw [x1] at y; cases y; exact x4
      · rw [z]
        refine ⟨T0, fun o y => ?_, pT, unt_none nT⟩
        rw [hT] at y; cases y)
    exact try_handle cm hg hm hN hni hnl hh I2 c tb2 e0 T0 pe pT unt_same (unt_none nT) q hdb
  · intro pins' σ' H1 s1 ev s2 J hcx
    have I1 := J.ofTry
    obtain ⟨e, C, dO, T1, H2, rfl, c, os, bare, un, hok, n1, n2, n3, n4, tb0, q⟩ := hcx
    have I2 := I1.call' os un hok bare (fun b z => absurd z (by simp))
    have stack2 : s2.heap.FunFrames X.base (X.env :: X.outer) := by rw [← hstk]; exact I2.stack
    have old : ∀ {b}, s1.heap.get? b = none → X.s₀.heap.get? b = none := fun {b} y => by
      cases z : X.s₀.heap.get? b with
      | none => rfl
      | some o =>
        obtain ⟨o', z'⟩ := I1.base.there b o z (by rw [hexn]; simp)
        rw [y] at z'; cases z'
    have pin1 : ∀ {b}, s1.heap.get? b = none → ∀ p ∈ X.pn ++ pins, p.1 ≠ b := fun {b} y p hp z => by
      have := (I1.pin p hp).1
      rw [z, y] at this; cases this
    have tb0' := tb0
    obtain ⟨oe, vs, oT1, ts, x1, x2, x3, x4, x5, x6, x7, x8, x9⟩ := tb0
    show wpAny _ _ (noteFrame (.ref e) X.env) _ _ s2
    refine x_noteT (base := X.base) (L := X.env.locals) frames stack2 hfrm tb0' fun h1 T hT tb k1 => ?_
    refine x_land (S := frs X.stack) tb fun h2 tb2 k2 => ?_
    have k1' : Kept (frs X.stack) [T1, e] s2.heap h1 := by rw [hstk]; exact k1
    have T0 : X.s₀.heap.get? T = none := by
      cases z : X.s₀.heap.get? T with
      | none => rfl
      | some o =>
        obtain ⟨o', z'⟩ := I2.base.there T o z (by rw [hexn]; simp)
        rw [hT] at z'; cases z'
    have pT : ∀ p ∈ X.pn ++ pins, p.1 ≠ T := fun p hp z => by
      have := (I2.pin p hp).1
      rw [z, hT] at this; cases this
    have nT : H2 T = none := I2.hok.none_of hT
    have I3 := I2.kept2 (k1'.trans k2) (fun b hbx => by
      simp only [List.cons_append, List.nil_append, List.mem_cons, List.not_mem_nil, or_false] at hbx
      rcases hbx with z | z | z
      · rw [z]
        refine ⟨old n2, fun o y => ⟨ts, ?_⟩, pin1 n2, n4⟩
        rw [x7] at y; cases y; exact x8
      · rw [z]
        refine ⟨old n1, fun o y => ⟨vs, ?_⟩, pin1 n1, n3⟩
        rw [x1] at y; cases y; exact x4
      · rw [z]
        refine ⟨T0, fun o y => ?_, pT, nT⟩
        rw [hT] at y; cases y)
    exact try_handle cm hg hm hN hni hnl hh I3 c tb2 (old n1) T0 (pin1 n1) pT n3 nT q hdb
  · cases f with
    | next => obtain ⟨σ', H', J, q⟩ := q; exact wpAny_execs_nil ⟨σ', H', J.ofTry, q⟩
    | brk => obtain ⟨σ', H', J, q⟩ := q; exact ⟨σ', H', J.ofTry, q⟩
    | cont => obtain ⟨σ', H', J, q⟩ := q; exact ⟨σ', H', J.ofTry, q⟩
    | ret u => obtain ⟨v, σ', H', J, r, q⟩ := q; exact ⟨v, σ', H', J.ofTry, r, q⟩
end
end L2
set_option maxHeartbeats 4000000
/-! ### the __init__ of an exception: one field, two fields -/
namespace L2
open PySem PySem.Spec PyProof.Rows XL
def inC (s : Stmt) (j : Nat) : Stmt := match s with
  | .ClassDef _ _ _ b _ _ _ _ _ _ _ => b.getD j (.Pass ⟨0, 0, 0, 0⟩)
  | _ => .Pass ⟨0, 0, 0, 0⟩
def sp_X1 (C : Addr) (f : Str) : Sp := fun vs H Q _ => ∃ e v, vs = [.ref e, v] ∧ H e = some (excO true e C none) ∧ ∀ d, H d = none → d ≠ e → Q .non (upd (upd H e (excO true e C (some d))) d (xdO d [(f, v)]))
theorem len_X1 {C : Addr} {f : Str} {vs : List V} {H : Hp} {Q : VK} {E : XK} (h : sp_X1 C f vs H Q E) : vs.length = 2 := by obtain ⟨_, _, rfl, _⟩ := h; rfl
/-- a new exception lies there, all else as it was -/
structure Made (H H' : Hp) (e d : Addr) (C : Addr) (fs : List (Str × V)) : Prop where
  ne : H e = none
  nd : H d = none
  ap : d ≠ e
  at_ : H' e = some (excO true e C (some d))
  di : H' d = some (xdO d fs)
  old : ∀ b, b ≠ e → b ≠ d → H' b = H b
theorem Made.same {H H' : Hp} {e d C : Addr} {fs : List (Str × V)} (m : Made H H' e d C fs) : Same H H' := fun b o q => by
  rw [m.old b (fun z => by rw [z, m.ne] at q; cases q) (fun z => by rw [z, m.nd] at q; cases q)]; exact q
/-- behind a raise: the exception is no more tracked -/
theorem Made.gone {H H' : Hp} {e d C : Addr} {fs : List (Str × V)} (m : Made H H' e d C fs) : Same H (unt H' e) ∧ unt H' e d = some (xdO d fs) := by
  refine ⟨fun b o q => ?_, ?_⟩
  · rw [unt_ne (fun z => by rw [z, m.ne] at q; cases q)]; exact m.same b o q
  · rw [unt_ne m.ap]; exact m.di
theorem made_of {H : Hp} {e d C : Addr} {fs : List (Str × V)} (ne : H e = none) (nd : upd H e (excO true e C none) d = none) (ap : d ≠ e) :
    Made H (upd (upd (upd H e (excO true e C none)) e (excO true e C (some d))) d (xdO d fs)) e d C fs := by
  rw [upd_ne ap] at nd
  refine ⟨ne, nd, ap, ?_, upd_same, fun b h1 h2 => ?_⟩
  · rw [upd_ne (Ne.symm ap), upd_same]
  · rw [upd_ne h2, upd_ne h1, upd_ne h1]
theorem mk_X1 {H : Hp} {Q : VK} {C : Addr} {f : Str} {v : V} (h : ∀ e d H', Made H H' e d C [(f, v)] → Q (.ref e) H') : [v].length ≤ sizeLine ∧ ∀ e, H e = none → sp_X1 C f (.ref e :: [v]) (upd H e (excO true e C none)) (fun u H2 => u = .non ∧ Q (.ref e) H2) E0 :=
  ⟨by show 1 ≤ sizeLine; decide, fun e ne => ⟨e, v, rfl, upd_same, fun d nd ap => ⟨rfl, h e d _ (made_of ne nd ap)⟩⟩⟩
theorem kitAny_no {K : PySem.W.Frag} {t : Value} : ∀ {zs : List Value}, (∀ z ∈ zs, PySem.W.kitOne K t z = some false) → PySem.W.kitAny K t zs = some false
  | [], _ => rfl
  | z :: zs, h => by
    unfold PySem.W.kitAny
    rw [h z List.mem_cons_self]
    exact kitAny_no fun y hy => h y (List.mem_cons_of_mem _ hy)
theorem boot_VE : bootBuiltins "ValueError" = some (.type "ValueError") := PyProof.Rows.Boot.«ValueError»
end L2
set_option maxHeartbeats 4000000
/-! ### raising a new exception with its fields, read at once -/
namespace L2
open PySem PySem.Spec PyProof.Rows XL
theorem Same.none_ {H H' : Hp} {p : Addr} (s : Same H H') (n : H' p = none) : H p = none := by
  cases q : H p with
  | none => rfl
  | some o => rw [s p o q] at n; cases n
theorem raise_X1 {K : PySem.W.Frag} {H0 H : Hp} {E : XK} {C : Addr} {f : Str} {v : V} (xc : XC K C) (h0 : Same H0 H) (h : ∀ d H', H' d = some (xdO d [(f, v)]) → Same H H' → E (.ref C) (some d) H') :
    [v].length ≤ sizeLine ∧ ∀ e, H e = none → sp_X1 C f (.ref e :: [v]) (upd H e (excO true e C none)) (fun u H2 => u = .non ∧ ∃ e' C' dO, V.ref e = .ref e' ∧ H2 e' = some (excO true e' C' dO) ∧ H0 e' = none ∧ XC K C' ∧ E (.ref C') dO (unt H2 e')) E0 :=
  mk_X1 (Q := fun v H1 => ∃ e' C' dO, v = .ref e' ∧ H1 e' = some (excO true e' C' dO) ∧ H0 e' = none ∧ XC K C' ∧ E (.ref C') dO (unt H1 e')) fun e d H' m => ⟨e, C, some d, rfl, m.at_, h0.none_ m.ne, xc, h d _ m.gone.2 m.gone.1⟩
theorem pe_xfldK {X : Cx} (K : PySem.W.Frag) (h : X.K = K) {o : Expr} {g : Str} {pos : Pos} {ta : TE} (ha : PE X o ta) (hb : attributeBase o g X.env (eval o X.env) = eval o X.env) : PE X (.Attribute o g pos) (tXFld K ta g) := by subst h; exact pe_xfld ha hb
theorem ps_raiseK {X : Cx} {e : Expr} {te : TE} {pos : Pos} {E : St → XK} (K : PySem.W.Frag) (H0 : Hp) (hK : X.K = K) (hH : X.H₀ = H0) (hh : X.A.handled = none) (th : Throws X E) (hx : PE X e te) : PS X (.Raise (some e) none pos) (tRaise K H0 E te) := by
  subst hK hH
  exact ps_raise hh th hx
end L2
/-! ### defs that call themselves; isinstance(x, tuple) of anything; text.upper() -/
namespace L2
open PySem PySem.Spec PyProof.Rows
theorem fn_never {P : Program} {w : World} {K : PySem.W.Frag} {mg : Str → Option Value} {base : Heap} {CX : CXT} {k : Nat} {f : Addr} {fd : FuncData} {ps : List Str} {sp : Sp} (h : ∀ vs H Q E, sp vs H Q E → False) : FnOk P w K mg base CX k f fd ps sp :=
  ⟨fun vs H Q E x => (h vs H Q E x).elim, fun _ _ _ H _ _ vs Q E _ _ _ _ x => (h vs H Q E x).elim⟩
section
variable {X : Cx}
def rIsTupG : List V → Hp → VK → Prop := fun xs H Q => ∃ x, xs = [x, .ty "tuple"] ∧ ((∃ p ys, x = .ref p ∧ H p = some (.tup ys) ∧ Q (.bl true) H) ∨ (∃ z, x = .str z ∧ Q (.bl false) H) ∨ ∃ i, x = .int i ∧ Q (.bl false) H)
theorem call_isTupG (K : PySem.W.Frag) (h : X.K = K) : CallR X (.builtin "isinstance") rIsTupG := by
  subst h
  intro pins s σ H xs us Q I r h
  obtain ⟨x, rfl, h⟩ := h
  obtain ⟨u, w', rfl, r1, r2⟩ := vals2 r
  cases (show w' = Value.type "tuple" from r2)
  rcases h with ⟨p, ys, rfl, hq, q⟩ | ⟨z, rfl, q⟩ | ⟨i, rfl, q⟩
  · exact isinst_ok I r1 (.tup hq) (by unfold PySem.W.kitOne; rw [if_pos (by decide)]) fun tk => ⟨.bl true, H, I.tok _, rfl, q⟩
  · exact isinst_ok I r1 (.str z) (b := false) (by unfold PySem.W.kitOne; rw [if_neg (by decide)]; rfl) fun tk => ⟨.bl false, H, I.tok _, rfl, q⟩
  · exact isinst_ok I r1 (.int i) (b := false) (by unfold PySem.W.kitOne; rw [if_neg (by decide)]; rfl) fun tk => ⟨.bl false, H, I.tok _, rfl, q⟩
end
end L2
set_option maxHeartbeats 4000000
/-! ### a raise that leaves a comprehension -/
namespace XL
open PySem PySem.Spec PySem.Calls PyProof.Rows PySem.W
section
variable {M : Model} {A : Around} {E : Value → Shared → Prop} {s : Shared} {base : Heap} {env env' : Env} {outer : List Env} {L e C : Addr} {dO : Option Addr}
/-- noting asks for the frame alone -/
theorem note_same {x : Value} (h : env.frame = env'.frame) : noteFrame x env = noteFrame x env' := by
  unfold noteFrame PySem.frameOf
  rw [h]
theorem x_noteA {T0 : Addr} {fl : Value} {Q : Unit → Shared → Prop} (hfr : A.frames = some (env :: outer)) (hl : s.heap.FunFrames base (env :: outer)) (hf : env.frame = some L) (hx : Tb s.heap e C dO T0 fl)
    (hQ : ∀ h' T, (T = T0 ∨ s.heap.get? T = none) → Tb h' e C dO T (rawInt L) → Kept ((env :: outer).filterMap (·.frame)) [T0, e] s.heap h' → Q () { s with heap := h' }) : wpAny M A (noteFrame (.ref e) env) Q E s := by
  by_cases hfl : (fl == rawInt L) = true
  · obtain ⟨oe, vs, oT, ts, he, hc, hdi, hd, h1, ne, hT, hdT, h3⟩ := id hx
    have hfl' : fl = rawInt L := by simpa using hfl
    subst hfl'
    unfold noteFrame
    simp only [hf]
    refine wpAny_bind (wpAny_field he hd h1 ?_)
    rw [if_pos (by simp)]
    refine wpAny_bind (wpAny_field hT hdT h3 ?_)
    rw [if_pos hfl]
    exact wpAny_pure (hQ s.heap T0 (.inl rfl) hx ⟨fun b o _ _ e => e, fun b o _ _ e => ⟨o.slots, e⟩⟩)
  · obtain ⟨oe, vs, oT, ts, he, hc, hdi, hd, h1, ne, hT, hdT, h3⟩ := hx
    unfold noteFrame
    simp only [hf]
    refine wpAny_bind (wpAny_field he hd h1 ?_)
    rw [if_pos (by simp)]
    refine wpAny_bind (wpAny_field hT hdT h3 ?_)
    rw [if_neg hfl]
    refine wpAny_bind (wpAny_setField hT hdT (Array.getElem?_eq_some_iff.mp h3).1 ?_)
    have apT := frame_apart hl hT hdT
    have k1 : Kept ((env :: outer).filterMap (·.frame)) [T0] s.heap (s.heap.update T0 (Obj.mapFields (·.setIfInBounds 3 Value.none))) :=
      ⟨fun b o hb _ e0 => (Heap.get?_update_other _ _ (fun z => hb (by simp [z]))).trans e0, fun b o hb _ e0 => ⟨o.slots, (Heap.get?_update_other _ _ (fun z => hb (by simp [z]))).trans e0⟩⟩
    refine x_entry (s := { s with heap := s.heap.update T0 (Obj.mapFields (·.setIfInBounds 3 Value.none)) }) hfr (k1.frames (fun b hb => ⟨hb, fun z => apT ((List.mem_singleton.mp z) ▸ hb)⟩) hl) hf
      (k1.keep e oe (fun z => ne (List.mem_singleton.mp z).symm) (frame_apart hl he hd) he) hc hdi hd (Array.getElem?_eq_some_iff.mp h1).1 fun h' T hn tb k2 => hQ h' T (.inr ?_) tb (k1.trans k2)
    cases hq : s.heap.get? T with
    | none => rfl
    | some o =>
      exfalso
      by_cases z : T = T0
      · rw [z, Heap.get?_update_self _ hT (Obj.isFreed_of_fields (Obj.data_mapFields hdT _))] at hn
        cases hn
      · rw [Heap.get?_update_other _ _ (Ne.symm z), hq] at hn
        cases hn
theorem x_fly {S : List Addr} {T : Addr} {fl : Value} {fr : Option Addr} {Q : Unit → Shared → Prop} (hx : Tb s.heap e C dO T fl) (hQ : ∀ h' fl', Tb h' e C dO T fl' → Kept S [T] s.heap h' → Q () { s with heap := h' }) : wpAny M A (setFlight (.ref e) fr) Q E s := by
  obtain ⟨oe, vs, oT, ts, he, hc, hdi, hd, h1, ne, hT, hdT, h3⟩ := hx
  unfold setFlight
  refine wpAny_bind (wpAny_field he hd h1 ?_)
  rw [if_pos (by simp)]
  have hsz : 3 < ts.size := (Array.getElem?_eq_some_iff.mp h3).1
  have d2 := Obj.data_mapFields hdT (·.setIfInBounds 3 (fr.elim Value.none fun f => rawInt f))
  refine wpAny_setField hT hdT hsz (hQ _ (fr.elim Value.none fun f => rawInt f) ⟨oe, vs, _, _, (Heap.get?_update_other _ _ ne).trans he, hc, hdi, hd, h1, ne, Heap.get?_update_self _ hT (Obj.isFreed_of_fields d2), d2, by simp [hsz]⟩
    ⟨fun b o hb _ e0 => (Heap.get?_update_other _ _ (fun z => hb (by simp [z]))).trans e0, fun b o hb _ e0 => ⟨o.slots, (Heap.get?_update_other _ _ (fun z => hb (by simp [z]))).trans e0⟩⟩)
/-- an exception that is noted is thrown on -/
theorem x_pass {α : Type} {S : List Addr} {T : Addr} {fl : Value} {what : String} {Q : α → Shared → Prop} (hx : Tb s.heap e C dO T fl) (hE : ∀ h' fl', Tb h' e C dO T fl' → Kept S [T] s.heap h' → E (.ref e) { s with heap := h' }) : wpAny M A (PySem.passOn what (.ref e) env : Sem α) Q E s := by
  obtain ⟨oe, vs, oT, ts, he, hc, hdi, hd, h1, ne, hT, hdT, h3⟩ := id hx
  unfold PySem.passOn
  refine wpAny_bind (wpAny_field he hd h1 ?_)
  rw [if_neg (by simp)]
  refine wpAny_bind (x_fly (S := S) hx fun h' fl' tb k => ?_)
  exact wpAny_throw (hE h' fl' tb k)
end
end XL
set_option maxHeartbeats 4000000
/-! ### a raise that leaves a comprehension: the layer -/
namespace L2
open PySem PySem.Spec PyProof.Rows XL
/-- an exception that is noted, on its way through X -/
def Flying (X : Cx) (pins : List (Addr × Obj)) (E : XK) (H : Hp) (s : Shared) (e : Addr) : Prop := ∃ (C : Addr) (dO : Option Addr) (T : Addr) (fl : Value), XC X.K C ∧ X.s₀.heap.get? e = none ∧ X.s₀.heap.get? T = none ∧ H e = none ∧ H T = none ∧ Tb s.heap e C dO T fl ∧ (∀ p ∈ X.pn ++ pins, p.1 ≠ T) ∧ E (.ref C) dO H
def PassesN (X : Cx) (E : XK) : Prop := ∀ (pins : List (Addr × Obj)) (σ : St) (H : Hp) (s : Shared) (e : Addr), Inv X pins σ H s → Flying X pins E H s e → X.xe (.ref e) s
section
variable {P : Program} {w : World} {K : PySem.W.Frag} {mg : Str → Option Value} {base : Heap} {N : List Str} {qual : Str} {scope : Scope} {f : Addr} {cd : Value} {A : Around} {outer : List Env} {s : Shared} {H : Hp} {E : XK}
theorem passN : PassesN (cxOf (CXF P w K) P w K mg base N qual scope f cd A outer s H E) E := by
  intro pins σ H2 s2 e I2 h
  obtain ⟨C, dO, T0, fl, c, n1, n2, n3, n4, tb0, _, q⟩ := h
  have n1' : s.heap.get? e = none := n1
  have n2' : s.heap.get? T0 = none := n2
  show wpAny _ _ (leaving _ (.ref e)) _ _ s2
  unfold leaving
  refine wpAny_bind (x_noteA (base := base) (L := s.heap.objs.size) I2.ok.frames I2.stack rfl tb0 fun h1 T hT tb k1 => ?_)
  refine x_land (S := (envOfC qual scope s.heap.objs.size f cd :: outer).filterMap (·.frame)) tb fun h2 tb2 k2 => ?_
  have oT : s.heap.get? T = none := by
    rcases hT with rfl | hT
    · exact n2
    cases z : s.heap.get? T with
    | none => rfl
    | some o =>
      obtain ⟨o', z'⟩ := I2.base.there T o z (by show T ∉ ([] : List Addr); simp)
      rw [hT] at z'; cases z'
  have nT : H2 T = none := by
    rcases hT with rfl | hT
    · exact n4
    · exact I2.hok.none_of hT
  refine ⟨e, C, dO, T, H2, rfl, c, I2.os, I2.bare, un_kept I2.base (k1.trans k2) (fun b hb => ?_) rfl (Heap.get?_none_of_le (Nat.le_refl _)), hok_kept I2.hok (k1.trans k2) (fun b hb => I2.stkFree b hb) (fun b hb => ?_), n1, oT, n3, nT, tb2, q⟩
  · simp only [List.cons_append, List.nil_append, List.mem_cons, List.not_mem_nil, or_false] at hb
    rcases hb with z | z | z <;> rw [z] <;> assumption
  · simp only [List.cons_append, List.nil_append, List.mem_cons, List.not_mem_nil, or_false] at hb
    rcases hb with z | z | z <;> rw [z] <;> assumption
end
theorem compLoop_genX {prog : Program} {w : World} {A : Around} {R : Result → Shared → Prop} {s : Shared} {elt target iter : Expr} {ifs : List Expr} {scope : Scope} {pos : Pos} {it acc : Value} {env : Env} {XE : Value → Shared → Prop} (hXE : XE = notedBy (model prog w) A env fun x s' => R (.error x) s') (I : Nat → Shared → Prop)
    (turn : ∀ n s, I n s → wpAny (model prog w) A (pyNext it) (fun r s₁ => match r with
      | none => R (.ok .next) s₁
      | some v => wpAny (model prog w) A (letOwnedTupleGo target it v) (fun _ s₁' => wpAny (model prog w) A (assign target env v) (fun _ s₂ =>
          wpAny (model prog w) A (forIn ifs true fun c r => if r = true then do let ok ← isTrue c env (eval c env); pure (ForInStep.yield ok) else pure (ForInStep.yield r)) (fun ok s₃ =>
            if ok = true then wpAny (model prog w) A (eval elt env) (fun x s₄ =>
              wpAny (model prog w) A (call (.builtin "list.append") [acc, x]) (fun _ s₅ => ∃ m, m < n ∧ I m s₅) XE s₄) XE s₃
            else ∃ m, m < n ∧ I m s₃) XE s₂) XE s₁') XE s₁) XE s)
    (n : Nat) (h : I n s) : codeAny (model prog w) A (.compLoop (.ListComp elt [⟨target, iter, ifs, 0⟩] scope pos) 0 it acc env) R s := by
  subst hXE
  refine codeAny_loop rfl I (fun n s hI => ?_) n h
  show wpAny _ A ((compTurn (.ListComp elt [⟨target, iter, ifs, 0⟩] scope pos) 0 it acc env).onRaise (fun x => do noteFrame x env; theTreesLotGoes x)) _ _ s
  refine wpAny_noted ?_
  rw [compTurn_list]
  refine wpAny_bind (wpAny_standAt (wpAny_bind (wpAny_mono (turn n s hI) (fun r s₁ h₁ => ?_) fun _ _ e => e)))
  cases r with
  | none => exact wpAny_pure h₁
  | some v =>
    refine wpAny_bind (wpAny_mono h₁ (fun _ s₁' h₁' => ?_) fun _ _ e => e)
    refine wpAny_bind (wpAny_mono h₁' (fun _ s₂ h₂ => wpAny_bind (wpAny_mono h₂ (fun ok s₃ h₃ => ?_) fun _ _ e => e)) fun _ _ e => e)
    cases ok with
    | false => exact wpAny_pure ⟨rfl, h₃⟩
    | true =>
      exact wpAny_bind (wpAny_bind (wpAny_mono h₃ (fun x s₄ h₄ => wpAny_bind (wpAny_mono h₄ (fun _ s₅ h₅ => wpAny_pure (wpAny_pure ⟨rfl, h₅⟩)) fun _ _ e => e)) fun _ _ e => e))
/-- .. with pins that every state bears, and with what is wanted of a raise -/
def cxCompX (X : Cx) (scope : Scope) (C : Addr) (Nc : List Str) (s : Shared) (H : Hp) (fp : List Addr) (pn : List (Addr × Obj)) (xe : Value → Shared → Prop) : Cx := { cxComp X scope C Nc s H fp with pn := pn, xe := xe }
section
variable {X : Cx} {scope : Scope} {C : Addr} {Nc : List Str} {s0 : Shared} {H0 : Hp} {fp : List Addr} {pn pins : List (Addr × Obj)} {xe : Value → Shared → Prop} {σ : St} {H : Hp} {s : Shared}
theorem toX (I : Inv (cxComp X scope C Nc s0 H0 fp) (pn ++ pins) σ H s) : Inv (cxCompX X scope C Nc s0 H0 fp pn xe) pins σ H s :=
  ⟨⟨I.ok.mod, I.ok.kind, I.ok.glob, I.ok.blt, I.ok.above, I.ok.inj, I.ok.has, I.ok.cab, I.ok.hd, I.ok.frames, I.ok.stk, I.ok.exf, I.ok.bs, I.ok.bsz, I.ok.noex, I.ok.exfs, I.ok.funs, I.ok.frf⟩, I.os, I.bare, I.base, I.loc, I.cell, I.free, I.freeC, I.pin, I.hok, I.len⟩
theorem fromX (I : Inv (cxCompX X scope C Nc s0 H0 fp pn xe) pins σ H s) : Inv (cxComp X scope C Nc s0 H0 fp) (pn ++ pins) σ H s :=
  ⟨⟨I.ok.mod, I.ok.kind, I.ok.glob, I.ok.blt, I.ok.above, I.ok.inj, I.ok.has, I.ok.cab, I.ok.hd, I.ok.frames, I.ok.stk, I.ok.exf, I.ok.bs, I.ok.bsz, I.ok.noex, I.ok.exfs, I.ok.funs, I.ok.frf⟩, I.os, I.bare, I.base, I.loc, I.cell, I.free, I.freeC, I.pin, I.hok, I.len⟩
end
/-- what a raise within the block must come to: the list so far is one more object -/
def Ec (E : XK) : XK := fun v dO H' => ∀ (D : Addr) (acc : List V), H' D = none → E v dO (upd H' D (.lst acc))
theorem comp_coreX {X : Cx} {E : XK} {tg iter elt : Expr} {ifs : List Expr} {scope : Scope} {pos : Pos} {wi : TI} {g : TG} {tc : TT} {te : TE} {Nc : List Str} {ix : List (Option Nat)} (hi : PI X tg iter wi) (hcalm : X.calm = true) (hix : IxOk X scope Nc ix)
    (hcell : ∀ y ∈ scope.names, y.2 ≠ .cell) (hkind : scope.kind = .function) (hfr : ∀ y ∈ scope.names, y.2 = .free → X.env.kindOf y.1 = some .cell ∨ X.env.kindOf y.1 = some .free)
    (hstk : X.stack = X.env :: X.outer ∧ X.env.frame = some X.env.locals) (hex : X.ex = [])
    (hG : ∀ C s H fp pn xe, PG (cxCompX X scope C Nc s H fp pn xe) tg g) (hT : ∀ C s H fp pn xe, PF (cxCompX X scope C Nc s H fp pn xe) ifs tc) (hE : ∀ C s H fp pn xe, PassesS (CXF X.prog X.w X.K) (cxCompX X scope C Nc s H fp pn xe) (fun _ => Ec E) → PE (cxCompX X scope C Nc s H fp pn xe) elt te)
    {pins : List (Addr × Obj)} {s : Shared} {σ : St} {H : Hp} {Q : VK} (I : Inv X pins σ H s) (h : tComp wi ix g tc te σ H Q) {RR : Value → Addr → Result → Shared → Prop}
    (hRR : ∀ (D C : Addr) (oC : Obj) (m : Str → Option Value) (H' : Hp) (s' : Shared), s'.heap.get? C = some oC → s'.heap.Ns C m → FpOk X pins H' C → Inv X (pins ++ [(C, oC)]) σ H' s' → Q (.ref D) H' → RR (.ref D) C (.ok .next) s')
    (hXX : ∀ (D C : Addr) (oC : Obj) (m : Str → Option Value) (H' : Hp) (s' : Shared) (e : Addr), s'.heap.get? C = some oC → s'.heap.Ns C m → FpOk X pins H' C → Inv X (pins ++ [(C, oC)]) σ H' s' → Flying X pins E H' s' e → RR (.ref D) C (.error (.ref e)) s') :
    wpAny (model X.prog X.w) X.A (eval iter X.env) (fun v s1 => wpAny (model X.prog X.w) X.A (pyIter v) (fun it s2 => wpAny (model X.prog X.w) X.A (newList []) (fun acc s3 =>
      wpAny (model X.prog X.w) X.A (newFunctionEnv scope X.env.globals (clOf X.env scope.names []) [] X.env.qual none .none (some X.env)) (fun cenv s4 =>
        codeAny (model X.prog X.w) X.A (.compStart (.ListComp elt [⟨tg, iter, ifs, 0⟩] scope pos) 0 it acc { cenv with scope := relabel scope X.env }) (RR acc cenv.locals) s4) X.xe s3) X.xe s2) X.xe s1) X.xe s := by
  refine thn (hi pins s σ H _ I h) fun v s1 h1 => thn h1 fun itv s2 h2 => ?_
  obtain ⟨it, fp, tn, J, H2, e, I2, T, st2, f2, W, ⟨m0, w0⟩, turn⟩ := h2
  subst e
  refine wpAny_newObj_type (wpAny_newFunctionEnv hcell (by intro y hy; simp at hy) (fun h₁ hns₁ hsb₁ => ?_) hkind)
  dsimp only at hns₁ hsb₁ ⊢
  generalize hH2 : s2.heap.push { cls := .type "list", dict := none, data := .seq ([] : List Value).toArray } = P2 at hns₁ hsb₁ ⊢
  have hC : P2.objs.size = s2.heap.objs.size + 1 := by rw [← hH2, Heap.size_push]
  have hDC : s2.heap.objs.size ≠ P2.objs.size := by rw [hC]; exact Nat.ne_of_lt (Nat.lt_succ_self _)
  have hCle : s2.heap.objs.size ≤ P2.objs.size := by rw [hC]; exact Nat.le_succ _
  have neC : ∀ b, b < s2.heap.objs.size → b ≠ P2.objs.size := fun b hb => by rw [hC]; exact Nat.ne_of_lt (Nat.lt_succ_of_lt hb)
  have old : ∀ b o, s2.heap.get? b = some o → h₁.get? b = some o := fun b o e => hsb₁.extBut b o (neC b (Heap.lt_size e)) (Heap.get?_push_of_some _ (hH2 ▸ Heap.get?_push_of_some _ e))
  have hacc : h₁.get? s2.heap.objs.size = some { cls := .type "list", data := .seq ([] : List Value).toArray } := hsb₁.extBut _ _ hDC (Heap.get?_push_of_some _ (hH2 ▸ Heap.get?_push_size _ rfl))
  have st₁ : tn 0 h₁ := T.keep 0 _ _ st2 fun b _ o e => old b o e
  have hfo : ∀ b ∈ fp, ∃ o, s2.heap.get? b = some o := fun b hb => let ⟨o, e, _⟩ := T.obj 0 _ st2 b hb; ⟨o, e⟩
  have fpD : ∀ b ∈ fp, s2.heap.objs.size ≠ b := fun b hb => let ⟨o, e⟩ := hfo b hb; Nat.ne_of_gt (Heap.lt_size e)
  have IY := comp_start I2 hix hcell hkind hfr f2 hfo (t' := s2.toks + ([] : List (Str × Value)).length) hCle hns₁ old
  have notS : ∀ b, s2.heap.objs.size ≤ b → b ∉ frs X.stack := fun b hb hs => by
    rcases List.mem_cons.mp (I2.stkSub b hs) with z | z
    · exact absurd (Nat.lt_of_lt_of_le I2.lt hb) (by rw [z]; exact Nat.lt_irrefl _)
    · exact I2.nofs hb z
  have from_ : ∀ {x : Str} {c : Addr}, (clOf X.env scope.names []).lookup x = some c → X.env.cells.lookup x = some c := fun {x c} e => clOf_from scope.names [] (fun y d q => by simp at q) e
  have cellD : ∀ x c, (clOf X.env scope.names []).lookup x = some c → c ≠ s2.heap.objs.size := fun x c e z => by
    obtain ⟨v, q⟩ := I2.cell x c (from_ e)
    exact absurd (q.lt) (by rw [z]; exact Nat.lt_irrefl _)
  have fY : ∀ {pl : List (Addr × Obj)} {H' : Hp}, (∀ p ∈ pl, p.1 = s2.heap.objs.size) → (∀ b ∈ fp, H' b = none) → ∀ b ∈ fp, FpOk (cxComp X scope P2.objs.size Nc s2 H2 fp) pl H' b := fun {pl H'} hpl hn b hb => by
    refine ⟨hn b hb, ?_, ?_, .inl hb, fun x c e => (f2 b hb).2.2.2.2.1 x c (from_ e), fun p hp => ?_⟩
    · obtain ⟨o, e⟩ := hfo b hb
      exact neC b (Heap.lt_size e)
    · intro hs
      rcases List.mem_cons.mp (I2.stkSub b hs) with z | z
      · exact (f2 b hb).2.1 z
      · exact (f2 b hb).2.2.1 z
    · rw [hpl p hp]
      exact fpD b hb
  have loop : ∀ s₃ : Shared, s₃ = { s2 with heap := h₁, toks := s2.toks + ([] : List (Str × Value)).length } →
      codeAny (model X.prog X.w) X.A (.compLoop (.ListComp elt [⟨tg, iter, ifs, 0⟩] scope pos) 0 (.ref it) (.ref s2.heap.objs.size) (compEnvC scope (clOf X.env scope.names []) P2.objs.size X.env)) (RR (.ref s2.heap.objs.size) P2.objs.size) s₃ := by
    rintro s₃ rfl
    generalize hXE : (notedBy (model X.prog X.w) X.A (compEnvC scope (clOf X.env scope.names []) P2.objs.size X.env) fun x s' => RR (.ref s2.heap.objs.size) P2.objs.size (.error x) s') = XE
    refine compLoop_genX (XE := XE) hXE.symm (fun n s' => ∃ i acc its nn H', Inv (cxComp X scope P2.objs.size Nc s2 H2 fp) [] (subSt σ ix) H' s' ∧ tn i s'.heap ∧ (∀ b ∈ fp, H' b = none) ∧
      s'.heap.get? s2.heap.objs.size = some { cls := .type "list", data := .seq (its : List Value).toArray nn } ∧ Vals acc its ∧ H' s2.heap.objs.size = none ∧ W i n acc H') ?_ m0
      ⟨0, [], [], 0, H2, IY, st₁, fun b hb => (f2 b hb).1, hacc, .nil, I2.hok.fresh (Nat.le_refl _), w0⟩
    rintro n s3 ⟨i, acc, its, nn, H3, I3, st3, fr3, eD, rv, nD, w3⟩
    obtain ⟨hz, alt⟩ := turn i n acc H3 w3
    have IP : Inv (cxComp X scope P2.objs.size Nc s2 H2 fp) [(s2.heap.objs.size, { cls := .type "list", data := .seq its.toArray nn })] (subSt σ ix) H3 s3 := I3.pins_of fun p hp => by
      have e : p = (s2.heap.objs.size, _) := List.mem_singleton.mp hp
      subst e
      refine ⟨eD, nD, hDC, notS _ (Nat.le_refl _), fun v z => ?_⟩
      have z' : Data.seq its.toArray nn = Data.cell v := z
      cases z'
    have hpl : ∀ p ∈ [(s2.heap.objs.size, ({ cls := .type "list", data := .seq its.toArray nn } : Obj))], p.1 = s2.heap.objs.size := fun p hp => by
      have e : p = (s2.heap.objs.size, _) := List.mem_singleton.mp hp
      rw [e]
    rcases alt with ⟨stop, fin⟩ | ⟨go, step⟩
    · refine thn (T.done (cxComp X scope P2.objs.size Nc s2 H2 fp) rfl rfl rfl hcalm i _ s3 _ H3 XE IP (fY hpl fr3) st3 stop) fun r s4 ⟨hr, I4⟩ => ?_
      subst hr
      obtain ⟨m, hn, _⟩ := id I4.loc
      obtain ⟨oC, es, ep, eC, dC, _⟩ := id hn
      have eD4 := (I4.pin (s2.heap.objs.size, _) (List.mem_append_right _ (List.mem_singleton.mpr rfl))).1
      have fin' := fin _ nD
      refine hRR _ _ oC m _ s4 eC hn ?_ (comp_exit I2 I4 f2 (Nat.le_refl _) hCle hDC eD4 rv (Nat.le_of_lt hz) nD eC fun v z => ?_) fin'
      · refine I2.fpOk hCle ?_
        rw [upd_ne (Ne.symm hDC)]
        exact I4.free
      · rw [dC] at z; cases z
    · refine thn (T.item (cxComp X scope P2.objs.size Nc s2 H2 fp) rfl rfl rfl hcalm i _ s3 _ H3 XE IP (fY hpl fr3) st3 go) fun r s4 ⟨u, hr, h4⟩ => ?_
      subst hr
      refine thn h4 fun _ s5 ⟨x, H5, I5, r5, y5, st5, fr5⟩ => ?_
      have I5' := I5.pinned (fY hpl fr5) (T.obj _ _ st5)
      generalize hpn : [(s2.heap.objs.size, ({ cls := .type "list", data := .seq its.toArray nn } : Obj))] ++ pinsAt fp s5.heap = pn at I5'
      have hp : PassesS (CXF X.prog X.w X.K) (cxCompX X scope P2.objs.size Nc s2 H2 fp pn XE) (fun _ => Ec E) := by
        intro pinsC σC Ha sa ev sb Ia hq
        obtain ⟨e, Cl, dO, T0, Hb, rfl, c, os, bare, un, hok, n1, n2, n3, n4, tb0, q⟩ := hq
        have Ib := Ia.call' os un hok bare (fun b z => absurd z (by simp))
        show XE (.ref e) sb
        rw [← hXE]
        show wpAny _ _ (noteFrame (.ref e) _) _ _ sb
        rw [note_same (env := compEnvC scope (clOf X.env scope.names []) P2.objs.size X.env) (env' := X.env) rfl]
        have inAny : ∀ {sx : Shared} {σx : St} {Hx : Hp} {b : Addr}, Inv (cxCompX X scope P2.objs.size Nc s2 H2 fp pn XE) pinsC σx Hx sx → sx.heap.get? b = none → s2.heap.get? b = none := fun {sx σx Hx b} Ix y => by
          cases z : s2.heap.get? b with
          | none => rfl
          | some o =>
            by_cases hb : b ∈ fp
            · obtain ⟨o', e', _⟩ := T.obj _ _ st5 b hb
              have := (Ix.pin (b, o') (List.mem_append_left _ (by show (b, o') ∈ pn; rw [← hpn]; exact List.mem_append_right _ (mem_pinsAt hb e')))).1
              rw [show sx.heap.get? b = some o' from this] at y; cases y
            · obtain ⟨o', z'⟩ := Ix.base.there b o z hb
              rw [y] at z'; cases z'
        have inX : ∀ {b : Addr}, s2.heap.get? b = none → X.s₀.heap.get? b = none := fun {b} y => by
          cases z : X.s₀.heap.get? b with
          | none => rfl
          | some o =>
            obtain ⟨o', z'⟩ := I2.base.there b o z (by rw [hex]; simp)
            rw [y] at z'; cases z'
        have hfrm : X.A.frames = some (X.env :: X.outer) := by rw [← hstk.1]; exact I2.ok.frames
        have hstkB : sb.heap.FunFrames X.base (X.env :: X.outer) := by rw [← hstk.1]; exact Ib.stack
        refine x_noteA (base := X.base) hfrm hstkB hstk.2 tb0 fun h1 T hT tb k1 => ?_
        have nT : Hb T = none := by
          rcases hT with rfl | hT
          · exact n4
          · exact Ib.hok.none_of hT
        have oT : s2.heap.get? T = none := by
          rcases hT with rfl | hT
          · exact inAny Ia n2
          · exact inAny Ib hT
        have oe2 := inAny Ia n1
        have oT2 := inAny Ia n2
        have k1' : Kept (frs X.stack) [T0, e] sb.heap h1 := by rw [hstk.1]; exact k1
        have pne : ∀ {b : Addr}, sa.heap.get? b = none → ∀ p ∈ pn ++ pinsC, p.1 ≠ b := fun {b} y p hp z => by
          have := (Ia.pin p hp).1
          rw [z, y] at this; cases this
        obtain ⟨oe, vs, oT', ts, t1, t2, t3, t4, t5, t6, t7, t8, t9⟩ := id tb0
        have Jb : Inv (cxCompX X scope P2.objs.size Nc s2 H2 fp pn XE) pinsC σC Hb { sb with heap := h1 } := Ib.kept2 k1' fun b hb => by
          simp only [List.mem_cons, List.not_mem_nil, or_false] at hb
          rcases hb with rfl | rfl
          · exact ⟨oT2, fun o q => by rw [t7] at q; cases q; exact ⟨_, t8⟩, pne n2, n4⟩
          · exact ⟨oe2, fun o q => by rw [t1] at q; cases q; exact ⟨_, t4⟩, pne n1, n3⟩
        have pD := fun {sx : Shared} {σx : St} {Hx : Hp} (Ix : Inv (cxCompX X scope P2.objs.size Nc s2 H2 fp pn XE) pinsC σx Hx sx) => Ix.pin (s2.heap.objs.size, ({ cls := .type "list", data := .seq its.toArray nn } : Obj)) (List.mem_append_left _ (by show _ ∈ pn; rw [← hpn]; exact List.mem_append_left _ (List.mem_singleton.mpr rfl)))
        have eDb := (pD Jb).1
        have nDb := (pD Jb).2.1
        have neD : e ≠ s2.heap.objs.size := fun z => by have := (pD Ia).1; rw [← z] at this; rw [show sa.heap.get? e = some _ from this] at n1; cases n1
        have nTD : T ≠ s2.heap.objs.size := fun z => by
          rcases hT with y | y
          · have := (pD Ia).1; rw [← z, y] at this; rw [show sa.heap.get? T0 = some _ from this] at n2; cases n2
          · have := (pD Ib).1; rw [← z] at this; rw [show sb.heap.get? T = some _ from this] at y; cases y
        obtain ⟨m, hn, _⟩ := id Jb.loc
        obtain ⟨oC, es, ep, eC, dC, _⟩ := id hn
        refine hXX _ _ oC m (upd Hb s2.heap.objs.size (.lst acc)) _ e eC hn ?_ (comp_exit I2 (fromX Jb) f2 (Nat.le_refl _) hCle hDC eDb rv (Nat.le_of_lt hz) nDb eC fun v z => by rw [dC] at z; cases z) ⟨Cl, dO, T, _, c, inX oe2, inX oT, by rw [upd_ne neD]; exact n3, by rw [upd_ne nTD]; exact nT, tb, fun p hp z => (by have := (I2.pin p hp).1; rw [z, oT] at this; cases this), q _ acc nDb⟩
        refine I2.fpOk hCle ?_
        rw [upd_ne (Ne.symm hDC)]
        exact Jb.free
      have J5 := toX (xe := XE) (pins := []) (by rw [List.append_nil]; exact I5')
      refine thn (hG _ s2 H2 fp pn XE _ s5 _ H5 x u _ J5 r5 (step x H5 y5)) fun _ s6 ⟨σ6, H6, J6, wk, q6⟩ => ?_
      refine thn (hT _ s2 H2 fp pn XE _ s6 σ6 H6 _ J6 q6) fun b s7 ⟨H7, J7, q7⟩ => ?_
      have I7 := fromX J7
      rw [List.append_nil, ← hpn] at I7
      have again : ∀ {H9 : Hp} {s9 : Shared} {m' : Nat}, Inv (cxComp X scope P2.objs.size Nc s2 H2 fp) ([(s2.heap.objs.size, ({ cls := .type "list", data := .seq its.toArray nn } : Obj))] ++ pinsAt fp s5.heap) σ6 H9 s9 →
          (s9.heap.get? s2.heap.objs.size = some { cls := .type "list", data := .seq its.toArray nn } ∧ H9 s2.heap.objs.size = none) ∧ tn (i + 1) s9.heap ∧ (∀ b ∈ fp, H9 b = none) ∧ Inv (cxComp X scope P2.objs.size Nc s2 H2 fp) [] (subSt σ ix) H9 s9 := fun {H9 s9 m'} I9 => by
        have pD := I9.pin (s2.heap.objs.size, _) (List.mem_append_right _ (List.mem_append_left _ (List.mem_singleton.mpr rfl)))
        refine ⟨⟨pD.1, pD.2.1⟩, T.keep _ _ _ st5 fun b hb o e => (I9.pin (b, o) (List.mem_append_right _ (List.mem_append_right _ (mem_pinsAt hb e)))).1, fun b hb => ?_, ?_⟩
        · obtain ⟨o, e, d⟩ := T.obj _ _ st5 b hb
          exact (I9.pin (b, o) (List.mem_append_right _ (List.mem_append_right _ (mem_pinsAt hb e)))).2.1
        · exact (I9.weak wk.len fun i v e => wk.get e).pins_of fun p hp => absurd hp (by simp)
      cases b with
      | false =>
        rw [if_neg Bool.false_ne_true] at q7 ⊢
        obtain ⟨m', hm, w7⟩ := q7
        obtain ⟨⟨e7, n7⟩, t7, f7, J7⟩ := again (m' := 0) I7
        exact ⟨m', hm, i + 1, acc, its, nn, H7, J7, t7, f7, e7, rv, n7, w7⟩
      | true =>
        rw [if_pos rfl] at q7 ⊢
        refine thn (hE _ s2 H2 fp pn XE hp _ s7 σ6 H7 _ J7 q7) fun y s8 ⟨v, H8, J8', r8, m', hm, w8⟩ => ?_
        have I8 := fromX J8'
        rw [List.append_nil, ← hpn] at I8
        obtain ⟨⟨e8, n8⟩, t8, f8, J8⟩ := again (m' := 0) I8
        refine wpAny_list_append_plain (items := its.toArray) ⟨nn, e8⟩ (fun h9 hl9 hs9 => ?_) (by rw [List.size_toArray, ← rv.length]; exact Nat.le_of_lt hz)
        obtain ⟨n9, e9⟩ := hl9
        refine ⟨m', hm, i + 1, acc ++ [v], its ++ [y], n9, H8, J8.turned (t' := s8.toks) (fun b o hb e => (hs9.2 b hb).trans e) n8 hDC (.inr (Nat.le_refl _)) cellD (fun p hp => absurd hp (by simp [cxComp])), ?_, f8, ?_, rv.append (.cons r8 .nil), n8, w8⟩
        · exact T.keep _ _ _ t8 fun b hb o e => (hs9.2 b (Ne.symm (fpD b hb))).trans e
        · simpa using e9
  exact codeAny_compStart_list (loop _ rfl) (T.self _ 0 _ _ _ st₁ (loop _ rfl))

theorem tb_same {h h' : Heap} {e C T Z : Addr} {dO : Option Addr} {fl : Value} (t : Tb h e C dO T fl) (k : ∀ b o, b ≠ Z → h.get? b = some o → h'.get? b = some o) (he : e ≠ Z) (hT : T ≠ Z) : Tb h' e C dO T fl := by
  obtain ⟨oe, vs, oT, ts, t1, t2, t3, t4, t5, t6, t7, t8, t9⟩ := t
  exact ⟨oe, vs, oT, ts, k _ _ he t1, t2, t3, t4, t5, t6, k _ _ hT t7, t8, t9⟩
/-- the way out of the block, and on -/
theorem comp_raised {X : Cx} {E : XK} {pins : List (Addr × Obj)} {σ : St} (hX : PassesN X E) {Q : Value → Shared → Prop} {use : Option (Value → Sem Unit)} (D C : Addr) (oC : Obj) (m : Str → Option Value) (H' : Hp) (s' : Shared) (e : Addr) (eC : s'.heap.get? C = some oC) (hn : s'.heap.Ns C m) (fC : FpOk X pins H' C) (I' : Inv X (pins ++ [(C, oC)]) σ H' s')
    (fl : Flying X pins E H' s' e) : compPost (model X.prog X.w) X.A X.xe use Q (.ref D) C (.error (.ref e)) s' := by
  obtain ⟨Cl, dO, T, v, c, n1, n2, n3, n4, tb, pT, q⟩ := fl
  obtain ⟨oC', es, ep, eC', dC, _⟩ := id hn
  obtain ⟨oe, vs, oT, ts, t1, t2, t3, t4, t5, t6, t7, t8, t9⟩ := id tb
  have eZ : e ≠ C := fun z => by rw [z, eC'] at t1; cases t1; rw [dC] at t4; cases t4
  have TZ : T ≠ C := fun z => by rw [z, eC'] at t7; cases t7; rw [dC] at t8; cases t8
  refine ⟨m, hn, fun h' hs' cenv _ => ?_⟩
  have tb' := tb_same tb (fun b o hb e => (hs'.2 b hb).trans e) eZ TZ
  have J := I'.unpinned.turned (t' := s'.toks) (fun b o hb e => (hs'.2 b hb).trans e) fC.1 fC.2.1 fC.2.2.2.1 fC.2.2.2.2.1 fC.2.2.2.2.2
  refine x_pass (S := frs X.stack) tb' fun h2 fl' tb2 k2 => ?_
  obtain ⟨oe', vs', oT', ts', u1, u2, u3, u4, u5, u6, u7, u8, u9⟩ := id tb'
  refine hX pins σ H' _ e (J.kept2 k2 fun b hb => ?_) ⟨Cl, dO, T, fl', c, n1, n2, n3, n4, tb2, pT, q⟩
  rw [List.mem_singleton.mp hb]
  exact ⟨n2, fun o z => by rw [show h'.get? T = some o from z] at u7; cases u7; exact ⟨_, u8⟩, pT, n4⟩
/-- x = [elt for tg in iter if ..], elt may raise -/
theorem ps_setCX {X : Cx} {E : XK} {i : Nat} {x : Str} {tg iter elt : Expr} {ifs : List Expr} {scope : Scope} {pos spos pos' : Pos} {wi : TI} {g : TG} {tc : TT} {te : TE} (Nc : List Str) (ix : List (Option Nat)) (hX : PassesN X E) (hstk : X.stack = X.env :: X.outer ∧ X.env.frame = some X.env.locals) (hex : X.ex = []) (hN : X.N.Nodup) (hxi : X.N[i]? = some x) (hx : Loc X.env.scope x)
    (hi : PI X tg iter wi) (hix : IxOk X scope Nc ix)
    (hG : ∀ C s H fp pn xe, PG (cxCompX X scope C Nc s H fp pn xe) tg g) (hT : ∀ C s H fp pn xe, PF (cxCompX X scope C Nc s H fp pn xe) ifs tc) (hE : ∀ C s H fp pn xe, PassesS (CXF X.prog X.w X.K) (cxCompX X scope C Nc s H fp pn xe) (fun _ => Ec E) → PE (cxCompX X scope C Nc s H fp pn xe) elt te)
    (hsw : swapsWith (.ListComp elt [⟨tg, iter, ifs, 0⟩] scope pos) (some (.Name x pos')) spos.line X.env = pure true := by rfl) (hok : compOk X scope = true := by rfl) (hcalm : X.calm = true := by rfl)
    (hs : ∀ x, foldedSetIterable iter X.env x = pure x := by intro _; rfl) (hf : X.fn x = true ∨ X.env.scope.names.lookup x = some .local := by first | exact .inl rfl | exact .inr rfl | assumption) :
    PS X (.Assign [.Name x pos'] (.ListComp elt [⟨tg, iter, ifs, 0⟩] scope pos) spos) (tAsg (tComp wi ix g tc te) (gName i)) := by
  obtain ⟨hcell, hkind, hfr, hnames⟩ := compOk_parts hok
  intro pins s σ H Ee I h
  have hfc : ∀ y ∈ scope.names, y.2 = .free → ∃ c, X.env.cells.lookup y.1 = some c := fun y hy e => I.ok.has y.1 (hfr y hy e)
  rw [exec_Assign_Name_used _ _ _ _ hsw]
  refine wpAny_bind (wpAny_standAt (wpAny_bind ?_))
  show wpAny _ X.A (do let _ ← comprehension (.ListComp elt [⟨tg, iter, ifs, 0⟩] scope pos) scope X.env _ (newList []) false (eval iter X.env) (some (assign (.Name x pos') X.env))) _ _ s
  refine wpAny_bind (wpAny_mono (wpAny_comprehension_free (use := some (assign (.Name x pos') X.env)) (Q := fun _ s' => SP X pins Ee .next s') rfl hs (closureFor_cl hfc) hkind hnames
    (comp_coreX hi hcalm hix hcell hkind hfr hstk hex hG hT hE I h (RR := fun acc C => compPost (model X.prog X.w) X.A X.xe (some (assign (.Name x pos') X.env)) (fun _ s' => SP X pins Ee .next s') acc C) ?_ (comp_raised hX))) (fun _ s' hq => wpAny_pure (wpAny_pure hq)) fun _ _ e => e)
  intro D C oC m H' s' eC hn fC I' q
  show wpAny _ X.A (assign (.Name x pos') X.env (.ref D)) _ _ _
  refine wpAny_assign_Name (store_ok I' hN hxi hx (show RelV (.ref D) _ from rfl) (fun s'' I'' => ?_) hf)
  have pC := I''.pin (C, oC) (List.mem_append_right _ (List.mem_append_right _ (List.mem_singleton.mpr rfl)))
  refine ⟨m, ?_, fun h' hs' => ?_⟩
  · obtain ⟨o, es, ep, e, r⟩ := hn
    rw [eC] at e; cases e
    exact ⟨oC, es, ep, pC.1, r⟩
  · refine ⟨_, H', I''.unpinned.turned (t' := s''.toks) (fun b o hb e => (hs'.2 b hb).trans e) fC.1 fC.2.1 fC.2.2.2.1 fC.2.2.2.2.1 fC.2.2.2.2.2, q⟩
end L2
set_option maxHeartbeats 1000000
/-! ### list(d.values()) -/
namespace L2
open PySem PySem.Spec PyProof.Rows
section
variable {X : Cx}
def rListVals : List V → Hp → VK → Prop := fun xs H Q => ∃ p d kvs, xs = [.ref p] ∧ H p = some (valsO p d) ∧ H d = some (.dK kvs) ∧ kvs.length ≤ 100000 ∧ ∀ l, H l = none → Q (.ref l) (upd H l (.lst (kvs.map (·.2))))
theorem vals_at : ∀ {xs : List V} {us vs : List Value}, Vals xs us → vs.length = us.length → (∀ (j : Nat) (v : Value), vs[j]? = some v → us[j]? = some v) → Vals xs vs
  | _, _, [], .nil, _, _ => .nil
  | _, _, v :: vs, .cons r t, hl, h => by
    have e := h 0 v rfl
    simp only [List.getElem?_cons_zero, Option.some.injEq] at e
    rw [← e]
    exact .cons r (vals_at t (by simpa using hl) fun j v e => by have := h (j + 1) v (by simpa using e); simpa using this)
theorem call_listVals (hc : X.calm = true) : CallR X (.type "list") rListVals := by
  intro pins s σ H xs us Q I r h
  obtain ⟨p, d, kvs, rfl, hp, hd, hz, q⟩ := h
  obtain ⟨u, rfl, ru⟩ := vals1 r
  cases ru
  obtain ⟨z, lo, ws, kv, dd⟩ := dk_of I.hok hd
  obtain ⟨hv, _, _⟩ : ObjOk X.prog X.w H s.heap p (valsO p d) := I.hok p _ hp
  have hv : s.heap.IsValuesView p d := hv
  obtain ⟨o, es, ep, ho, he, hdat, hk, hpr, hn⟩ := dd
  have hm : s.heap.DictAt (mixKind X.prog X.w) d ws ep := ⟨o, es, ho, he, hdat, hk, hpr, hn⟩
  have rr := kv_vals kv
  have hlw : ws.length = kvs.length := by have := rr.length; simpa using this.symm
  have hs : (100000 : Nat) < sizeLine := by decide
  refine PySem.W.kdl_call (PySem.W.kdl_values (knd := mixKind X.prog X.w) (kvs := ws) (ep := ep)) (I.ok.hd hc) ⟨hv, hm⟩ (by omega) fun h' tk acc' c' hkp e hacc => ?_
  obtain ⟨h1, h2⟩ := hacc
  refine ⟨.ref s.heap.objs.size, _, I.laid (t' := tk) (o := .lst (kvs.map (·.2))) hkp (Nat.le_refl _) ?_, rfl, q _ I.fresh⟩
  refine ⟨by rw [List.length_map]; omega, acc'.toList, c', vals_at rr (by simpa using h1) (fun j v ej => ?_), by simpa using e⟩
  obtain ⟨k, ek⟩ := h2 j v (by simpa using ej)
  rw [List.getElem?_map, ek]
  rfl
end
end L2
/-! ### isinstance(x, list) of a list or a tuple -/
namespace L2
open PySem PySem.Spec PyProof.Rows
section
variable {X : Cx}
def rIsListG : List V → Hp → VK → Prop := fun xs H Q => ∃ x, xs = [x, .ty "list"] ∧ ((∃ p ys, x = .ref p ∧ H p = some (.lst ys) ∧ Q (.bl true) H) ∨ (∃ p ys, x = .ref p ∧ H p = some (.tup ys) ∧ Q (.bl false) H) ∨ (∃ z, x = .str z ∧ Q (.bl false) H))
theorem call_isListG (K : PySem.W.Frag) (h : X.K = K) : CallR X (.builtin "isinstance") rIsListG := by
  subst h
  intro pins s σ H xs us Q I r h
  obtain ⟨x, rfl, h⟩ := h
  obtain ⟨u, w', rfl, r1, r2⟩ := vals2 r
  cases (show w' = Value.type "list" from r2)
  rcases h with ⟨p, ys, rfl, hq, q⟩ | ⟨p, ys, rfl, hq, q⟩ | ⟨z, rfl, q⟩
  · exact isinst_ok I r1 (.lst hq) (by unfold PySem.W.kitOne; rw [if_pos (by decide)]) fun tk => ⟨.bl true, H, I.tok _, rfl, q⟩
  · exact isinst_ok I r1 (.tup hq) (b := false) (by unfold PySem.W.kitOne; rw [if_neg (by decide)]; rfl) fun tk => ⟨.bl false, H, I.tok _, rfl, q⟩
  · exact isinst_ok I r1 (.str z) (b := false) (by unfold PySem.W.kitOne; rw [if_neg (by decide)]; rfl) fun tk => ⟨.bl false, H, I.tok _, rfl, q⟩
end
end L2
set_option maxHeartbeats 4000000
namespace My
open PySem PySem.Spec PyProof.Rows L2 XL
/-! letters, contraries -/
def smalls : List Nat := [97, 98, 99, 100, 101, 102, 103, 104, 105, 106, 107, 108, 109, 110, 111, 112, 113, 114, 115, 116, 117, 118, 119, 120, 121, 122]
def caps : List Nat := [65, 66, 67, 68, 69, 70, 71, 72, 73, 74, 75, 76, 77, 78, 79, 80, 81, 82, 83, 84, 85, 86, 87, 88, 89, 90]
def Lt (c : Nat) : Prop := c ∈ smalls ∨ c ∈ caps
instance (c : Nat) : Decidable (Lt c) := by unfold Lt; infer_instance
def ctr (c : Nat) : Nat := if isLow c = true then PyProof.Rows.up1 c else PyProof.Rows.lo1 c
theorem lt_all : ∀ c ∈ smalls ++ caps, c < 128 ∧ ctr c ∈ smalls ++ caps ∧ ctr (ctr c) = c ∧ ctr c ≠ c := by decide +kernel
theorem Lt.mem {c : Nat} (h : Lt c) : c ∈ smalls ++ caps := List.mem_append.mpr h
theorem Lt.lt {c : Nat} (h : Lt c) : c < 128 := (lt_all c h.mem).1
theorem Lt.ctr {c : Nat} (h : Lt c) : Lt (ctr c) := List.mem_append.mp (lt_all c h.mem).2.1
theorem ctr_ctr {c : Nat} (h : Lt c) : ctr (ctr c) = c := (lt_all c h.mem).2.2.1
theorem ctr_ne {c : Nat} (h : Lt c) : ctr c ≠ c := (lt_all c h.mem).2.2.2
theorem other_small : ∀ c ∈ smalls, atI caps ((smalls.idxOf c : Nat) : Int) = some (ctr c) := by decide +kernel
theorem other_cap : ∀ c ∈ caps, atI smalls ((caps.idxOf c : Nat) : Int) = some (ctr c) := by decide +kernel
def tnd (l : List Nat) : List Nat := (l.map ctr).reverse
/-- but for b all stays -/
def SameB (b : Addr) (H H' : Hp) : Prop := ∀ c o, H c = some o → c ≠ b → H' c = some o
theorem SameB.refl (b : Addr) (H : Hp) : SameB b H H := fun _ _ h _ => h
theorem SameB.trans {b : Addr} {H H1 H2 : Hp} (x : SameB b H H1) (y : SameB b H1 H2) : SameB b H H2 := fun c o h n => y c o (x c o h n) n
theorem SameB.of {b : Addr} {H H' : Hp} (x : Same H H') : SameB b H H' := fun c o h _ => x c o h
theorem SameB.upd (b : Addr) (H : Hp) (o : HO) : SameB b H (upd H b o) := fun c o h n => by rw [upd_ne n]; exact h
theorem Same.upd {H : Hp} {p : Addr} {o : HO} (h : H p = none) : Same H (L2.upd H p o) := fun c u e => by rw [upd_ne (ne_of_none e h)]; exact e
/-- the box of draws -/
def BoxAt (H : Hp) (b : Addr) : Prop := ∃ x y : Int, H b = some (.lst [.int x, .int y])
theorem BoxAt.same {H H' : Hp} {b : Addr} (h : BoxAt H b) (s : Same H H') : BoxAt H' b := let ⟨x, y, e⟩ := h; ⟨x, y, s _ _ e⟩
/-- a yard's ends -/
structure Yd (y : List Nat) : Prop where
  nd : y.Nodup
  lt : ∀ c ∈ y, Lt c
  cl : ∀ c ∈ y, ctr c ∈ y
def sp_contrary (_ : PySem.W.Frag) : Sp := fun vs H Q _ => ∃ c, vs = [.str (S [c])] ∧ c < 128 ∧ Q (.str (S [ctr c])) H
theorem len_contrary {K : PySem.W.Frag} {vs : List V} {H : Hp} {Q : VK} {E : XK} (h : sp_contrary K vs H Q E) : vs.length = 1 := by obtain ⟨c, rfl, _⟩ := h; rfl
def sp_Lother (_ : PySem.W.Frag) : Sp := fun vs H Q _ => ∃ c, vs = [.str (S [c])] ∧ Lt c ∧ Q (.str (S [ctr c])) H
theorem len_Lother {K : PySem.W.Frag} {vs : List V} {H : Hp} {Q : VK} {E : XK} (h : sp_Lother K vs H Q E) : vs.length = 1 := by obtain ⟨c, rfl, _⟩ := h; rfl
def sp_turned (_ : PySem.W.Frag) : Sp := fun vs H Q _ => ∃ l : List Nat, vs = [.str (S l)] ∧ (∀ c ∈ l, c < 128) ∧ l.length ≤ 1000 ∧ ∀ H', Same H H' → Q (.str (S (tnd l))) H'
theorem len_turned {K : PySem.W.Frag} {vs : List V} {H : Hp} {Q : VK} {E : XK} (h : sp_turned K vs H Q E) : vs.length = 1 := by obtain ⟨c, rfl, _⟩ := h; rfl
def sp_Lbox (K : PySem.W.Frag) : Sp := fun vs H Q _ => ∃ (a : Addr) (ns : List Int) (k : Nat), vs = [.ref a, .int k] ∧ SqL K H a (ns.map V.int) ∧ k ≤ 1000 ∧ ∀ b H', H b = none → BoxAt H' b → Same H H' → Q (.ref b) H'
theorem len_Lbox {K : PySem.W.Frag} {vs : List V} {H : Hp} {Q : VK} {E : XK} (h : sp_Lbox K vs H Q E) : vs.length = 2 := by obtain ⟨a, ns, k, rfl, _⟩ := h; rfl
def sp_Ltake (_ : PySem.W.Frag) : Sp := fun vs H Q _ => ∃ (b : Addr) (m : Int), vs = [.ref b, .int m] ∧ BoxAt H b ∧ 1 ≤ m ∧ m < 1000000 ∧ ∀ (r : Nat) H', (r : Int) < m → BoxAt H' b → SameB b H H' → Q (.int r) H'
theorem len_Ltake {K : PySem.W.Frag} {vs : List V} {H : Hp} {Q : VK} {E : XK} (h : sp_Ltake K vs H Q E) : vs.length = 2 := by obtain ⟨b, m, rfl, _⟩ := h; rfl
def sp_law (K : PySem.W.Frag) : Sp := fun vs H Q _ => ∃ (a : Addr) (ns : List Int), vs = [.ref a] ∧ SqL K H a (ns.map V.int) ∧ ns.length ≤ 63 ∧ ∀ H', Q (.bl true) H'
theorem len_law {K : PySem.W.Frag} {vs : List V} {H : Hp} {Q : VK} {E : XK} (h : sp_law K vs H Q E) : vs.length = 1 := by obtain ⟨b, m, rfl, _⟩ := h; rfl
theorem flat1 : ∀ l : List Nat, (l.map fun c => [c]).flatten = l
  | [] => rfl
  | c :: l => by rw [List.map_cons, List.flatten_cons, flat1 l]; rfl
theorem sum1 : ∀ l : List Nat, ((l.map fun c => [c]).map List.length).sum = l.length
  | [] => rfl
  | c :: l => by
    rw [List.map_cons, List.map_cons, List.sum_cons, sum1 l]
    show 1 + l.length = l.length + 1
    omega
theorem sgs_lists (l : List Nat) : sgs l = (l.map fun c => [c]).map fun l => V.str (S l) := by unfold sgs; rw [List.map_map]; rfl
theorem sgs_rev (l : List Nat) : (sgs l).reverse = sgs l.reverse := by unfold sgs; rw [List.map_reverse]
theorem sgs_snoc (l : List Nat) (c : Nat) : sgs l ++ [V.str (S [c])] = sgs (l ++ [c]) := by unfold sgs; rw [List.map_append]; rfl
theorem take_snoc {α : Type} {l : List α} {i : Nat} {x : α} (h : l[i]? = some x) : l.take i ++ [x] = l.take (i + 1) := by rw [List.take_add_one, h]; rfl
theorem ints_at {ns : List Int} {i : Nat} (h : i < ns.length) : ∃ z, (ns.map V.int)[i]? = some (V.int z) := ⟨ns[i], by rw [List.getElem?_map, List.getElem?_eq_getElem h]; rfl⟩
theorem yes_ite {σ : L2.St} {H : Hp} {A B : Hp → Prop} (h : A H) : tYes σ H fun b H3 => if b = true then A H3 else B H3 := by
  show (if true = true then A H else B H)
  rw [if_pos rfl]
  exact h
theorem box_at (b : Bool) (z : Int) : ∃ y, atI [V.int 0, V.int z] (if b = true then 1 else 0) = some (V.int y) := by
  cases b
  · exact ⟨0, rfl⟩
  · exact ⟨z, rfl⟩
theorem erase_perm {α : Type} : ∀ {l : List α} {i : Nat} {x : α}, l[i]? = some x → (x :: l.eraseIdx i).Perm l
  | [], i, x, h => by simp at h
  | a :: l, 0, x, h => by
    have : a = x := by simpa using h
    subst this
    exact List.Perm.refl _
  | a :: l, i + 1, x, h => by
    have ih := erase_perm (l := l) (i := i) (x := x) (by simpa using h)
    rw [List.eraseIdx_cons_succ]
    exact (List.Perm.swap a x _).trans (List.Perm.cons a ih)
theorem small_ctr : ∀ c ∈ smalls, ctr c ∉ smalls := by decide +kernel
theorem smalls_nd : smalls.Nodup := by decide +kernel
/-- the letters that are left, and the ends so far -/
structure YdW (i : Nat) (L E : List Nat) : Prop where
  yd : Yd E
  nd : L.Nodup
  sm : ∀ c ∈ L, c ∈ smalls
  ap : ∀ c ∈ L, c ∉ E
  ll : L.length = 26 - i
  el : E.length = 2 * i
theorem YdW.start : YdW 0 smalls [] := ⟨⟨List.nodup_nil, fun _ h => absurd h List.not_mem_nil, fun _ h => absurd h List.not_mem_nil⟩, smalls_nd, fun _ h => h, fun _ _ h => absurd h List.not_mem_nil, rfl, rfl⟩
theorem YdW.turn {i r : Nat} {L E : List Nat} (w : YdW i L E) (hi : i < 26) (hr : r < L.length) : YdW (i + 1) (L.eraseIdx r) (E ++ [L[r], ctr L[r]]) := by
  have hp := erase_perm (l := L) (List.getElem?_eq_getElem hr)
  have hm : L[r] ∈ L := List.getElem_mem hr
  have hs := w.sm _ hm
  have hl : Lt L[r] := .inl hs
  have nd2 := hp.nodup_iff.mpr w.nd
  have sub : ∀ c ∈ L.eraseIdx r, c ∈ L := fun c hc => hp.mem_iff.mp (List.mem_cons_of_mem _ hc)
  have ap1 := w.ap _ hm
  have ap2 : ctr L[r] ∉ E := fun z => ap1 (by have := w.yd.cl _ z; rwa [ctr_ctr hl] at this)
  refine ⟨⟨?_, fun c hc => ?_, fun c hc => ?_⟩, (List.nodup_cons.mp nd2).2, fun c hc => w.sm c (sub c hc), fun c hc hE => ?_, ?_, ?_⟩
  · rw [List.nodup_append]
    refine ⟨w.yd.nd, ?_, fun a ha b hb z => ?_⟩
    · rw [List.nodup_cons]
      refine ⟨fun z => (ctr_ne hl) (List.mem_singleton.mp z).symm, List.nodup_cons.mpr ⟨List.not_mem_nil, List.nodup_nil⟩⟩
    · subst z
      rcases List.mem_cons.mp hb with z | z
      · exact ap1 (z ▸ ha)
      · exact ap2 (List.mem_singleton.mp z ▸ ha)
  · rcases List.mem_append.mp hc with z | z
    · exact w.yd.lt c z
    · rcases List.mem_cons.mp z with z | z
      · rw [z]; exact hl
      · rw [List.mem_singleton.mp z]; exact hl.ctr
  · rcases List.mem_append.mp hc with z | z
    · exact List.mem_append_left _ (w.yd.cl c z)
    · refine List.mem_append_right _ ?_
      rcases List.mem_cons.mp z with z | z
      · rw [z]; exact List.mem_cons_of_mem _ (List.mem_singleton.mpr rfl)
      · rw [List.mem_singleton.mp z, ctr_ctr hl]; exact List.mem_cons_self
  · rcases List.mem_append.mp hE with z | z
    · exact w.ap c (sub c hc) z
    · rcases List.mem_cons.mp z with z | z
      · exact (List.nodup_cons.mp nd2).1 (z ▸ hc)
      · have e : c = ctr L[r] := List.mem_singleton.mp z
        exact small_ctr _ hs (e ▸ w.sm c (sub c hc))
  · have := hp.length_eq
    rw [List.length_cons, w.ll] at this
    omega
  · rw [List.length_append, w.el]
    show 2 * i + 2 = _
    omega
theorem SameB.updN {b p : Addr} {H H' : Hp} {o : HO} (h : SameB b H H') (n : H p = none) : SameB b H (L2.upd H' p o) := fun c u e z => by rw [upd_ne (ne_of_none e n)]; exact h c u e z
theorem BoxAt.updN {b p : Addr} {H : Hp} {o : HO} (h : BoxAt H b) (n : p ≠ b) : BoxAt (L2.upd H p o) b := let ⟨x, y, e⟩ := h; ⟨x, y, by rw [upd_ne (Ne.symm n)]; exact e⟩
theorem SameB.none {b p : Addr} {H H' : Hp} (h : SameB b H H') (n : H' p = none) (z : p ≠ b) : H p = none := by
  cases q : H p with
  | none => rfl
  | some o => rw [h p o q z] at n; cases n
theorem BoxAt.ne {b p : Addr} {H : Hp} (h : BoxAt H b) (n : H p = none) : p ≠ b := fun z => by obtain ⟨x, y, e⟩ := h; rw [← z, n] at e; cases e
theorem iteN {c : Bool} {A B : Prop} (h : c = false) (hB : B) : if c = true then A else B := by rw [h]; exact iteF hB
theorem iteY {c : Bool} {A B : Prop} (h : c = true) (hA : A) : if c = true then A else B := by rw [h]; exact iteT hA
theorem sgs_take (a : List Nat) : a.take (sgs a).length = a := by rw [sgs_len]; exact List.take_of_length_le (Nat.le_refl _)
/-- between two bounds -/
theorem cnt {lo hi : Int} {m : Nat} (h : lo ≤ hi) : lo ≤ (if (if (m : Int) < hi then (m : Int) else hi) > lo then (if (m : Int) < hi then (m : Int) else hi) else lo) ∧ (if (if (m : Int) < hi then (m : Int) else hi) > lo then (if (m : Int) < hi then (m : Int) else hi) else lo) ≤ hi := by
  split <;> split <;> (try split) <;> omega
theorem SameB.same {b : Addr} {H H2 H3 : Hp} (n : H b = Option.none) (s : Same H H2) (t : SameB b H2 H3) : Same H H3 := fun c o e => t c o (s c o e) (ne_of_none e n)
theorem SameB.after {p : Addr} {H H1 H2 : Hp} (s : SameB p H H1) (t : Same H1 H2) : SameB p H H2 := fun c o e z => t c o (s c o e z)
/-- texts as values -/
def txs (ws : List (List Nat)) : List V := ws.map fun l => V.str (S l)
theorem txs_len (ws : List (List Nat)) : (txs ws).length = ws.length := by unfold txs; rw [List.length_map]
theorem txs_snoc (ws : List (List Nat)) (l : List Nat) : txs ws ++ [V.str (S l)] = txs (ws ++ [l]) := by unfold txs; rw [List.map_append]; rfl
theorem txs_at {ws : List (List Nat)} {i : Nat} (h : i < ws.length) : (txs ws)[i]? = some (V.str (S ws[i])) := by unfold txs; rw [List.getElem?_map, List.getElem?_eq_getElem h]; rfl
/-! words made shorter -/
def rstep (st : List Nat) (c : Nat) : List Nat := if st.getLast? = some (ctr c) then st.dropLast else st ++ [c]
def red (l : List Nat) : List Nat := l.foldl rstep []
/-- no letter beside its contrary -/
def Rdd : List Nat → Prop
  | [] => True
  | [_] => True
  | a :: b :: r => a ≠ ctr b ∧ Rdd (b :: r)
theorem Rdd.tail : ∀ {a : Nat} {r : List Nat}, Rdd (a :: r) → Rdd r
  | _, [], _ => trivial
  | _, _ :: _, h => h.2
theorem Rdd.snoc : ∀ {l : List Nat} {c : Nat}, Rdd l → l.getLast? ≠ some (ctr c) → Rdd (l ++ [c])
  | [], _, _, _ => trivial
  | [a], c, _, h => ⟨fun z => h (by rw [z]; rfl), trivial⟩
  | a :: b :: r, c, h, k => ⟨h.1, Rdd.snoc (l := b :: r) h.2 (by simpa using k)⟩
theorem Rdd.init : ∀ {l : List Nat} {c : Nat}, Rdd (l ++ [c]) → Rdd l ∧ l.getLast? ≠ some (ctr c)
  | [], _, _ => ⟨trivial, by simp⟩
  | [a], c, h => ⟨trivial, fun z => h.1 (by simpa using z)⟩
  | a :: b :: r, c, h => by
    have ih := Rdd.init (l := b :: r) (c := c) h.2
    exact ⟨⟨h.1, ih.1⟩, by simpa using ih.2⟩
theorem snoc_cases (l : List Nat) : l = [] ∨ ∃ m a, l = m ++ [a] := by
  by_cases h : l = []
  · exact .inl h
  · exact .inr ⟨l.dropLast, l.getLast h, (List.dropLast_concat_getLast h).symm⟩
theorem rstep_mem {st : List Nat} {c d : Nat} (h : d ∈ rstep st c) : d ∈ st ∨ d = c := by
  unfold rstep at h
  by_cases e : st.getLast? = some (ctr c)
  · rw [if_pos e] at h
    exact .inl (List.dropLast_subset _ h)
  · rw [if_neg e] at h
    rcases List.mem_append.mp h with z | z
    · exact .inl z
    · exact .inr (List.mem_singleton.mp z)
theorem fold_lt : ∀ (l st : List Nat), (∀ c ∈ l, Lt c) → (∀ c ∈ st, Lt c) → ∀ c ∈ l.foldl rstep st, Lt c
  | [], _, _, h => h
  | a :: l, st, h1, h2 => fold_lt l _ (fun c hc => h1 c (List.mem_cons_of_mem _ hc)) fun c hc => (rstep_mem hc).elim (h2 c) fun z => z ▸ h1 a List.mem_cons_self
theorem red_lt {l : List Nat} (h : ∀ c ∈ l, Lt c) : ∀ c ∈ red l, Lt c := fold_lt l [] h fun _ h => absurd h List.not_mem_nil
theorem rstep_len (st : List Nat) (c : Nat) : (rstep st c).length ≤ st.length + 1 := by
  unfold rstep
  by_cases e : st.getLast? = some (ctr c)
  · rw [if_pos e, List.length_dropLast]; omega
  · rw [if_neg e, List.length_append]; exact Nat.le_refl _
theorem fold_len : ∀ (l st : List Nat), (l.foldl rstep st).length ≤ st.length + l.length
  | [], _ => Nat.le_refl _
  | c :: l, st => by
    have := fold_len l (rstep st c)
    have h2 := rstep_len st c
    rw [List.foldl_cons, List.length_cons]
    omega
theorem red_len (l : List Nat) : (red l).length ≤ l.length := by
  have := fold_len l []
  rw [List.length_nil, Nat.zero_add] at this
  exact this
theorem red_take {l : List Nat} {i c : Nat} (h : l[i]? = some c) : red (l.take (i + 1)) = rstep (red (l.take i)) c := by
  unfold red
  rw [← take_snoc h, List.foldl_append]
  rfl
/-- ends that are contraries fall off -/
def strip : Nat → List Nat → List Nat
  | 0, l => l
  | n + 1, l => match l with
    | [] => []
    | [a] => [a]
    | a :: b :: r => if a = ctr ((b :: r).getLast (by simp)) then strip n (b :: r).dropLast else a :: b :: r
/-- the shortest -/
def core (l : List Nat) : List Nat := strip l.length l
theorem cut_to {α : Type} (l : List α) (k : Nat) : cut l none (some (k : Int)) = l.take k := by
  unfold cut
  rw [HT.sIx_none, HT.sIx_nat, List.drop_zero, Nat.sub_zero]
  by_cases h : k ≤ l.length
  · rw [Nat.min_eq_left h]
  · rw [Nat.min_eq_right (by omega), List.take_of_length_le (Nat.le_refl _), List.take_of_length_le (by omega)]
theorem cut_from {α : Type} (l : List α) (k : Nat) : cut l (some (k : Int)) none = l.drop k := by
  unfold cut
  rw [HT.sIx_none, HT.sIx_nat]
  by_cases h : k ≤ l.length
  · rw [Nat.min_eq_left h, List.take_of_length_le (by rw [List.length_drop]; exact Nat.le_refl _)]
  · rw [Nat.min_eq_right (by omega), List.drop_of_length_le (Nat.le_refl _), List.drop_of_length_le (by omega)]
    simp
def tds (ws : List (List Nat)) : List PyData := ws.map fun l => PyData.str (S l)
theorem rdds_txs {K : PySem.W.Frag} {H : Hp} : ∀ ws : List (List Nat), RdDs K H (txs ws) (tds ws)
  | [] => .nil
  | w :: ws => .cons (.str _) (rdds_txs ws)
theorem str_ok {l : List Nat} (h : ∀ c ∈ l, c < 128) : PyData.strOk (S l) = true := by
  unfold PyData.strOk
  rw [Array.all_eq_true_iff_forall_mem]
  intro c hc
  have : c ∈ l := by simpa [S] using hc
  have := h c this
  simp; omega
theorem lay_txs : ∀ {ws : List (List Nat)}, (∀ l ∈ ws, ∀ c ∈ l, c < 128) → PyData.canLayAll0 (tds ws) = true
  | [], _ => rfl
  | w :: ws, h => by
    show (PyData.strOk (S w) && PyData.canLayAll0 (tds ws)) = true
    rw [str_ok (h w List.mem_cons_self), lay_txs fun l hl => h l (List.mem_cons_of_mem _ hl)]
    rfl
theorem depth_txs : ∀ ws : List (List Nat), PyData.depthAll (tds ws) = 0
  | [] => rfl
  | k :: ks => by show max (PyData.depth (.str _)) (PyData.depthAll (tds ks)) = 0; rw [depth_txs ks]; rfl
mutual
theorem eqv_refl : ∀ d : PyData, d.hasDict = false → PyData.eqv d d = true
  | .none, _ => rfl
  | .bool b, _ => by simp [PyData.eqv]
  | .int i, _ => by simp [PyData.eqv]
  | .str x, _ => by simp [PyData.eqv]
  | .list xs, h => by show PyData.eqvAll xs xs = true; exact eqvAll_refl xs (by simpa [PyData.hasDict] using h)
  | .tuple xs, h => by show PyData.eqvAll xs xs = true; exact eqvAll_refl xs (by simpa [PyData.hasDict] using h)
  | .dict kvs, h => by simp [PyData.hasDict] at h
theorem eqvAll_refl : ∀ ds : List PyData, PyData.hasDictAll ds = false → PyData.eqvAll ds ds = true
  | [], _ => rfl
  | d :: ds, h => by
    simp [PyData.hasDictAll] at h
    show (PyData.eqv d d && PyData.eqvAll ds ds) = true
    rw [eqv_refl d h.1, eqvAll_refl ds h.2]
    rfl
end
/-! rings -/
def rot (c : List Nat) (k : Nat) : List Nat := c.drop k ++ c.take k
def rots (c : List Nat) (n : Nat) : List (List Nat) := (List.range n).map fun k => rot c (k + 1)
def ringC (c : List Nat) : List Nat := leastOf c (rots c (c.length - 1))
@[irreducible] def ringM (w : List Nat) : List Nat := ringC (core (red w))
/-! terms, as tuples within tuples -/
inductive Tm where
  | walk (w : List Nat) | name (s : List Nat) | back (t : Tm) | again (k : Nat) (t : Tm) | thn (a b : Tm) | fr (c : Nat) (a b : Tm)
def kWalk : List Nat := [119, 97, 108, 107]
def kName : List Nat := [110, 97, 109, 101]
def kBack : List Nat := [98, 97, 99, 107]
def kAgain : List Nat := [97, 103, 97, 105, 110]
def kThen : List Nat := [116, 104, 101, 110]
def kFor : List Nat := [102, 111, 114]
def TmAt (H : Hp) : Addr → Tm → Prop
  | a, .walk w => H a = some (.tup [.str (S kWalk), .str (S w)])
  | a, .name s => H a = some (.tup [.str (S kName), .str (S s)])
  | a, .back t => ∃ b, H a = some (.tup [.str (S kBack), .ref b]) ∧ TmAt H b t
  | a, .again k t => ∃ b, H a = some (.tup [.str (S kAgain), .int k, .ref b]) ∧ TmAt H b t
  | a, .thn x y => ∃ b c, H a = some (.tup [.str (S kThen), .ref b, .ref c]) ∧ TmAt H b x ∧ TmAt H c y
  | a, .fr l x y => ∃ b c, H a = some (.tup [.str (S kFor), .str (S [l]), .ref b, .ref c]) ∧ TmAt H b x ∧ TmAt H c y
theorem TmAt.ts {H H' : Hp} (s : TSame H H') : ∀ {t : Tm} {a : Addr}, TmAt H a t → TmAt H' a t
  | .walk w, a, h => s _ _ h
  | .name w, a, h => s _ _ h
  | .back t, a, ⟨b, h, g⟩ => ⟨b, s _ _ h, TmAt.ts s g⟩
  | .again k t, a, ⟨b, h, g⟩ => ⟨b, s _ _ h, TmAt.ts s g⟩
  | .thn x y, a, ⟨b, c, h, g1, g2⟩ => ⟨b, c, s _ _ h, TmAt.ts s g1, TmAt.ts s g2⟩
  | .fr l x y, a, ⟨b, c, h, g1, g2⟩ => ⟨b, c, s _ _ h, TmAt.ts s g1, TmAt.ts s g2⟩
theorem TSame.of {H H' : Hp} (s : Same H H') : TSame H H' := fun c xs e => s _ _ e
theorem TmAt.same {H H' : Hp} (s : Same H H') {t : Tm} {a : Addr} (h : TmAt H a t) : TmAt H' a t := h.ts (TSame.of s)
def dep : Tm → Nat
  | .walk _ => 1
  | .name _ => 1
  | .back t => dep t + 1
  | .again _ t => dep t + 1
  | .thn x y => max (dep x) (dep y) + 1
  | .fr _ x y => max (dep x) (dep y) + 1
theorem dep_pos : ∀ t : Tm, 1 ≤ dep t
  | .walk _ => Nat.le_refl _
  | .name _ => Nat.le_refl _
  | .back t => by show 1 ≤ dep t + 1; omega
  | .again _ t => by show 1 ≤ dep t + 1; omega
  | .thn x y => by show 1 ≤ max (dep x) (dep y) + 1; omega
  | .fr _ x y => by show 1 ≤ max (dep x) (dep y) + 1; omega
def subs : Tm → List Tm
  | .walk _ => []
  | .name _ => []
  | .back t => [t]
  | .again _ t => [t]
  | .thn x y => [x, y]
  | .fr _ x y => [x, y]
def nms : Tm → List (List Nat)
  | .walk _ => []
  | .name s => [s]
  | .back t => nms t
  | .again _ t => nms t
  | .thn x y => nms x ++ nms y
  | .fr _ x y => nms x ++ nms y
theorem subs_dep {t u : Tm} {n : Nat} (h : dep t ≤ n + 1) (hu : u ∈ subs t) : dep u ≤ n := by
  cases t with
  | walk w => cases hu
  | name w => cases hu
  | back t => rw [List.mem_singleton.mp hu]; have : dep t + 1 ≤ n + 1 := h; omega
  | again k t => rw [List.mem_singleton.mp hu]; have : dep t + 1 ≤ n + 1 := h; omega
  | thn x y =>
    have : max (dep x) (dep y) + 1 ≤ n + 1 := h
    rcases List.mem_cons.mp hu with g | g
    · rw [g]; omega
    · rw [List.mem_singleton.mp g]; omega
  | fr l x y =>
    have : max (dep x) (dep y) + 1 ≤ n + 1 := h
    rcases List.mem_cons.mp hu with g | g
    · rw [g]; omega
    · rw [List.mem_singleton.mp g]; omega
def TmsAt (H : Hp) : List Addr → List Tm → Prop
  | [], [] => True
  | a :: as, t :: ts => TmAt H a t ∧ TmsAt H as ts
  | _, _ => False
theorem TmsAt.ts {H H' : Hp} (s : TSame H H') : ∀ {as : List Addr} {ts : List Tm}, TmsAt H as ts → TmsAt H' as ts
  | [], [], _ => trivial
  | a :: as, t :: ts, h => ⟨h.1.ts s, TmsAt.ts s h.2⟩
theorem TmsAt.len {H : Hp} : ∀ {as : List Addr} {ts : List Tm}, TmsAt H as ts → as.length = ts.length
  | [], [], _ => rfl
  | _ :: _, _ :: _, h => congrArg (· + 1) (TmsAt.len h.2)
theorem TmsAt.get {H : Hp} : ∀ {as : List Addr} {ts : List Tm} {i : Nat} {a : Addr}, TmsAt H as ts → as[i]? = some a → ∃ t, ts[i]? = some t ∧ TmAt H a t
  | [], [], i, a, _, h => by simp at h
  | b :: as, t :: ts, 0, a, g, h => by
    have e : b = a := by simpa using h
    subst e
    exact ⟨t, rfl, g.1⟩
  | b :: as, t :: ts, i + 1, a, g, h => by
    obtain ⟨u, e1, e2⟩ := TmsAt.get (i := i) g.2 (by simpa using h)
    exact ⟨u, by simpa using e1, e2⟩
def rfs (as : List Addr) : List V := as.map V.ref
theorem rfs_len (as : List Addr) : (rfs as).length = as.length := by unfold rfs; rw [List.length_map]
theorem rfs_get {as : List Addr} {i : Nat} {x : V} (h : (rfs as)[i]? = some x) : ∃ a, as[i]? = some a ∧ x = V.ref a := by
  unfold rfs at h
  rw [List.getElem?_map] at h
  cases e : as[i]? with
  | none => rw [e] at h; cases h
  | some a => rw [e] at h; cases h; exact ⟨a, rfl, rfl⟩
def sp_terms_in (_ : PySem.W.Frag) : Sp := fun vs H Q _ => ∃ (a : Addr) (t : Tm), vs = [.ref a] ∧ TmAt H a t ∧ ∀ (q : Addr) (as : List Addr) H', H q = none → H' q = some (.lst (rfs as)) → TmsAt H' as (subs t) → Same H H' → Q (.ref q) H'
theorem len_terms_in {K : PySem.W.Frag} {vs : List V} {H : Hp} {Q : VK} {E : XK} (h : sp_terms_in K vs H Q E) : vs.length = 1 := by obtain ⟨a, t, rfl, _⟩ := h; rfl
/-- its word, whatever term -/
def kOf : Tm → List Nat
  | .walk _ => kWalk
  | .name _ => kName
  | .back _ => kBack
  | .again _ _ => kAgain
  | .thn _ _ => kThen
  | .fr _ _ _ => kFor
theorem TmAt.head {H : Hp} {a : Addr} {t : Tm} (h : TmAt H a t) : ∃ xs, H a = some (.tup (.str (S (kOf t)) :: xs)) := by
  cases t with
  | walk w => exact ⟨_, h⟩
  | name w => exact ⟨_, h⟩
  | back t => obtain ⟨b, h, _⟩ := h; exact ⟨_, h⟩
  | again k t => obtain ⟨b, h, _⟩ := h; exact ⟨_, h⟩
  | thn x y => obtain ⟨b, c, h, _⟩ := h; exact ⟨_, h⟩
  | fr l x y => obtain ⟨b, c, h, _⟩ := h; exact ⟨_, h⟩
/-- a tuple's items behind its word -/
inductive Itm (H : Hp) : List V → List Tm → Prop
  | nil : Itm H [] []
  | str {z : Str} {xs : List V} {ts : List Tm} : Itm H xs ts → Itm H (.str z :: xs) ts
  | int {i : Int} {xs : List V} {ts : List Tm} : Itm H xs ts → Itm H (.int i :: xs) ts
  | tm {b : Addr} {t : Tm} {xs : List V} {ts : List Tm} : TmAt H b t → Itm H xs ts → Itm H (.ref b :: xs) (t :: ts)
theorem TmAt.items {H : Hp} {a : Addr} {t : Tm} (h : TmAt H a t) : ∃ xs, H a = some (.tup (.str (S (kOf t)) :: xs)) ∧ Itm H xs (subs t) ∧ xs.length ≤ 3 := by
  cases t with
  | walk w => exact ⟨_, h, .str .nil, by simp⟩
  | name w => exact ⟨_, h, .str .nil, by simp⟩
  | back t => obtain ⟨b, h, g⟩ := h; exact ⟨_, h, .tm g .nil, by simp⟩
  | again k t => obtain ⟨b, h, g⟩ := h; exact ⟨_, h, .int (.tm g .nil), by simp⟩
  | thn x y => obtain ⟨b, c, h, g1, g2⟩ := h; exact ⟨_, h, .tm g1 (.tm g2 .nil), by simp⟩
  | fr l x y => obtain ⟨b, c, h, g1, g2⟩ := h; exact ⟨_, h, .str (.tm g1 (.tm g2 .nil)), by simp⟩
/-- the i-th item: a text or a number, or the next term -/
theorem Itm.step {H : Hp} : ∀ {xs : List V} {ts : List Tm} (i : Nat) (x : V), Itm H xs ts → xs[i]? = some x → ∃ k, Itm H (xs.drop i) (ts.drop k) ∧ k ≤ ts.length
  | xs, ts, 0, x, h, _ => ⟨0, by simpa using h, Nat.zero_le _⟩
  | _, _, i + 1, x, .nil, e => by simp at e
  | _, _, i + 1, x, .str h, e => by
    obtain ⟨k, h1, h2⟩ := Itm.step i x h (by simpa using e)
    exact ⟨k, by simpa using h1, h2⟩
  | _, _, i + 1, x, .int h, e => by
    obtain ⟨k, h1, h2⟩ := Itm.step i x h (by simpa using e)
    exact ⟨k, by simpa using h1, h2⟩
  | _, _, i + 1, x, .tm g h, e => by
    obtain ⟨k, h1, h2⟩ := Itm.step i x h (by simpa using e)
    exact ⟨k + 1, by simpa using h1, by simpa using h2⟩
theorem Itm.ts {H H' : Hp} (s : TSame H H') {xs : List V} {ts : List Tm} (h : Itm H xs ts) : Itm H' xs ts := by
  induction h with
  | nil => exact .nil
  | str _ ih => exact .str ih
  | int _ ih => exact .int ih
  | tm g _ ih => exact .tm (g.ts s) ih
theorem txs_get {ls : List (List Nat)} {i : Nat} {x : V} (h : (txs ls)[i]? = some x) : ∃ l, ls[i]? = some l ∧ x = V.str (S l) := by
  unfold txs at h
  rw [List.getElem?_map] at h
  cases e : ls[i]? with
  | none => rw [e] at h; cases h
  | some l => rw [e] at h; cases h; exact ⟨l, rfl, rfl⟩
/-- a row: its tuple, its name, its term -/
structure Rw where
  r : Addr
  a : Addr
  nm : List Nat
  t : Tm
structure RwOk (H : Hp) (k : Rw) : Prop where
  tp : H k.r = some (.tup [.str (S k.nm), .ref k.a])
  tm : TmAt H k.a k.t
  dp : dep k.t ≤ 7
  nl : ∀ c ∈ k.nm, c < 128
  al : ∀ s ∈ nms k.t, ∀ c ∈ s, c < 128
theorem RwOk.ts {H H' : Hp} {k : Rw} (h : RwOk H k) (s : TSame H H') : RwOk H' k := ⟨s _ _ h.tp, h.tm.ts s, h.dp, h.nl, h.al⟩
def rwv (ks : List Rw) : List V := ks.map fun k => V.ref k.r
theorem rwv_len (ks : List Rw) : (rwv ks).length = ks.length := by unfold rwv; rw [List.length_map]
theorem rwv_snoc (ks : List Rw) (k : Rw) : rwv ks ++ [V.ref k.r] = rwv (ks ++ [k]) := by unfold rwv; rw [List.map_append]; rfl
theorem rwv_get {ks : List Rw} {i : Nat} {x : V} (h : (rwv ks)[i]? = some x) : ∃ k, ks[i]? = some k ∧ x = .ref k.r := by
  unfold rwv at h
  rw [List.getElem?_map] at h
  cases e : ks[i]? with
  | none => rw [e] at h; cases h
  | some k => rw [e] at h; cases h; exact ⟨k, rfl, rfl⟩
structure ProgAt (H : Hp) (p : Addr) (ks : List Rw) : Prop where
  tp : H p = some (.tup (rwv ks))
  rw : ∀ k ∈ ks, RwOk H k
  fw : ks.length ≤ 8
theorem ProgAt.ts {H H' : Hp} {p : Addr} {ks : List Rw} (h : ProgAt H p ks) (s : TSame H H') : ProgAt H' p ks := ⟨s _ _ h.tp, fun k hk => (h.rw k hk).ts s, h.fw⟩
def nmk (ks : List Rw) : List (List Nat) := ks.map Rw.nm
structure NmOk (s : List Nat) : Prop where
  ne : s ≠ []
  lt : ∀ c ∈ s, c ∈ smalls
  sz : s.length ≤ 12
theorem NmOk.l128 {s : List Nat} (h : NmOk s) : ∀ c ∈ s, c < 128 := fun c hc => (show Lt c from .inl (h.lt c hc)).lt
theorem inV_tx (a : List Nat) : ∀ ls : List (List Nat), inV (.str (S a)) (txs ls) = decide (a ∈ ls)
  | [] => by simp [inV, txs]
  | l :: ls => by
    have ih := inV_tx a ls
    have e : inV (.str (S a)) (txs (l :: ls)) = (eqV (.str (S l)) (.str (S a)) || inV (.str (S a)) (txs ls)) := rfl
    rw [e, ih]
    have e2 : eqV (.str (S l)) (.str (S a)) = decide (a = l) := by
      show (S l == S a) = _
      by_cases z : a = l
      · subst z; simp
      · rw [decide_eq_false z]
        exact beq_eq_false_iff_ne.mpr fun q => z (by rw [← S_list l, q, S_list])
    rw [e2]
    by_cases z : a = l
    · subst z; simp
    · simp [z]
theorem txs_flat (ls : List (List Nat)) : (txs ls).all flatV = true := by unfold txs; rw [List.all_map, List.all_eq_true]; intro x _; rfl
def kS (l : List Nat) : Key := Sum.inr (S l)
theorem kS_inj {a b : List Nat} (h : kS a = kS b) : a = b := by rw [← S_list a, Sum.inr.inj h, S_list]
theorem SameB.tsB {b : Addr} {H H' : Hp} (h : SameB b H H') (hb : BoxAt H b) : TSame H H' := fun c xs e => h c _ e fun z => by
  obtain ⟨x, y, g⟩ := hb
  rw [← z, e] at g
  cases g
theorem eqv_nil (ls : List (List Nat)) : PyData.eqv (.list (tds ls)) (.list []) = decide (ls = []) := by
  cases ls with
  | nil => rfl
  | cons l ls => rfl
theorem cut_txs (ns : List (List Nat)) (i : Nat) : cutV (txs ns) none (some (i : Int)) = txs (ns.take i) := by
  have e : cutV (txs ns) none (some (i : Int)) = cut (txs ns) none (some (i : Int)) := rfl
  rw [e, cut_to]; unfold txs; rw [List.map_take]
structure Pg where
  p : Addr
  ks : List Rw
theorem noDict_txs : ∀ ws : List (List Nat), PyData.hasDictAll (tds ws) = false
  | [] => rfl
  | w :: ws => by show (PyData.hasDict (.str _) || PyData.hasDictAll (tds ws)) = false; rw [noDict_txs ws]; rfl
/-- the next letter, round -/
def rtl (c : Nat) : Nat := smalls.getD ((smalls.idxOf c + 1) % 26) 0
def rtlN : Nat → Nat → Nat
  | 0, c => c
  | m + 1, c => rtlN m (rtl c)
theorem rtl_small : ∀ c ∈ smalls, rtl c ∈ smalls ∧ smalls[(smalls.idxOf c + 1) % 26]? = some (rtl c) := by decide +kernel
theorem rtl_all : ∀ c ∈ smalls, ∀ d ∈ smalls, ∃ m, m < 26 ∧ rtlN m c = d := by decide +kernel
def keptW : List (List Nat) := [kThen, kBack, kAgain, kFor]
theorem rtl_end {ns : List (List Nat)} (h : ns.length ≤ 12) (w : List Nat) {c : Nat} (hc : c ∈ smalls) : ∃ m, rtlN m c :: w ∉ ns ++ keptW := by
  by_cases z : ∃ d, d ∈ smalls ∧ d :: w ∉ ns ++ keptW
  · obtain ⟨d, hd, hn⟩ := z
    obtain ⟨m, _, e⟩ := rtl_all c hc d hd
    exact ⟨m, by rw [e]; exact hn⟩
  · exfalso
    have hall : ∀ x ∈ smalls.map (fun d => d :: w), x ∈ ns ++ keptW := fun x hx => by
      obtain ⟨d, hd, rfl⟩ := List.mem_map.mp hx
      by_cases y : d :: w ∈ ns ++ keptW
      · exact y
      · exact absurd ⟨d, hd, y⟩ z
    have nd : (smalls.map (fun d => d :: w)).Nodup := by
      rw [List.nodup_iff_pairwise_ne, List.pairwise_map]
      have : smalls.Nodup := by decide
      exact (List.nodup_iff_pairwise_ne.mp this).imp fun hne e => hne (List.cons.inj e).1
    have := nd.length_le_of_subset hall
    rw [List.length_map, List.length_append] at this
    have e1 : smalls.length = 26 := rfl
    have e2 : keptW.length = 4 := rfl
    omega
def ones (l : List Nat) : List (List Nat) := l.map fun c => [c]
theorem sgs_ones (l : List Nat) : sgs l = txs (ones l) := sgs_lists l
theorem ones_lt {l : List Nat} (h : ∀ c ∈ l, c < 128) : ∀ x ∈ ones l, ∀ c ∈ x, c < 128 := fun x hx c hc => by
  obtain ⟨d, hd, rfl⟩ := List.mem_map.mp hx
  rw [List.mem_singleton.mp hc]; exact h d hd
def sp_shortened (_ : PySem.W.Frag) : Sp := fun vs H Q _ => ∃ l : List Nat, vs = [.str (S l)] ∧ (∀ c ∈ l, Lt c) ∧ l.length ≤ 10000 ∧ ∀ H', Same H H' → Q (.str (S (red l))) H'
theorem len_shortened {K : PySem.W.Frag} {vs : List V} {H : Hp} {Q : VK} {E : XK} (h : sp_shortened K vs H Q E) : vs.length = 1 := by obtain ⟨a, rfl, _⟩ := h; rfl
def sp_Lshortened (_ : PySem.W.Frag) : Sp := fun vs H Q _ => ∃ l : List Nat, vs = [.str (S l)] ∧ (∀ c ∈ l, Lt c) ∧ l.length ≤ 10000 ∧ ∀ H', Same H H' → Q (.str (S (red l))) H'
theorem len_Lshortened {K : PySem.W.Frag} {vs : List V} {H : Hp} {Q : VK} {E : XK} (h : sp_Lshortened K vs H Q E) : vs.length = 1 := by obtain ⟨a, rfl, _⟩ := h; rfl
/-! ### what a term comes to -/
def cap (l : List Nat) : Option (List Nat) := if 60 < l.length then none else some l
def sub1 (c : Nat) (y : List Nat) (d : Nat) : List Nat := if d = c then y else if d = ctr c then tnd y else [d]
def subw (c : Nat) (y x : List Nat) : List Nat := (x.map (sub1 c y)).flatten
/-- the word of a row ahead -/
def kn (kvs : List (List Nat × List Nat)) (s : List Nat) : List Nat := (kvs.lookup s).getD []
def made (kvs : List (List Nat × List Nat)) : Tm → List (List Nat) → List Nat
  | .walk w, _ => w
  | .name s, _ => kn kvs s
  | .back _, [x] => tnd x
  | .again k _, [x] => reps k x
  | .thn _ _, [x, y] => x ++ y
  | .fr c _ _, [x, y] => subw c y x
  | _, _ => []
def val (kvs : List (List Nat × List Nat)) : Tm → Option (List Nat)
  | .walk w => cap (red w)
  | .name s => cap (red (kn kvs s))
  | .back t => (val kvs t).bind fun x => cap (red (tnd x))
  | .again k t => (val kvs t).bind fun x => cap (red (reps k x))
  | .thn a b => (val kvs a).bind fun x => (val kvs b).bind fun y => cap (red (x ++ y))
  | .fr c a b => (val kvs a).bind fun x => (val kvs b).bind fun y => cap (red (subw c y x))
def vals (kvs : List (List Nat × List Nat)) : List Tm → Option (List (List Nat))
  | [] => some []
  | t :: ts => (val kvs t).bind fun x => (vals kvs ts).map fun xs => x :: xs
theorem val_eq (kvs : List (List Nat × List Nat)) (t : Tm) : val kvs t = (vals kvs (subs t)).bind fun ws => cap (red (made kvs t ws)) := by
  cases t with
  | walk w => rfl
  | name s => rfl
  | back t => show (val kvs t).bind _ = ((val kvs t).bind _).bind _; cases val kvs t <;> rfl
  | again k t => show (val kvs t).bind _ = ((val kvs t).bind _).bind _; cases val kvs t <;> rfl
  | thn a b =>
    show (val kvs a).bind _ = ((val kvs a).bind fun x => ((val kvs b).bind _).map _).bind _
    cases val kvs a with
    | none => rfl
    | some x => show (val kvs b).bind _ = (((val kvs b).bind _).map _).bind _; cases val kvs b <;> rfl
  | fr c a b =>
    show (val kvs a).bind _ = ((val kvs a).bind fun x => ((val kvs b).bind _).map _).bind _
    cases val kvs a with
    | none => rfl
    | some x => show (val kvs b).bind _ = (((val kvs b).bind _).map _).bind _; cases val kvs b <;> rfl
/-- letters, and how often -/
def TmOk : Tm → Prop
  | .walk w => (∀ c ∈ w, Lt c) ∧ w.length ≤ 12
  | .name _ => True
  | .back t => TmOk t
  | .again k t => k ≤ 6 ∧ TmOk t
  | .thn a b => TmOk a ∧ TmOk b
  | .fr c a b => c ∈ smalls ∧ TmOk a ∧ TmOk b
def wOk (x : List Nat) : Prop := (∀ c ∈ x, Lt c) ∧ x.length ≤ 60
structure KnOk (kvs : List (List Nat × List Nat)) (t : Tm) : Prop where
  all : ∀ p ∈ kvs, wOk p.2
  has : ∀ s ∈ nms t, (kvs.lookup s).isSome = true
def kvW (kvs : List (List Nat × List Nat)) : List (Key × V) := kvs.map fun p => (kS p.1, V.str (S p.2))
theorem subs_ok {t u : Tm} (h : TmOk t) (hu : u ∈ subs t) : TmOk u := by
  cases t with
  | walk w => cases hu
  | name s => cases hu
  | back t => rw [List.mem_singleton.mp hu]; exact h
  | again k t => rw [List.mem_singleton.mp hu]; exact h.2
  | thn a b =>
    rcases List.mem_cons.mp hu with g | g
    · rw [g]; exact h.1
    · rw [List.mem_singleton.mp g]; exact h.2
  | fr c a b =>
    rcases List.mem_cons.mp hu with g | g
    · rw [g]; exact h.2.1
    · rw [List.mem_singleton.mp g]; exact h.2.2
theorem subs_nms {t u : Tm} (hu : u ∈ subs t) {s : List Nat} (h : s ∈ nms u) : s ∈ nms t := by
  cases t with
  | walk w => cases hu
  | name s => cases hu
  | back t => rw [List.mem_singleton.mp hu] at h; exact h
  | again k t => rw [List.mem_singleton.mp hu] at h; exact h
  | thn a b =>
    rcases List.mem_cons.mp hu with g | g
    · rw [g] at h; exact List.mem_append.mpr (.inl h)
    · rw [List.mem_singleton.mp g] at h; exact List.mem_append.mpr (.inr h)
  | fr c a b =>
    rcases List.mem_cons.mp hu with g | g
    · rw [g] at h; exact List.mem_append.mpr (.inl h)
    · rw [List.mem_singleton.mp g] at h; exact List.mem_append.mpr (.inr h)
theorem KnOk.sub {kvs : List (List Nat × List Nat)} {t u : Tm} (h : KnOk kvs t) (hu : u ∈ subs t) : KnOk kvs u := ⟨h.all, fun s hs => h.has s (subs_nms hu hs)⟩
theorem cap_some {l x : List Nat} (h : cap l = some x) : x = l ∧ l.length ≤ 60 := by
  unfold cap at h
  split at h
  · cases h
  · exact ⟨(Option.some.inj h).symm, by omega⟩
theorem lookup_mem {kvs : List (List Nat × List Nat)} {s w : List Nat} (h : kvs.lookup s = some w) : (s, w) ∈ kvs := by
  induction kvs with
  | nil => cases h
  | cons p r ih =>
    obtain ⟨a, b⟩ := p
    rw [List.lookup_cons] at h
    cases e : s == a with
    | true => rw [e] at h; have : s = a := by simpa using e
              subst this; cases h; exact List.mem_cons_self
    | false => rw [e] at h; exact List.mem_cons_of_mem _ (ih h)
theorem kn_ok {kvs : List (List Nat × List Nat)} (h : ∀ p ∈ kvs, wOk p.2) (s : List Nat) : wOk (kn kvs s) := by
  unfold kn
  cases e : kvs.lookup s with
  | none => exact ⟨by simp, by simp⟩
  | some w => exact h _ (lookup_mem e)
theorem ctr_small : ∀ c ∈ smalls, Lt (ctr c) ∧ up1 c = ctr c ∧ ctr c ≠ c ∧ c < 128 := by decide +kernel
theorem tnd_ok {x : List Nat} (h : wOk x) : wOk (tnd x) := ⟨fun c hc => by
    unfold tnd at hc
    rw [List.mem_reverse] at hc
    obtain ⟨d, hd, rfl⟩ := List.mem_map.mp hc
    exact (h.1 d hd).ctr, by unfold tnd; rw [List.length_reverse, List.length_map]; exact h.2⟩
theorem sub1_ok {c : Nat} {y : List Nat} (hy : wOk y) {d : Nat} (hd : Lt d) : wOk (sub1 c y d) := by
  unfold sub1
  split
  · exact hy
  · split
    · exact tnd_ok hy
    · exact ⟨fun e he => by rw [List.mem_singleton.mp he]; exact hd, by simp⟩
theorem subw_ok {c : Nat} {y : List Nat} (hy : wOk y) : ∀ {x : List Nat}, (∀ d ∈ x, Lt d) → (∀ d ∈ subw c y x, Lt d) ∧ (subw c y x).length ≤ 60 * x.length
  | [], _ => ⟨by simp [subw], by simp [subw]⟩
  | d :: x, h => by
    have ih := subw_ok (c := c) hy (x := x) fun e he => h e (List.mem_cons_of_mem _ he)
    have h1 := sub1_ok (c := c) hy (h d List.mem_cons_self)
    have e : subw c y (d :: x) = sub1 c y d ++ subw c y x := rfl
    rw [e]
    refine ⟨fun a ha => ?_, ?_⟩
    · rcases List.mem_append.mp ha with z | z
      · exact h1.1 a z
      · exact ih.1 a z
    · have := h1.2
      rw [List.length_append, List.length_cons]
      omega
def sp_word_of (_ : PySem.W.Frag) (c : Addr) (n : Nat) : Sp := fun vs H Q E => ∃ (nm : List Nat) (a d : Addr) (t : Tm) (kvs : List (List Nat × List Nat)), vs = [.str (S nm), .ref a, .ref d] ∧ TmAt H a t ∧ TmOk t ∧ dep t ≤ n ∧ n ≤ 10 ∧ H d = some (.dK (kvW kvs)) ∧ KnOk kvs t ∧
  (∀ x, val kvs t = some x → ∀ H', Same H H' → Q (.str (S x)) H') ∧ (val kvs t = none → ∀ e H', H' e = some (xdO e [("name", .str (S nm))]) → Same H H' → E (.ref c) (some e) H')
theorem len_word_of {K : PySem.W.Frag} {c : Addr} {n : Nat} {vs : List V} {H : Hp} {Q : VK} {E : XK} (h : sp_word_of K c n vs H Q E) : vs.length = 3 := by obtain ⟨_, _, _, _, _, rfl, _⟩ := h; rfl
theorem nev_word_of {K : PySem.W.Frag} {c : Addr} {vs : List V} {H : Hp} {Q : VK} {E : XK} (h : sp_word_of K c 0 vs H Q E) : False := by obtain ⟨_, _, _, t, _, _, _, _, h, _⟩ := h; have := dep_pos t; omega
def sp_made_of (_ : PySem.W.Frag) : Sp := fun vs H Q _ => ∃ (a wp d : Addr) (t : Tm) (ws : List (List Nat)) (kvs : List (List Nat × List Nat)), vs = [.ref a, .ref wp, .ref d] ∧ TmAt H a t ∧ TmOk t ∧ H wp = some (.lst (txs ws)) ∧ ws.length = (subs t).length ∧ (∀ x ∈ ws, wOk x) ∧ H d = some (.dK (kvW kvs)) ∧ KnOk kvs t ∧
  ∀ H', Same H H' → Q (.str (S (made kvs t ws))) H'
theorem len_made_of {K : PySem.W.Frag} {vs : List V} {H : Hp} {Q : VK} {E : XK} (h : sp_made_of K vs H Q E) : vs.length = 3 := by obtain ⟨_, _, _, _, _, _, rfl, _⟩ := h; rfl
def sp_put_for (_ : PySem.W.Frag) : Sp := fun vs H Q _ => ∃ (c : Nat) (x y : List Nat), vs = [.str (S [c]), .str (S x), .str (S y)] ∧ c ∈ smalls ∧ wOk x ∧ wOk y ∧ ∀ H', Same H H' → Q (.str (S (subw c y x))) H'
theorem len_put_for {K : PySem.W.Frag} {vs : List V} {H : Hp} {Q : VK} {E : XK} (h : sp_put_for K vs H Q E) : vs.length = 3 := by obtain ⟨_, _, _, rfl, _⟩ := h; rfl
theorem vals_snoc {kvs : List (List Nat × List Nat)} {t : Tm} {x : List Nat} (hx : val kvs t = some x) : ∀ {ts : List Tm} {ws : List (List Nat)}, vals kvs ts = some ws → vals kvs (ts ++ [t]) = some (ws ++ [x])
  | [], ws, h => by
    cases h
    show (val kvs t).bind _ = _
    rw [hx]; rfl
  | u :: ts, ws, h => by
    have h' : ((val kvs u).bind fun x => (vals kvs ts).map fun xs => x :: xs) = some ws := h
    show ((val kvs u).bind fun x => (vals kvs (ts ++ [t])).map fun xs => x :: xs) = _
    cases e : val kvs u with
    | none => rw [e] at h'; cases h'
    | some y =>
      rw [e] at h'
      cases e2 : vals kvs ts with
      | none => rw [e2] at h'; cases h'
      | some ys =>
        rw [e2] at h'
        cases h'
        rw [vals_snoc hx e2]
        rfl
theorem vals_none {kvs : List (List Nat × List Nat)} {u : Tm} (hx : val kvs u = none) : ∀ {ts : List Tm}, u ∈ ts → vals kvs ts = none
  | t :: ts, h => by
    show ((val kvs t).bind fun x => (vals kvs ts).map fun xs => x :: xs) = _
    rcases List.mem_cons.mp h with e | h
    · rw [← e, hx]; rfl
    · rw [vals_none hx h]; cases val kvs t <;> rfl
theorem vals_mem {kvs : List (List Nat × List Nat)} : ∀ {ts : List Tm} {ws : List (List Nat)}, vals kvs ts = some ws → ws.length = ts.length ∧ ∀ x ∈ ws, ∃ t ∈ ts, val kvs t = some x
  | [], ws, h => by cases h; exact ⟨rfl, by simp⟩
  | u :: ts, ws, h => by
    have h' : ((val kvs u).bind fun x => (vals kvs ts).map fun xs => x :: xs) = some ws := h
    cases e : val kvs u with
    | none => rw [e] at h'; cases h'
    | some y =>
      rw [e] at h'
      cases e2 : vals kvs ts with
      | none => rw [e2] at h'; cases h'
      | some ys =>
        rw [e2] at h'
        cases h'
        obtain ⟨i1, i2⟩ := vals_mem e2
        refine ⟨by simp [i1], fun x hx => ?_⟩
        rcases List.mem_cons.mp hx with z | z
        · exact ⟨u, List.mem_cons_self, by rw [z]; exact e⟩
        · obtain ⟨t, h1, h2⟩ := i2 x z
          exact ⟨t, List.mem_cons_of_mem _ h1, h2⟩
theorem reps_ok {x : List Nat} (hx : wOk x) : ∀ k : Nat, (∀ c ∈ reps k x, Lt c) ∧ (reps k x).length = k * x.length
  | 0 => ⟨by simp [reps], by simp [reps]⟩
  | k + 1 => by
    have ih := reps_ok hx k
    have e : reps (k + 1) x = x ++ reps k x := by unfold reps; rw [List.replicate_succ]; rfl
    rw [e]
    refine ⟨fun c hc => ?_, by rw [List.length_append, ih.2, Nat.succ_mul]; omega⟩
    rcases List.mem_append.mp hc with z | z
    · exact hx.1 c z
    · exact ih.1 c z
theorem len_two {α : Type} : ∀ {l : List α}, l.length = 2 → ∃ x y, l = [x, y]
  | [x, y], _ => ⟨x, y, rfl⟩
theorem made_ok {kvs : List (List Nat × List Nat)} {t : Tm} {ws : List (List Nat)} (ho : TmOk t) (hk : KnOk kvs t) (hl : ws.length = (subs t).length) (hw : ∀ x ∈ ws, wOk x) : (∀ c ∈ made kvs t ws, Lt c) ∧ (made kvs t ws).length ≤ 10000 := by
  cases t with
  | walk w => exact ⟨ho.1, Nat.le_trans ho.2 (by decide)⟩
  | name s => have := kn_ok hk.all s; exact ⟨this.1, Nat.le_trans this.2 (by decide)⟩
  | back t =>
    obtain ⟨x, rfl⟩ : ∃ x, ws = [x] := List.length_eq_one_iff.mp hl
    have := tnd_ok (hw x List.mem_cons_self)
    exact ⟨this.1, Nat.le_trans this.2 (by decide)⟩
  | again k t =>
    obtain ⟨x, rfl⟩ : ∃ x, ws = [x] := List.length_eq_one_iff.mp hl
    have hx := hw x List.mem_cons_self
    have := reps_ok hx k
    refine ⟨this.1, ?_⟩
    show (reps k x).length ≤ 10000
    rw [this.2]
    have := Nat.mul_le_mul ho.1 hx.2
    omega
  | thn a b =>
    obtain ⟨x, y, rfl⟩ : ∃ x y, ws = [x, y] := len_two hl
    have hx := hw x List.mem_cons_self
    have hy := hw y (List.mem_cons_of_mem _ List.mem_cons_self)
    refine ⟨fun c hc => ?_, ?_⟩
    · rcases List.mem_append.mp (show c ∈ x ++ y from hc) with z | z
      · exact hx.1 c z
      · exact hy.1 c z
    · show (x ++ y).length ≤ 10000
      have := hx.2
      have := hy.2
      rw [List.length_append]
      omega
  | fr c a b =>
    obtain ⟨x, y, rfl⟩ : ∃ x y, ws = [x, y] := len_two hl
    have hx := hw x List.mem_cons_self
    have hy := hw y (List.mem_cons_of_mem _ List.mem_cons_self)
    have := subw_ok (c := c) hy hx.1
    refine ⟨this.1, ?_⟩
    show (subw c y x).length ≤ 10000
    have h1 := this.2
    have h2 := hx.2
    omega
theorem capred {l x : List Nat} (hl : ∀ c ∈ l, Lt c) (h : cap (red l) = some x) : wOk x := by
  obtain ⟨rfl, hz⟩ := cap_some h
  exact ⟨red_lt hl, hz⟩
theorem val_ok {kvs : List (List Nat × List Nat)} : ∀ (t : Tm) {x : List Nat}, TmOk t → KnOk kvs t → val kvs t = some x → wOk x
  | .walk w, x, ho, hk, h => capred ho.1 h
  | .name s, x, ho, hk, h => capred (kn_ok hk.all s).1 h
  | .back t, x, ho, hk, h => by
    have h' : ((val kvs t).bind fun x => cap (red (tnd x))) = some x := h
    cases e : val kvs t with
    | none => rw [e] at h'; cases h'
    | some y => rw [e] at h'; exact capred (tnd_ok (val_ok t ho (hk.sub (List.mem_singleton.mpr rfl)) e)).1 h'
  | .again k t, x, ho, hk, h => by
    have h' : ((val kvs t).bind fun x => cap (red (reps k x))) = some x := h
    cases e : val kvs t with
    | none => rw [e] at h'; cases h'
    | some y => rw [e] at h'; exact capred (reps_ok (val_ok t ho.2 (hk.sub (List.mem_singleton.mpr rfl)) e) k).1 h'
  | .thn a b, x, ho, hk, h => by
    have h' : ((val kvs a).bind fun x => (val kvs b).bind fun y => cap (red (x ++ y))) = some x := h
    cases e : val kvs a with
    | none => rw [e] at h'; cases h'
    | some y =>
      rw [e] at h'
      cases e2 : val kvs b with
      | none => rw [e2] at h'; cases h'
      | some z =>
        rw [e2] at h'
        have h1 := val_ok a ho.1 (hk.sub List.mem_cons_self) e
        have h2 := val_ok b ho.2 (hk.sub (List.mem_cons_of_mem _ List.mem_cons_self)) e2
        exact capred (fun c hc => (List.mem_append.mp hc).elim (h1.1 c) (h2.1 c)) h'
  | .fr c a b, x, ho, hk, h => by
    have h' : ((val kvs a).bind fun x => (val kvs b).bind fun y => cap (red (subw c y x))) = some x := h
    cases e : val kvs a with
    | none => rw [e] at h'; cases h'
    | some y =>
      rw [e] at h'
      cases e2 : val kvs b with
      | none => rw [e2] at h'; cases h'
      | some z =>
        rw [e2] at h'
        have h1 := val_ok a ho.2.1 (hk.sub List.mem_cons_self) e
        have h2 := val_ok b ho.2.2 (hk.sub (List.mem_cons_of_mem _ List.mem_cons_self)) e2
        exact capred (subw_ok h2 h1.1).1 h'
theorem valW {s : List Nat} : ∀ {kvs : List (List Nat × List Nat)}, (kvs.lookup s).isSome = true → valV (kvW kvs) (kS s) = some (.str (S (kn kvs s)))
  | [], h => by cases h
  | (a, b) :: r, h => by
    show valV ((kS a, V.str (S b)) :: kvW r) (kS s) = _
    unfold kn
    rw [List.lookup_cons] at h ⊢
    cases e : s == a with
    | true =>
      have : s = a := by simpa using e
      subst this
      rw [valV_pos rfl]
      rfl
    | false =>
      rw [e] at h
      have : s ≠ a := by simpa using e
      rw [valV_neg fun q => this (kS_inj q).symm]
      exact valW h
def sp_Lvalue (_ : PySem.W.Frag) (n : Nat) : Sp := fun vs H Q _ => ∃ (a d : Addr) (t : Tm) (kvs : List (List Nat × List Nat)), vs = [.ref a, .ref d] ∧ TmAt H a t ∧ TmOk t ∧ dep t ≤ n ∧ n ≤ 10 ∧ H d = some (.dK (kvW kvs)) ∧ KnOk kvs t ∧
  ∀ H', Same H H' → Q (match val kvs t with | some x => .str (S x) | none => .non) H'
theorem len_Lvalue {K : PySem.W.Frag} {n : Nat} {vs : List V} {H : Hp} {Q : VK} {E : XK} (h : sp_Lvalue K n vs H Q E) : vs.length = 2 := by obtain ⟨_, _, _, _, rfl, _⟩ := h; rfl
theorem nev_Lvalue {K : PySem.W.Frag} {vs : List V} {H : Hp} {Q : VK} {E : XK} (h : sp_Lvalue K 0 vs H Q E) : False := by obtain ⟨_, _, t, _, _, _, _, h, _⟩ := h; have := dep_pos t; omega
/-- row by row: the words, or the first name that is too long -/
def runP : List (List Nat × List Nat) → List (List Nat × Tm) → Sum (List Nat) (List (List Nat × List Nat))
  | kvs, [] => .inr kvs
  | kvs, (nm, t) :: r => match val kvs t with
    | none => .inl nm
    | some x => runP (kvs ++ [(nm, x)]) r
def rwt (ks : List Rw) : List (List Nat × Tm) := ks.map fun k => (k.nm, k.t)
structure PgOk (H : Hp) (p : Addr) (ks : List Rw) : Prop where
  at_ : ProgAt H p ks
  ok : ∀ k ∈ ks, TmOk k.t
  nd : (nmk ks).Nodup
  let_ : ∀ (i : Nat) (k : Rw), ks[i]? = some k → ∀ s ∈ nms k.t, s ∈ nmk (ks.take i)
theorem PgOk.ts {H H' : Hp} {p : Addr} {ks : List Rw} (h : PgOk H p ks) (s : TSame H H') : PgOk H' p ks := ⟨h.at_.ts s, h.ok, h.nd, h.let_⟩
theorem runP_step (ks : List Rw) (i : Nat) (k : Rw) (kvs : List (List Nat × List Nat)) (h : ks[i]? = some k) : runP kvs (rwt (ks.drop i)) = match val kvs k.t with | none => .inl k.nm | some x => runP (kvs ++ [(k.nm, x)]) (rwt (ks.drop (i + 1))) := by
  have hi := (List.getElem?_eq_some_iff.mp h)
  rw [List.drop_eq_getElem_cons hi.1, hi.2]
  rfl
def sp_worked (_ : PySem.W.Frag) (c : Addr) : Sp := fun vs H Q E => ∃ (p : Addr) (ks : List Rw), vs = [.ref p] ∧ PgOk H p ks ∧
  (∀ kvs, runP [] (rwt ks) = .inr kvs → ∀ q H', H q = none → H' q = some (.lst (txs (kvs.map (·.2)))) → Same H H' → Q (.ref q) H') ∧
  (∀ nm, runP [] (rwt ks) = .inl nm → ∀ e H', H' e = some (xdO e [("name", .str (S nm))]) → Same H H' → E (.ref c) (some e) H')
theorem len_worked {K : PySem.W.Frag} {c : Addr} {vs : List V} {H : Hp} {Q : VK} {E : XK} (h : sp_worked K c vs H Q E) : vs.length = 1 := by obtain ⟨_, _, rfl, _⟩ := h; rfl
theorem kv_has {s : List Nat} : ∀ {kvs : List (List Nat × List Nat)}, s ∈ kvs.map (·.1) → (kvs.lookup s).isSome = true
  | (a, b) :: r, h => by
    rw [List.lookup_cons]
    cases e : s == a with
    | true => rfl
    | false =>
      have : s ≠ a := by simpa using e
      rcases List.mem_cons.mp h with z | z
      · exact absurd z this
      · exact kv_has z
theorem valW_none {s : List Nat} : ∀ {kvs : List (List Nat × List Nat)}, s ∉ kvs.map (·.1) → valV (kvW kvs) (kS s) = none
  | [], _ => rfl
  | (a, b) :: r, h => by
    show valV ((kS a, V.str (S b)) :: kvW r) (kS s) = _
    rw [valV_neg fun q => h (by rw [kS_inj q]; exact List.mem_cons_self)]
    exact valW_none fun z => h (List.mem_cons_of_mem _ z)
theorem kvW_vals (kvs : List (List Nat × List Nat)) : (kvW kvs).map (·.2) = txs (kvs.map (·.2)) := by unfold kvW txs; rw [List.map_map, List.map_map]; rfl
theorem kvW_snoc (kvs : List (List Nat × List Nat)) (s x : List Nat) : kvW kvs ++ [(kS s, V.str (S x))] = kvW (kvs ++ [(s, x)]) := by unfold kvW; rw [List.map_append]; rfl
theorem nm_new {ks : List Rw} {i : Nat} {k : Rw} (h : ks[i]? = some k) (nd : (nmk ks).Nodup) : k.nm ∉ nmk (ks.take i) := fun z => by
  have hi := List.getElem?_eq_some_iff.mp h
  have e : nmk ks = nmk (ks.take i) ++ k.nm :: nmk (ks.drop (i + 1)) := by
    conv => lhs; rw [← List.take_append_drop i ks, List.drop_eq_getElem_cons hi.1, hi.2]
    unfold nmk
    rw [List.map_append]
    rfl
  rw [e] at nd
  exact (List.nodup_append.mp nd).2.2 _ z _ List.mem_cons_self rfl
def sp_Lnames (_ : PySem.W.Frag) : Sp := fun vs H Q _ => ∃ (b : Addr) (m : Nat), vs = [.ref b, .int m] ∧ BoxAt H b ∧ m ≤ 12 ∧ ∀ (q : Addr) (ns : List (List Nat)) H', H q = none → q ≠ b → H' q = some (.lst (txs ns)) → ns.length = m → (∀ s ∈ ns, NmOk s) → ns.Nodup → BoxAt H' b → SameB b H H' → Q (.ref q) H'
theorem len_Lnames {K : PySem.W.Frag} {vs : List V} {H : Hp} {Q : VK} {E : XK} (h : sp_Lnames K vs H Q E) : vs.length = 2 := by obtain ⟨a, t, rfl, _⟩ := h; rfl
def wLong : List Nat := [108, 111, 110, 103]
def sp_Ltold (_ : PySem.W.Frag) : Sp := fun vs H Q _ => ∃ (p : Addr) (ks : List Rw), vs = [.ref p] ∧ PgOk H p ks ∧
  (∀ kvs, runP [] (rwt ks) = .inr kvs → ∀ q H', H q = none → H' q = some (.lst (txs (kvs.map (·.2)))) → Same H H' → Q (.ref q) H') ∧
  (∀ nm, runP [] (rwt ks) = .inl nm → ∀ q H', H' q = some (.tup [.str (S wLong), .str (S nm)]) → Same H H' → Q (.ref q) H')
theorem len_Ltold {K : PySem.W.Frag} {vs : List V} {H : Hp} {Q : VK} {E : XK} (h : sp_Ltold K vs H Q E) : vs.length = 1 := by obtain ⟨_, _, rfl, _⟩ := h; rfl
theorem valV_snoc {k : Key} {v : V} : ∀ {kvs : List (Key × V)}, valV kvs k = none → valV (kvs ++ [(k, v)]) k = some v
  | [], _ => valV_pos rfl
  | p :: r, h => by
    by_cases z : p.1 = k
    · rw [valV_pos z] at h; cases h
    · rw [valV_neg z] at h
      show valV (p :: (r ++ [(k, v)])) k = _
      rw [valV_neg z]
      exact valV_snoc h
theorem lookup_of_mem {a b : List Nat} : ∀ {kvs : List (List Nat × List Nat)}, (kvs.map (·.1)).Nodup → (a, b) ∈ kvs → kvs.lookup a = some b
  | (c, e) :: r, nd, h => by
    rw [List.map_cons, List.nodup_cons] at nd
    rw [List.lookup_cons]
    rcases List.mem_cons.mp h with z | z
    · cases z; simp
    · have hne : a ≠ c := fun y => nd.1 (by show c ∈ r.map (·.1); rw [← y]; exact List.mem_map.mpr ⟨(a, b), z, rfl⟩)
      rw [show (a == c) = false by simpa using hne]
      exact lookup_of_mem nd.2 z
theorem kn_map {kvs : List (List Nat × List Nat)} (nd : (kvs.map (·.1)).Nodup) : (kvs.map (·.1)).map (kn kvs) = kvs.map (·.2) := by
  rw [List.map_map]
  refine List.map_congr_left fun p hp => ?_
  show (kvs.lookup p.1).getD [] = p.2
  rw [lookup_of_mem nd (show (p.1, p.2) ∈ kvs from hp)]
  rfl
/-- a part's value, or None -/
def vV : Option (List Nat) → V
  | some x => .str (S x)
  | none => .non
def vvs (kvs : List (List Nat × List Nat)) (ts : List Tm) : List V := ts.map fun t => vV (val kvs t)
theorem vvs_snoc {kvs : List (List Nat × List Nat)} {ts : List Tm} {k : Nat} {u : Tm} (h : ts[k]? = some u) : vvs kvs (ts.take (k + 1)) = vvs kvs (ts.take k) ++ [vV (val kvs u)] := by
  rw [← take_snoc h]; unfold vvs; rw [List.map_append]; rfl
theorem vvs_some {kvs : List (List Nat × List Nat)} : ∀ {ts : List Tm} {ws : List (List Nat)}, vals kvs ts = some ws → vvs kvs ts = txs ws
  | [], ws, h => by cases h; rfl
  | u :: ts, ws, h => by
    have h' : ((val kvs u).bind fun x => (vals kvs ts).map fun xs => x :: xs) = some ws := h
    cases e : val kvs u with
    | none => rw [e] at h'; cases h'
    | some y =>
      rw [e] at h'
      cases e2 : vals kvs ts with
      | none => rw [e2] at h'; cases h'
      | some ys =>
        rw [e2] at h'
        cases h'
        show vV (val kvs u) :: vvs kvs ts = V.str (S y) :: txs ys
        rw [e, vvs_some e2]
        rfl
theorem vvs_none {kvs : List (List Nat × List Nat)} : ∀ {ts : List Tm}, vals kvs ts = none → inV .non (vvs kvs ts) = true
  | [], h => by cases h
  | u :: ts, h => by
    have h' : ((val kvs u).bind fun x => (vals kvs ts).map fun xs => x :: xs) = none := h
    show (eqV (vV (val kvs u)) .non || inV .non (vvs kvs ts)) = true
    cases e : val kvs u with
    | none => rfl
    | some y =>
      rw [e] at h'
      cases e2 : vals kvs ts with
      | none => rw [vvs_none e2, Bool.or_true]
      | some ys => rw [e2] at h'; cases h'
theorem txs_noNon : ∀ ws : List (List Nat), inV .non (txs ws) = false
  | [] => rfl
  | x :: ws => by show (eqV (V.str (S x)) .non || inV .non (txs ws)) = false; rw [txs_noNon ws]; rfl
theorem vvs_flat (kvs : List (List Nat × List Nat)) : ∀ ts : List Tm, (vvs kvs ts).all flatV = true
  | [] => rfl
  | u :: ts => by show (flatV (vV (val kvs u)) && (vvs kvs ts).all flatV) = true; rw [vvs_flat kvs ts]; cases val kvs u <;> rfl
theorem val_vV (o : Option (List Nat)) : (match o with | some x => V.str (S x) | none => V.non) = vV o := by cases o <;> rfl
/-- the words, each turned, sign by sign -/
def BkAt (H : Hp) (bs : List Addr) (ws : List (List Nat)) : Prop := ∀ (j : Nat) (b : Addr) (x : List Nat), bs[j]? = some b → ws[j]? = some x → H b = some (.lst (txs (ones (tnd x))))
theorem BkAt.same {H H' : Hp} {bs : List Addr} {ws : List (List Nat)} (h : BkAt H bs ws) (s : Same H H') : BkAt H' bs ws := fun j b x h1 h2 => s _ _ (h j b x h1 h2)
theorem BkAt.snoc {H : Hp} {bs : List Addr} {ws : List (List Nat)} {i : Nat} {D : Addr} {x : List Nat} (h : BkAt H bs ws) (hl : bs.length = i) (hx : ws[i]? = some x) (hD : H D = some (.lst (txs (ones (tnd x))))) : BkAt H (bs ++ [D]) ws := fun j b y h1 h2 => by
  by_cases z : j < bs.length
  · rw [List.getElem?_append_left z] at h1; exact h j b y h1 h2
  · have hj : j = i := by
      have := (List.getElem?_eq_some_iff.mp h1).1
      rw [List.length_append, List.length_singleton] at this
      omega
    subst hj
    rw [List.getElem?_append_right (by omega), hl, Nat.sub_self] at h1
    rw [hx] at h2
    cases h2
    cases h1
    exact hD
theorem ones_flat (l : List Nat) : (ones l).flatten = l := flat1 l
theorem ones_sum (l : List Nat) : ((ones l).map List.length).sum = l.length := sum1 l
theorem rfs_snoc (as : List Addr) (b : Addr) : rfs as ++ [V.ref b] = rfs (as ++ [b]) := by unfold rfs; rw [List.map_append]; rfl
/-- a program as a list of its rows -/
structure PlOk (H : Hp) (p : Addr) (ks : List Rw) : Prop where
  tp : H p = some (.lst (rwv ks))
  rw : ∀ k ∈ ks, RwOk H k
  fw : ks.length ≤ 8
  ok : ∀ k ∈ ks, TmOk k.t
  nd : (nmk ks).Nodup
  let_ : ∀ (i : Nat) (k : Rw), ks[i]? = some k → ∀ s ∈ nms k.t, s ∈ nmk (ks.take i)
theorem PlOk.same {H H' : Hp} {p : Addr} {ks : List Rw} (h : PlOk H p ks) (s : Same H H') : PlOk H' p ks := ⟨s _ _ h.tp, fun k hk => (h.rw k hk).ts (TSame.of s), h.fw, h.ok, h.nd, h.let_⟩
/-- put into a tuple -/
theorem PlOk.tup {H H' : Hp} {p q : Addr} {ks : List Rw} (h : PlOk H p ks) (s : Same H H') (hq : H' q = some (.tup (rwv ks))) : PgOk H' q ks := ⟨⟨hq, fun k hk => (h.rw k hk).ts (TSame.of s), h.fw⟩, h.ok, h.nd, h.let_⟩
def sp_Ldue (_ : PySem.W.Frag) : Sp := fun vs H Q _ => ∃ (p : Addr) (ks : List Rw), vs = [.ref p] ∧ PlOk H p ks ∧
  (∀ kvs, runP [] (rwt ks) = .inr kvs → ∀ q H', H' q = some (.lst (txs (kvs.map (·.2)))) → Same H H' → Q (.ref q) H') ∧
  (∀ nm, runP [] (rwt ks) = .inl nm → ∀ q H', H' q = some (.tup [.str (S wLong), .str (S nm)]) → Same H H' → Q (.ref q) H')
theorem len_Ldue {K : PySem.W.Frag} {vs : List V} {H : Hp} {Q : VK} {E : XK} (h : sp_Ldue K vs H Q E) : vs.length = 1 := by obtain ⟨_, _, rfl, _⟩ := h; rfl
def sp_Lgreat (_ : PySem.W.Frag) : Sp := fun vs H Q _ => ∃ (b kp : Addr) (known : List (List Nat)) (c : Nat), vs = [.ref b, .ref kp, .str (S [c])] ∧ BoxAt H b ∧ kp ≠ b ∧ H kp = some (.lst (txs known)) ∧ known ≠ [] ∧ known.length ≤ 12 ∧ c ∈ smalls ∧
  ∀ (a : Addr) (t : Tm) H', TmAt H' a t → dep t ≤ 2 → TmOk t → (∀ s ∈ nms t, s ∈ known) → BoxAt H' b → SameB b H H' → Q (.ref a) H'
theorem len_Lgreat {K : PySem.W.Frag} {vs : List V} {H : Hp} {Q : VK} {E : XK} (h : sp_Lgreat K vs H Q E) : vs.length = 3 := by obtain ⟨_, _, _, _, rfl, _⟩ := h; rfl
def sp_Lrow (_ : PySem.W.Frag) : Sp := fun vs H Q _ => ∃ (b kp : Addr) (known : List (List Nat)) (c : Nat), vs = [.ref b, .ref kp, .str (S [c])] ∧ BoxAt H b ∧ kp ≠ b ∧ H kp = some (.lst (txs known)) ∧ known ≠ [] ∧ known.length ≤ 12 ∧ c ∈ smalls ∧
  ∀ (a : Addr) (t : Tm) H', TmAt H' a t → dep t ≤ 4 → TmOk t → (∀ s ∈ nms t, s ∈ known) → BoxAt H' b → SameB b H H' → Q (.ref a) H'
theorem len_Lrow {K : PySem.W.Frag} {vs : List V} {H : Hp} {Q : VK} {E : XK} (h : sp_Lrow K vs H Q E) : vs.length = 3 := by obtain ⟨_, _, _, _, rfl, _⟩ := h; rfl
/-- a letter, so many times -/
theorem reps_one {c : Nat} (hc : c ∈ smalls) {m : Nat} (hm : m ≤ 12) : TmOk (.walk (reps m [c])) := by
  have h : wOk [c] := ⟨fun d hd => by rw [List.mem_singleton.mp hd]; exact .inl hc, by simp⟩
  have := reps_ok h m
  exact ⟨this.1, by rw [this.2]; simpa using hm⟩
theorem val_low {kvs : List (List Nat × List Nat)} (hk : ∀ p ∈ kvs, wOk p.2) : ∀ (t : Tm) {x : List Nat}, TmOk t → val kvs t = some x → wOk x
  | .walk w, x, ho, h => capred ho.1 h
  | .name s, x, ho, h => capred (kn_ok hk s).1 h
  | .back t, x, ho, h => by
    have h' : ((val kvs t).bind fun x => cap (red (tnd x))) = some x := h
    cases e : val kvs t with
    | none => rw [e] at h'; cases h'
    | some y => rw [e] at h'; exact capred (tnd_ok (val_low hk t ho e)).1 h'
  | .again k t, x, ho, h => by
    have h' : ((val kvs t).bind fun x => cap (red (reps k x))) = some x := h
    cases e : val kvs t with
    | none => rw [e] at h'; cases h'
    | some y => rw [e] at h'; exact capred (reps_ok (val_low hk t ho.2 e) k).1 h'
  | .thn a b, x, ho, h => by
    have h' : ((val kvs a).bind fun x => (val kvs b).bind fun y => cap (red (x ++ y))) = some x := h
    cases e : val kvs a with
    | none => rw [e] at h'; cases h'
    | some y =>
      rw [e] at h'
      cases e2 : val kvs b with
      | none => rw [e2] at h'; cases h'
      | some z =>
        rw [e2] at h'
        have h1 := val_low hk a ho.1 e
        have h2 := val_low hk b ho.2 e2
        exact capred (fun c hc => (List.mem_append.mp hc).elim (h1.1 c) (h2.1 c)) h'
  | .fr c a b, x, ho, h => by
    have h' : ((val kvs a).bind fun x => (val kvs b).bind fun y => cap (red (subw c y x))) = some x := h
    cases e : val kvs a with
    | none => rw [e] at h'; cases h'
    | some y =>
      rw [e] at h'
      cases e2 : val kvs b with
      | none => rw [e2] at h'; cases h'
      | some z =>
        rw [e2] at h'
        have h1 := val_low hk a ho.2.1 e
        have h2 := val_low hk b ho.2.2 e2
        exact capred (subw_ok h2 h1.1).1 h'
theorem runP_low : ∀ (r : List (List Nat × Tm)) (kvs : List (List Nat × List Nat)), (∀ x ∈ r, TmOk x.2) → (∀ p ∈ kvs, wOk p.2) → ∀ k', runP kvs r = .inr k' → ∀ p ∈ k', wOk p.2
  | [], kvs, _, hk, k', e => by cases e; exact hk
  | (nm, t) :: r, kvs, hr, hk, k', e => by
    have e' : (match val kvs t with | none => Sum.inl nm | some x => runP (kvs ++ [(nm, x)]) r) = Sum.inr k' := e
    cases hv : val kvs t with
    | none => rw [hv] at e'; cases e'
    | some x =>
      rw [hv] at e'
      refine runP_low r _ (fun y hy => hr y (List.mem_cons_of_mem _ hy)) (fun p hp => ?_) k' e'
      rcases List.mem_append.mp hp with z | z
      · exact hk p z
      · rw [List.mem_singleton.mp z]; exact val_low hk t (hr _ List.mem_cons_self) hv
theorem runP_nm : ∀ (r : List (List Nat × Tm)) (kvs : List (List Nat × List Nat)) (n : List Nat), runP kvs r = .inl n → n ∈ r.map (·.1)
  | [], kvs, n, e => by cases e
  | (nm, t) :: r, kvs, n, e => by
    have e' : (match val kvs t with | none => Sum.inl nm | some x => runP (kvs ++ [(nm, x)]) r) = Sum.inl n := e
    cases hv : val kvs t with
    | none => rw [hv] at e'; cases e'; exact List.mem_cons_self
    | some x => rw [hv] at e'; exact List.mem_cons_of_mem _ (runP_nm r _ n e')
theorem PgOk.low {H : Hp} {p : Addr} {ks : List Rw} (h : PgOk H p ks) {kvs : List (List Nat × List Nat)} (e : runP [] (rwt ks) = .inr kvs) : ∀ l ∈ kvs.map (·.2), ∀ c ∈ l, c < 128 := fun l hl c hc => by
  obtain ⟨q, hq, rfl⟩ := List.mem_map.mp hl
  refine ((runP_low (rwt ks) [] (fun x hx => ?_) (by simp) kvs e q hq).1 c hc).lt
  unfold rwt at hx
  obtain ⟨k, hk, rfl⟩ := List.mem_map.mp hx
  exact h.ok k hk
theorem PgOk.nmlow {H : Hp} {p : Addr} {ks : List Rw} (h : PgOk H p ks) {nm : List Nat} (e : runP [] (rwt ks) = .inl nm) : ∀ c ∈ nm, c < 128 := by
  have := runP_nm _ _ _ e
  unfold rwt at this
  rw [List.map_map] at this
  obtain ⟨k, hk, rfl⟩ := List.mem_map.mp this
  exact (h.at_.rw k hk).nl
theorem wLong_low : ∀ c ∈ wLong, c < 128 := by decide
local macro_rules | `(tactic| walk_at "rd") => `(tactic| repeat (first
  | refine ⟨_, rfl, ?_⟩
  | refine ⟨_, _, rfl, rfl, ?_⟩
  | refine ⟨rfl, ?_⟩
  | refine And.intro (by first | decide | omega | assumption | exact Nat.le_of_ble_eq_true rfl | exact .inl ⟨by decide, by decide⟩ | exact .inr ⟨by decide, by decide⟩ | exact ⟨by decide, by decide⟩ | exact ⟨by omega, by omega⟩) ?_))
local macro_rules | `(tactic| walk_at "wk") => `(tactic| repeat (first
  | refine ⟨_, rfl, ?_⟩
  | refine ⟨_, _, rfl, rfl, ?_⟩
  | refine ⟨_, _, _, rfl, rfl, by first | assumption | omega, by assumption, ?_⟩
  | refine ⟨rfl, ?_⟩
  | refine And.intro (by first | decide | omega | assumption | exact Nat.le_of_ble_eq_true rfl | exact .inl ⟨by decide, by decide⟩ | exact .inr ⟨by decide, by decide⟩ | exact ⟨by decide, by decide⟩ | exact ⟨by omega, by omega⟩) ?_))
local macro_rules | `(tactic| walk_at "bd") => `(tactic| first | assumption | exact len1 _ | exact apl (by walk_at "bd") (by walk_at "bd"))
local macro_rules | `(tactic| walk_at "ln") => `(tactic| repeat (first
  | refine ⟨_, rfl, ?_⟩
  | refine ⟨_, _, rfl, rfl, ?_⟩
  | refine ⟨rfl, ?_⟩
  | refine And.intro (by first | assumption | decide | exact szl (by walk_at "bd") (by walk_at "bd") (by decide) | omega | (simp only [List.length_append, List.length_cons, List.length_nil, List.length_map]; omega)) ?_))
def top (i : Nat) : Stmt := PySem.Challenge.pw_mustmeet_k59_rows_too_long.main.body.getD i (.Pass ⟨0, 0, 0, 0⟩)
abbrev s_contrary : Stmt := top 8
abbrev s_turned : Stmt := top 9
abbrev s_shortened : Stmt := top 11
abbrev s_terms_in : Stmt := top 14
abbrev s_put_for : Stmt := top 15
abbrev s_made_of : Stmt := top 16
abbrev s_word_of : Stmt := top 17
abbrev s_worked : Stmt := top 18
abbrev s_Lbox : Stmt := top 20
abbrev s_Ltake : Stmt := top 21
abbrev s_Lother : Stmt := top 22
abbrev s_Lnames : Stmt := top 23
abbrev s_Lshortened : Stmt := top 24
abbrev s_Lvalue : Stmt := top 25
abbrev s_Ldue : Stmt := top 26
abbrev s_Ltold : Stmt := top 27
abbrev s_Lgreat : Stmt := top 28
abbrev s_Lrow : Stmt := top 29
abbrev s_law : Stmt := top 30
structure FunAt (K : PySem.W.Frag) (mg : Str → Option Value) (x : Str) (st : Stmt) (ps : List Str) (f : Addr) (fd : FuncData) : Prop where
  fn : Fun K x x st f fd
  mg : mg x = some (.ref f)
  bd : Binds K fd ps []
abbrev s_i_TooLong : Stmt := inC (top 5) 0
structure Txt (K : PySem.W.Frag) (mg : Str → Option Value) (f0 f1 f2 f3 f4 f5 f6 f7 f8 f9 f10 f11 f12 f13 f14 f15 f16 f17 f18 c_TooLong c_MeetError c_NoName c_NoRow c_NoText c_Twice g_TooLong : Addr) (d0 d1 d2 d3 d4 d5 d6 d7 d8 d9 d10 d11 d12 d13 d14 d15 d16 d17 d18 e_TooLong : FuncData) : Prop where
  F0 : FunAt K mg "contrary" s_contrary ["letter"] f0 d0
  F1 : FunAt K mg "turned" s_turned ["word"] f1 d1
  F2 : FunAt K mg "shortened" s_shortened ["word"] f2 d2
  F3 : FunAt K mg "terms_in" s_terms_in ["term"] f3 d3
  F4 : FunAt K mg "put_for" s_put_for ["letter", "word", "other"] f4 d4
  F5 : FunAt K mg "made_of" s_made_of ["term", "words", "known"] f5 d5
  F6 : FunAt K mg "word_of" s_word_of ["name", "term", "known"] f6 d6
  F7 : FunAt K mg "worked" s_worked ["program"] f7 d7
  F8 : FunAt K mg "_law_box" s_Lbox ["_law_script", "_law_k"] f8 d8
  F9 : FunAt K mg "_law_take" s_Ltake ["_law_box_here", "_law_many"] f9 d9
  F10 : FunAt K mg "_law_other" s_Lother ["_law_letter"] f10 d10
  F11 : FunAt K mg "_law_names" s_Lnames ["_law_box_here", "_law_many"] f11 d11
  F12 : FunAt K mg "_law_shortened" s_Lshortened ["_law_word"] f12 d12
  F13 : FunAt K mg "_law_value" s_Lvalue ["_law_term", "_law_known"] f13 d13
  F14 : FunAt K mg "_law_due" s_Ldue ["_law_program"] f14 d14
  F15 : FunAt K mg "_law_told" s_Ltold ["_law_program"] f15 d15
  F16 : FunAt K mg "_law_great" s_Lgreat ["_law_box_here", "_law_known", "_law_letter"] f16 d16
  F17 : FunAt K mg "_law_row" s_Lrow ["_law_box_here", "_law_known", "_law_letter"] f17 d17
  F18 : FunAt K mg "law" s_law ["_law_script"] f18 d18
  m_TooLong : mg "TooLong" = some (.ref c_TooLong)
  m_MeetError : mg "MeetError" = some (.ref c_MeetError)
  m_NoName : mg "NoName" = some (.ref c_NoName)
  m_NoRow : mg "NoRow" = some (.ref c_NoRow)
  m_NoText : mg "NoText" = some (.ref c_NoText)
  m_Twice : mg "Twice" = some (.ref c_Twice)
  x_TooLong : XC K c_TooLong
  r_TooLong : PySem.W.mroIn K c_TooLong (.ref c_MeetError) = some true
  x_MeetError : XC K c_MeetError
  i_TooLong : XInit K c_TooLong g_TooLong
  I_TooLong : Fun K "__init__" "TooLong.__init__" s_i_TooLong g_TooLong e_TooLong
  b_TooLong : Binds K e_TooLong ["self", "name"] []
  n_TooLong_name : NoAttr K c_TooLong "name"
  xb : XBase K c_MeetError
  k_TooLong_TooLong : PySem.W.kitOne K (.ref c_TooLong) (.ref c_TooLong) = some true
  k_TooLong_NoName : PySem.W.kitOne K (.ref c_TooLong) (.ref c_NoName) = some false
  k_TooLong_NoRow : PySem.W.kitOne K (.ref c_TooLong) (.ref c_NoRow) = some false
  k_TooLong_NoText : PySem.W.kitOne K (.ref c_TooLong) (.ref c_NoText) = some false
  k_TooLong_Twice : PySem.W.kitOne K (.ref c_TooLong) (.ref c_Twice) = some false
  k_TooLong_ValueError : PySem.W.kitOne K (.ref c_TooLong) (.type "ValueError") = some true
  z_ValueError : mg "ValueError" = none
  z_int : mg "int" = none
  z_isinstance : mg "isinstance" = none
  z_len : mg "len" = none
  z_list : mg "list" = none
  z_max : mg "max" = none
  z_min : mg "min" = none
  z_range : mg "range" = none
  z_reversed : mg "reversed" = none
  z_tuple : mg "tuple" = none
  g_LONGEST : ∃ t, mg "LONGEST" = some (.int 60 t)
theorem sc_contrary : FnScope ["letter"] ["letter"] (defScope s_contrary) := ⟨rfl, rfl, rfl, by decide +kernel, rfl, by decide +kernel, by decide +kernel⟩
theorem sc_turned : FnScope ["word"] ["word"] (defScope s_turned) := ⟨rfl, rfl, rfl, by decide +kernel, rfl, by decide +kernel, by decide +kernel⟩
theorem sc_shortened : FnScope ["word", "kept", "letter"] ["word"] (defScope s_shortened) := ⟨rfl, rfl, rfl, by decide +kernel, rfl, by decide +kernel, by decide +kernel⟩
theorem sc_terms_in : FnScope ["term"] ["term"] (defScope s_terms_in) := ⟨rfl, rfl, rfl, by decide +kernel, rfl, by decide +kernel, by decide +kernel⟩
theorem sc_put_for : FnScope ["letter", "word", "other", "places"] ["letter", "word", "other"] (defScope s_put_for) := ⟨rfl, rfl, rfl, by decide +kernel, rfl, by decide +kernel, by decide +kernel⟩
theorem sc_made_of : FnScope ["term", "words", "known"] ["term", "words", "known"] (defScope s_made_of) := ⟨rfl, rfl, rfl, by decide +kernel, rfl, by decide +kernel, by decide +kernel⟩
theorem sc_word_of : FnScope ["name", "term", "known", "words", "word"] ["name", "term", "known"] (defScope s_word_of) := ⟨rfl, rfl, rfl, by decide +kernel, rfl, by decide +kernel, by decide +kernel⟩
theorem sc_worked : FnScope ["program", "known", "name", "term"] ["program"] (defScope s_worked) := ⟨rfl, rfl, rfl, by decide +kernel, rfl, by decide +kernel, by decide +kernel⟩
theorem sc_Lbox : FnScope ["_law_script", "_law_k", "_law_cell", "_law_seed"] ["_law_script", "_law_k"] (defScope s_Lbox) := ⟨rfl, rfl, rfl, by decide +kernel, rfl, by decide +kernel, by decide +kernel⟩
theorem sc_Ltake : FnScope ["_law_box_here", "_law_many", "_law_digit", "_law_one"] ["_law_box_here", "_law_many"] (defScope s_Ltake) := ⟨rfl, rfl, rfl, by decide +kernel, rfl, by decide +kernel, by decide +kernel⟩
theorem sc_Lother : FnScope ["_law_letter", "_law_small", "_law_capital"] ["_law_letter"] (defScope s_Lother) := ⟨rfl, rfl, rfl, by decide +kernel, rfl, by decide +kernel, by decide +kernel⟩
theorem sc_Lnames : FnScope ["_law_box_here", "_law_many", "_law_letters", "_law_stem", "_law_found", "_law_form", "_law_name", "_law_at"] ["_law_box_here", "_law_many"] (defScope s_Lnames) := ⟨rfl, rfl, rfl, by decide +kernel, rfl, by decide +kernel, by decide +kernel⟩
theorem sc_Lshortened : FnScope ["_law_word", "_law_found", "_law_letter"] ["_law_word"] (defScope s_Lshortened) := ⟨rfl, rfl, rfl, by decide +kernel, rfl, by decide +kernel, by decide +kernel⟩
theorem sc_Lvalue : FnScope ["_law_term", "_law_known", "_law_words", "_law_back", "_law_found", "_law_swap"] ["_law_term", "_law_known"] (defScope s_Lvalue) := ⟨rfl, rfl, rfl, by decide +kernel, rfl, by decide +kernel, by decide +kernel⟩
theorem sc_Ldue : FnScope ["_law_program", "_law_known", "_law_name", "_law_term"] ["_law_program"] (defScope s_Ldue) := ⟨rfl, rfl, rfl, by decide +kernel, rfl, by decide +kernel, by decide +kernel⟩
theorem sc_Ltold : FnScope ["_law_program", "_law_found", "e"] ["_law_program"] (defScope s_Ltold) := ⟨rfl, rfl, rfl, by decide +kernel, rfl, by decide +kernel, by decide +kernel⟩
theorem sc_Lgreat : FnScope ["_law_box_here", "_law_known", "_law_letter", "_law_name", "_law_form"] ["_law_box_here", "_law_known", "_law_letter"] (defScope s_Lgreat) := ⟨rfl, rfl, rfl, by decide +kernel, rfl, by decide +kernel, by decide +kernel⟩
theorem sc_Lrow : FnScope ["_law_box_here", "_law_known", "_law_letter", "_law_part", "_law_form"] ["_law_box_here", "_law_known", "_law_letter"] (defScope s_Lrow) := ⟨rfl, rfl, rfl, by decide +kernel, rfl, by decide +kernel, by decide +kernel⟩
theorem sc_law : FnScope ["_law_script", "_law_k", "_law_box_here", "_law_names_here", "_law_letter", "_law_program", "_law_j", "_law_found"] ["_law_script"] (defScope s_law) := ⟨rfl, rfl, rfl, by decide +kernel, rfl, by decide +kernel, by decide +kernel⟩
section
variable {P : Program} {w : World} {K : PySem.W.Frag} {mg : Str → Option Value} {base : Heap} {f0 f1 f2 f3 f4 f5 f6 f7 f8 f9 f10 f11 f12 f13 f14 f15 f16 f17 f18 c_TooLong c_MeetError c_NoName c_NoRow c_NoText c_Twice g_TooLong : Addr} {d0 d1 d2 d3 d4 d5 d6 d7 d8 d9 d10 d11 d12 d13 d14 d15 d16 d17 d18 e_TooLong : FuncData}
/-- names: 0 _law_letter, 1 _law_small, 2 _law_capital -/
theorem ok_Lother (T : Txt K mg f0 f1 f2 f3 f4 f5 f6 f7 f8 f9 f10 f11 f12 f13 f14 f15 f16 f17 f18 c_TooLong c_MeetError c_NoName c_NoRow c_NoText c_Twice g_TooLong d0 d1 d2 d3 d4 d5 d6 d7 d8 d9 d10 d11 d12 d13 d14 d15 d16 d17 d18 e_TooLong) : FnOk P w K mg base CX0 1 f10 d10 ["_law_letter"] (sp_Lother K) := by
  refine T.F10.fn.ok sc_Lother (fun vs H Q E h => len_Lother h) (fun cdv A outer s H vs Q E hr h => ?_)
  refine ⟨_, (pss_cons (ps_set (i := 1) sc_Lother.nd rfl (Or.inl rfl) (pe_S [97, 98, 99, 100, 101, 102, 103, 104, 105, 106, 107, 108, 109, 110, 111, 112, 113, 114, 115, 116, 117, 118, 119, 120, 121, 122] (by decide +kernel)))
      (pss_cons (ps_set (i := 2) sc_Lother.nd rfl (Or.inl rfl) (pe_S [65, 66, 67, 68, 69, 70, 71, 72, 73, 74, 75, 76, 77, 78, 79, 80, 81, 82, 83, 84, 85, 86, 87, 88, 89, 90] (by decide +kernel)))
      (pss_cons (ps_if (pt_cmpR op_inS (pv 0) (pv 1) (by with_unfolding_all rfl)) (pss_one (ps_ret (pe_ix ix_S (pv 2) (pe_bmK K rfl PySem.F.plainAttrs_str PySem.F.slot_str_index PySem.F.type_str_index mt_indexS (pv 1) (pa_cons (pv 0) pa_nil)) (fun _ _ => rfl)))) pss_nil)
      (pss_one (ps_ret (pe_ix ix_S (pv 1) (pe_bmK K rfl PySem.F.plainAttrs_str PySem.F.slot_str_index PySem.F.type_str_index mt_indexS (pv 2) (pa_cons (pv 0) pa_nil)) (fun _ _ => rfl))))))), ?_⟩
  obtain ⟨c, rfl, hc, q⟩ := h
  refine ⟨_, rfl, _, rfl, c, smalls, rfl, rfl, _, rfl, ite2 (fun e => ?_) (fun e => ?_)⟩
  · have hm : c ∈ smalls := of_decide_eq_true e
    exact ⟨_, rfl, _, rfl, rfl, _, rfl, smalls, c, rfl, rfl, hm, caps, _, ctr c, rfl, rfl, by decide, other_small c hm, q⟩
  · have hm : c ∈ caps := hc.resolve_left fun z => e (decide_eq_true z)
    exact ⟨_, rfl, _, rfl, rfl, _, rfl, caps, c, rfl, rfl, hm, smalls, _, ctr c, rfl, rfl, by decide, other_cap c hm, q⟩
/-- names: 0 _law_word, 1 _law_found, 2 _law_letter -/
theorem ok_Lshortened (T : Txt K mg f0 f1 f2 f3 f4 f5 f6 f7 f8 f9 f10 f11 f12 f13 f14 f15 f16 f17 f18 c_TooLong c_MeetError c_NoName c_NoRow c_NoText c_Twice g_TooLong d0 d1 d2 d3 d4 d5 d6 d7 d8 d9 d10 d11 d12 d13 d14 d15 d16 d17 d18 e_TooLong) : FnOk P w K mg base CX0 2 f12 d12 ["_law_word"] (sp_Lshortened K) := by
  have G_Lother := ok_Lother (P := P) (w := w) (base := base) T
  refine T.F12.fn.ok sc_Lshortened (fun vs H Q E h => len_Lshortened h) (fun cdv A outer s H vs Q E hr h => ?_)
  refine ⟨_, (pss_cons (ps_set (i := 1) sc_Lshortened.nd rfl (Or.inl rfl) (pe_lst pa_nil))
      (pss_cons (ps_for PassesOwn.never rfl (pi_str (pv 0)) (pg_name (i := 2) sc_Lshortened.nd rfl (Or.inl rfl)) (pss_one (ps_if (PW.pt (pw_and (pt_cmpR (op_neD K rfl hr) (pv 1) (pe_lst pa_nil) (nomark _)) (pw_and1 (pt_cmpR op_eqS (pe_ix (ix_listK K rfl) (pv 1) (pe_un un_neg pe_int) (fun _ _ => rfl)) (pe_call G_Lother (hr.mono (by decide)) rfl T.F10.mg T.F10.fn.kp T.F10.bd .nil pass0 (pa_cons (pv 2) pa_nil)) (nomark _))))) (pss_one (ps_expr (pe_bm0K K rfl PySem.F.plainAttrs_list PySem.F.slot_list_pop PySem.F.type_list_pop mt_pop (pv 1)))) (pss_one (ps_expr (pe_bmK K rfl PySem.F.plainAttrs_list PySem.F.slot_list_append PySem.F.type_list_append mt_append (pv 1) (pa_cons (pv 2) pa_nil)))))))
      (pss_one (ps_ret (pe_bmK K rfl PySem.F.plainAttrs_str PySem.F.slot_str_join PySem.F.type_str_join (mt_joinK K rfl) (pe_S [] (by decide +kernel)) (pa_cons (pv 1) pa_nil)))))), ?_⟩
  obtain ⟨l, rfl, hl, hz, q⟩ := h
  have hs : (100000 : Nat) < sizeLine := by decide
  walk_at "rd"
  intro p1 n1
  refine ⟨_, rfl, l, rfl, ?_⟩
  refine for_fix (xs := sgs l) (fun i σ H' => ∃ lv, σ = [some (.str (S l)), some (.ref p1), lv] ∧ H' p1 = some (.lst (sgs (red (l.take i)))) ∧ SameB p1 H H') ⟨none, rfl, upd_same, SameB.of (Same.upd n1)⟩ ?_ ?_
  · rintro i x σ H1 hx ⟨lv, rfl, hp, s1⟩
    obtain ⟨c, hc, rfl⟩ := sgs_get hx
    have hi : i < l.length := (List.getElem?_eq_some_iff.mp hc).1
    have h8 : c < 128 := (hl c (List.mem_of_getElem? hc)).lt
    have hrl : (red (l.take i)).length ≤ 10000 := Nat.le_trans (red_len _) (by rw [List.length_take]; omega)
    refine ⟨_, rfl, by show 0 ≤ sizeLine; decide, fun p2 n2 => ?_⟩
    have hp2 : upd H1 p2 (.lst []) p1 = some (.lst (sgs (red (l.take i)))) := Same.upd n2 _ _ hp
    have s2 : SameB p1 H (upd H1 p2 (.lst [])) := s1.trans (SameB.of (Same.upd n2))
    have hrt : ∀ c ∈ red (l.take i), c < 128 := fun c hc => (red_lt (fun c hc => hl c (List.mem_of_mem_take hc)) c hc).lt
    refine ⟨.list (tds (ones (red (l.take i)))), .list [], .lst (SqL.of (by rw [hp2, sgs_ones])) (rdds_txs _), .lst (SqL.of upd_same) .nil, ⟨lay_txs (ones_lt hrt), rfl⟩, by show PyData.depthAll (tds _) + 1 ≤ 60; rw [depth_txs]; decide, _, rfl, ?_⟩
    rw [eqv_nil]
    clear s1 hp
    generalize upd H1 p2 (.lst []) = H1 at hp2 s2 ⊢
    have hp := hp2
    have s1 := s2
    have fin : ∀ st, st = rstep (red (l.take i)) c → ∃ lv, [some (V.str (S l)), some (V.ref p1), some (V.str (S [c]))] = [some (V.str (S l)), some (.ref p1), lv] ∧ (upd H1 p1 (.lst (sgs st))) p1 = some (.lst (sgs (red (l.take (i + 1))))) ∧ SameB p1 H (upd H1 p1 (.lst (sgs st))) := fun st e =>
      ⟨_, rfl, by rw [upd_same, red_take hc, e], fun b o e z => by rw [upd_ne z]; exact s1 b o e z⟩
    clear hp2 s2
    rcases snoc_cases (red (l.take i)) with e | ⟨m, a, e⟩
    · rw [e] at hp ⊢
      refine iteN rfl ?_
      refine iteF ?_
      refine ⟨_, rfl, .inl ⟨rfl, _, SqL.of hp⟩, _, rfl, p1, _, _, rfl, rfl, hp, by rw [sgs_len]; exact (by decide : (0 : Nat) < sizeLine), ?_⟩
      rw [sgs_snoc]
      refine fin _ ?_
      rw [e]
      unfold rstep
      rw [if_neg (by simp)]
    · rw [e] at hp hrl ⊢
      have hml : m.length ≤ 10000 := by simp at hrl; omega
      rw [← sgs_snoc] at hp
      refine iteY (by unfold ones; simp) ?_
      refine ⟨_, rfl, _, rfl, p1, _, _, _, rfl, rfl, SqL.of hp, atI_last _ _, _, rfl, c, rfl, hl c (List.mem_of_getElem? hc), [a], [ctr c], rfl, rfl, _, rfl, ite2 (fun z => ?_) (fun z => ?_)⟩
      · have ea : a = ctr c := by simpa using of_decide_eq_true z
        refine ⟨_, rfl, .inl ⟨rfl, _, SqL.of hp⟩, p1, _, V.str (S [a]), rfl, rfl, hp, by simp, ?_⟩
        rw [List.dropLast_concat]
        refine fin _ ?_
        rw [e]
        unfold rstep
        rw [if_pos (by simp [ea]), List.dropLast_concat]
      · have ea : a ≠ ctr c := fun w => z (decide_eq_true (by rw [w]))
        refine ⟨_, rfl, .inl ⟨rfl, _, SqL.of hp⟩, _, rfl, p1, _, _, rfl, rfl, hp, by rw [List.length_append, sgs_len]; show m.length + 1 < sizeLine; omega, ?_⟩
        rw [sgs_snoc, sgs_snoc]
        refine fin _ ?_
        rw [e]
        unfold rstep
        rw [if_neg (by simpa using ea)]
  · rintro σ H1 ⟨lv, rfl, hp, s1⟩
    rw [sgs_take] at hp
    refine ⟨rfl, _, rfl, p1, (red l).map fun c => [c], rfl, rfl, SqL.of (by rw [← sgs_lists]; exact hp), ?_, ?_⟩
    · rw [sum1]
      have := red_len l
      omega
    · rw [flat1]
      exact q _ (fun b o e => s1 b o e (ne_of_none e n1))
/-- names: 0 letter -/
theorem ok_contrary (T : Txt K mg f0 f1 f2 f3 f4 f5 f6 f7 f8 f9 f10 f11 f12 f13 f14 f15 f16 f17 f18 c_TooLong c_MeetError c_NoName c_NoRow c_NoText c_Twice g_TooLong d0 d1 d2 d3 d4 d5 d6 d7 d8 d9 d10 d11 d12 d13 d14 d15 d16 d17 d18 e_TooLong) : FnOk P w K mg base CX0 1 f0 d0 ["letter"] (sp_contrary K) := by
  refine T.F0.fn.ok sc_contrary (fun vs H Q E h => len_contrary h) (fun cdv A outer s H vs Q E hr h => ?_)
  refine ⟨_, (pss_cons (ps_if (pt_val (pe_bm0K K rfl PySem.F.plainAttrs_str PySem.F.slot_str_islower PySem.F.type_str_islower mt_islower (pv 0))) (pss_one (ps_ret (pe_bm0K K rfl PySem.F.plainAttrs_str PySem.F.slot_str_upper PySem.F.type_str_upper mt_upper (pv 0)))) pss_nil)
      (pss_one (ps_ret (pe_bm0K K rfl PySem.F.plainAttrs_str PySem.F.slot_str_lower PySem.F.type_str_lower mt_lower (pv 0))))), ?_⟩
  obtain ⟨c, rfl, hc, q⟩ := h
  refine ⟨_, rfl, rfl, c, rfl, rfl, hc, _, rfl, ite2 (fun e => ?_) (fun e => ?_)⟩
  · refine ⟨_, rfl, rfl, c, rfl, rfl, hc, ?_⟩
    have z : ctr c = PyProof.Rows.up1 c := if_pos e
    rw [← z]
    exact q
  · refine ⟨_, rfl, rfl, c, rfl, rfl, hc, ?_⟩
    have z : ctr c = PyProof.Rows.lo1 c := if_neg e
    rw [← z]
    exact q
/-- names: 0 word -/
theorem ok_turned (T : Txt K mg f0 f1 f2 f3 f4 f5 f6 f7 f8 f9 f10 f11 f12 f13 f14 f15 f16 f17 f18 c_TooLong c_MeetError c_NoName c_NoRow c_NoText c_Twice g_TooLong d0 d1 d2 d3 d4 d5 d6 d7 d8 d9 d10 d11 d12 d13 d14 d15 d16 d17 d18 e_TooLong) : FnOk P w K mg base CX0 2 f1 d1 ["word"] (sp_turned K) := by
  have G_contrary := ok_contrary (P := P) (w := w) (base := base) T
  refine T.F1.fn.ok sc_turned (fun vs H Q E h => len_turned h) (fun cdv A outer s H vs Q E hr h => ?_)
  refine ⟨_, (pss_one (ps_ret (pe_bmK K rfl PySem.F.plainAttrs_str PySem.F.slot_str_join PySem.F.type_str_join (mt_joinK K rfl) (pe_S [] (by decide +kernel)) (pa_cons (pe_compB ["letter"] [none] (pi_rev rfl T.z_reversed (pa_cons (pv 0) pa_nil)) trivial (fun _ _ _ _ => (pg_name (i := 0) (by decide +kernel : List.Nodup (["letter"] : List Str)) rfl (Or.inl rfl))) (fun _ _ _ _ => pf_nil) (fun _ _ _ _ => (pe_call G_contrary (hr.mono (by decide)) rfl T.F0.mg T.F0.fn.kp T.F0.bd .nil pass0 (pa_cons (pv 0) pa_nil)))) pa_nil)))), ?_⟩
  obtain ⟨l, rfl, hc, hz, q⟩ := h
  have hs : (1000 : Nat) < sizeLine := by decide
  refine ⟨rfl, _, rfl, l, rfl, by omega, ?_⟩
  rw [sgs_rev]
  refine comp_fix (xs := sgs l.reverse) (fun i acc H' => Same H H' ∧ acc = sgs ((l.reverse.take i).map ctr)) (by rw [sgs_len, List.length_reverse]; omega) ⟨Same.refl H, rfl⟩ ?_ ?_
  · rintro i x acc H1 Nx hi hx hl ⟨s1, rfl⟩ nx
    obtain ⟨c, hc', rfl⟩ := sgs_get hx
    refine ⟨trivial, yes_ite ⟨_, rfl, c, rfl, hc c (List.mem_reverse.mp (List.mem_of_getElem? hc')), nx _ _ (by simpa using hl) ⟨s1, ?_⟩⟩⟩
    rw [sgs_snoc, ← take_snoc hc', List.map_append]
    rfl
  · rintro acc H1 D hl ⟨s1, rfl⟩ hD
    refine ⟨D, (tnd l).map fun c => [c], rfl, rfl, SqL.of ?_, ?_, ?_⟩
    · rw [upd_same, ← sgs_lists, sgs_len, List.take_of_length_le (Nat.le_refl _), List.map_reverse]
      rfl
    · rw [sum1]
      unfold tnd
      rw [List.length_reverse, List.length_map]
      omega
    · rw [flat1]
      exact q _ (s1.trans (Same.upd hD))
/-- names: 0 letter, 1 word, 2 other, 3 places -/
theorem ok_put_for (T : Txt K mg f0 f1 f2 f3 f4 f5 f6 f7 f8 f9 f10 f11 f12 f13 f14 f15 f16 f17 f18 c_TooLong c_MeetError c_NoName c_NoRow c_NoText c_Twice g_TooLong d0 d1 d2 d3 d4 d5 d6 d7 d8 d9 d10 d11 d12 d13 d14 d15 d16 d17 d18 e_TooLong) : FnOk P w K mg base CX0 3 f4 d4 ["letter", "word", "other"] (sp_put_for K) := by
  have G_turned := ok_turned (P := P) (w := w) (base := base) T
  refine T.F4.fn.ok sc_put_for (fun vs H Q E h => len_put_for h) (fun cdv A outer s H vs Q E hr h => ?_)
  refine ⟨_, (pss_cons (ps_set (i := 3) sc_put_for.nd rfl (Or.inr rfl) (pe_disp (pps_cons (pv 0) (pv 2) (pps_cons (pe_bm0K K rfl PySem.F.plainAttrs_str PySem.F.slot_str_upper PySem.F.type_str_upper mt_upper (pv 0)) (pe_call G_turned (hr.mono (by decide)) rfl T.F1.mg T.F1.fn.kp T.F1.bd .nil pass0 (pa_cons (pv 2) pa_nil)) pps_nil)) rfl rfl (by simp) (by decide)))
      (pss_one (ps_ret (pe_bmK K rfl PySem.F.plainAttrs_str PySem.F.slot_str_join PySem.F.type_str_join (mt_joinK K rfl) (pe_S [] (by decide +kernel)) (pa_cons (pe_compB ["each", "places"] [none, some 3] (pi_str (pv 1)) ⟨⟨rfl, rfl, by first | exact .inl rfl | exact .inr rfl⟩, trivial⟩ (fun _ _ _ _ => (pg_name (i := 0) (by decide +kernel : List.Nodup (["each", "places"] : List Str)) rfl (Or.inl rfl))) (fun _ _ _ _ => pf_nil) (fun _ _ _ _ => (pe_dget2 (hu_of hr) (pv 1) (pv 0) (pv 0) ⟨rfl, rfl, rfl, rfl⟩))) pa_nil))))), ?_⟩
  obtain ⟨c, x, y, rfl, hc, hx, hy, q⟩ := h
  have hs : (100000 : Nat) < sizeLine := by decide
  obtain ⟨c1, c2, c3, c4⟩ := ctr_small c hc
  intro p np
  refine ⟨_, rfl, _, rfl, _, rfl, rfl, c, rfl, rfl, c4, _, rfl, y, rfl, fun e he => (hy.1 e he).lt, Nat.le_trans hy.2 (by decide), fun H1 s1 => ?_⟩
  refine ⟨s1 _ _ upd_same, [(kS [c], .str (S y)), (kS [up1 c], .str (S (tnd y)))], rfl, (by show 2 ≤ 15; decide), ?_⟩
  have hne : kS [c] ≠ kS [up1 c] := fun z => by
    have := kS_inj z
    rw [c2] at this
    exact c3 (List.cons.inj this).1.symm
  have em : mergeK [] [(kS [c], V.str (S y)), (kS [up1 c], .str (S (tnd y)))] = [(kS [c], .str (S y)), (kS [up1 c], .str (S (tnd y)))] := by
    show putK (putK [] (kS [c]) (.str (S y))) (kS [up1 c]) (.str (S (tnd y))) = _
    have e1 : putK [] (kS [c]) (V.str (S y)) = [(kS [c], V.str (S y))] := rfl
    rw [e1, putK_new _ (by rw [valV_neg hne]; rfl)]
    rfl
  rw [em]
  have sH : SameB p H H1 := fun b o e z => s1 b o (by rw [upd_ne z]; exact e)
  have hp : upd H1 p (.dK [(kS [c], .str (S y)), (kS [up1 c], .str (S (tnd y)))]) p = some (.dK [(kS [c], .str (S y)), (kS [up1 c], .str (S (tnd y)))]) := upd_same
  have sA : Same H (upd H1 p (.dK [(kS [c], .str (S y)), (kS [up1 c], .str (S (tnd y)))])) := fun b o e => by rw [upd_ne (ne_of_none e np)]; exact sH b o e (ne_of_none e np)
  generalize upd H1 p (.dK [(kS [c], .str (S y)), (kS [up1 c], .str (S (tnd y)))]) = H2 at hp sA ⊢
  refine ⟨rfl, _, rfl, x, rfl, ?_⟩
  refine comp_fix (xs := sgs x) (fun i acc H' => H' = H2 ∧ acc = txs ((x.take i).map (sub1 c y))) (by rw [sgs_len]; have := hx.2; omega) ⟨rfl, rfl⟩ ?_ ?_
  · rintro i e acc H3 Nx hi he hl ⟨rfl, rfl⟩ nx
    obtain ⟨d, hd, rfl⟩ := sgs_get he
    refine ⟨⟨rfl, trivial⟩, yes_ite ⟨_, rfl, p, rfl, .inl ⟨_, .inl hp⟩, _, rfl, _, rfl, _, DGet.k (k := kS [d]) hp, ?_⟩⟩
    have ev : (valV [(kS [c], V.str (S y)), (kS [up1 c], V.str (S (tnd y)))] (kS [d])).getD (V.str (S [d])) = V.str (S (sub1 c y d)) := by
      unfold sub1
      by_cases z : d = c
      · rw [if_pos z, z, valV_pos rfl]; rfl
      · rw [if_neg z, valV_neg (fun w => z (List.cons.inj (kS_inj w)).1.symm)]
        by_cases z2 : d = ctr c
        · rw [if_pos z2, valV_pos (by rw [c2, z2])]; rfl
        · rw [if_neg z2, valV_neg (fun w => z2 (by rw [← c2]; exact (List.cons.inj (kS_inj w)).1.symm))]; rfl
    rw [ev]
    refine nx _ _ (by simpa using hl) ⟨rfl, ?_⟩
    rw [txs_snoc, ← take_snoc hd, List.map_append]
    rfl
  · rintro acc H3 D hl ⟨rfl, rfl⟩ hD
    rw [sgs_len, List.take_length]
    have hsz := (subw_ok (c := c) hy hx.1).2
    refine ⟨D, x.map (sub1 c y), rfl, rfl, SqL.of upd_same, ?_, q _ (sA.trans (Same.upd hD))⟩
    have : ((x.map (sub1 c y)).map List.length).sum = (subw c y x).length := by unfold subw; rw [List.length_flatten]
    rw [this]
    have := hx.2
    omega
/-- names: 0 term -/
theorem ok_terms_in (T : Txt K mg f0 f1 f2 f3 f4 f5 f6 f7 f8 f9 f10 f11 f12 f13 f14 f15 f16 f17 f18 c_TooLong c_MeetError c_NoName c_NoRow c_NoText c_Twice g_TooLong d0 d1 d2 d3 d4 d5 d6 d7 d8 d9 d10 d11 d12 d13 d14 d15 d16 d17 d18 e_TooLong) : FnOk P w K mg base CX0 1 f3 d3 ["term"] (sp_terms_in K) := by
  refine T.F3.fn.ok sc_terms_in (fun vs H Q E h => len_terms_in h) (fun cdv A outer s H vs Q E hr h => ?_)
  refine ⟨_, (pss_cons (ps_if (pt_cmpR op_eqS (pe_ix (ix_tupK K rfl) (pv 0) pe_int (fun _ _ => rfl)) (pe_S [116, 104, 101, 110] (by decide +kernel)) (nomark _)) (pss_one (ps_ret (pe_lst (pa_cons (pe_ix (ix_tupK K rfl) (pv 0) pe_int (fun _ _ => rfl)) (pa_cons (pe_ix (ix_tupK K rfl) (pv 0) pe_int (fun _ _ => rfl)) pa_nil))))) pss_nil)
      (pss_cons (ps_if (pt_cmpR op_eqS (pe_ix (ix_tupK K rfl) (pv 0) pe_int (fun _ _ => rfl)) (pe_S [98, 97, 99, 107] (by decide +kernel)) (nomark _)) (pss_one (ps_ret (pe_lst (pa_cons (pe_ix (ix_tupK K rfl) (pv 0) pe_int (fun _ _ => rfl)) pa_nil)))) pss_nil)
      (pss_cons (ps_if (pt_cmpR op_eqS (pe_ix (ix_tupK K rfl) (pv 0) pe_int (fun _ _ => rfl)) (pe_S [97, 103, 97, 105, 110] (by decide +kernel)) (nomark _)) (pss_one (ps_ret (pe_lst (pa_cons (pe_ix (ix_tupK K rfl) (pv 0) pe_int (fun _ _ => rfl)) pa_nil)))) pss_nil)
      (pss_cons (ps_if (pt_cmpR op_eqS (pe_ix (ix_tupK K rfl) (pv 0) pe_int (fun _ _ => rfl)) (pe_S [102, 111, 114] (by decide +kernel)) (nomark _)) (pss_one (ps_ret (pe_lst (pa_cons (pe_ix (ix_tupK K rfl) (pv 0) pe_int (fun _ _ => rfl)) (pa_cons (pe_ix (ix_tupK K rfl) (pv 0) pe_int (fun _ _ => rfl)) pa_nil))))) pss_nil)
      (pss_one (ps_ret (pe_lst pa_nil))))))), ?_⟩
  obtain ⟨a, t, rfl, hT, q⟩ := h
  have hs : (100000 : Nat) < sizeLine := by decide
  cases t with
  | walk w =>
    have h : H a = some (.tup [.str (S kWalk), .str (S w)]) := hT
    refine ⟨_, rfl, a, _, 0, _, rfl, rfl, SqT.of h, rfl, _, _, rfl, rfl, _, rfl, iteN (by decide) ?_⟩
    refine ⟨_, rfl, a, _, 0, _, rfl, rfl, SqT.of h, rfl, _, _, rfl, rfl, _, rfl, iteN (by decide) ?_⟩
    refine ⟨_, rfl, a, _, 0, _, rfl, rfl, SqT.of h, rfl, _, _, rfl, rfl, _, rfl, iteN (by decide) ?_⟩
    refine ⟨_, rfl, a, _, 0, _, rfl, rfl, SqT.of h, rfl, _, _, rfl, rfl, _, rfl, iteN (by decide) ?_⟩
    exact ⟨by show 0 ≤ sizeLine; decide, fun p np => q p [] _ np upd_same trivial (Same.upd np)⟩
  | name w =>
    have h : H a = some (.tup [.str (S kName), .str (S w)]) := hT
    refine ⟨_, rfl, a, _, 0, _, rfl, rfl, SqT.of h, rfl, _, _, rfl, rfl, _, rfl, iteN (by decide) ?_⟩
    refine ⟨_, rfl, a, _, 0, _, rfl, rfl, SqT.of h, rfl, _, _, rfl, rfl, _, rfl, iteN (by decide) ?_⟩
    refine ⟨_, rfl, a, _, 0, _, rfl, rfl, SqT.of h, rfl, _, _, rfl, rfl, _, rfl, iteN (by decide) ?_⟩
    refine ⟨_, rfl, a, _, 0, _, rfl, rfl, SqT.of h, rfl, _, _, rfl, rfl, _, rfl, iteN (by decide) ?_⟩
    exact ⟨by show 0 ≤ sizeLine; decide, fun p np => q p [] _ np upd_same trivial (Same.upd np)⟩
  | back t =>
    obtain ⟨b, h, g⟩ := hT
    refine ⟨_, rfl, a, _, 0, _, rfl, rfl, SqT.of h, rfl, _, _, rfl, rfl, _, rfl, iteN (by decide) ?_⟩
    refine ⟨_, rfl, a, _, 0, _, rfl, rfl, SqT.of h, rfl, _, _, rfl, rfl, _, rfl, iteY (by decide) ?_⟩
    exact ⟨_, rfl, a, _, 1, _, rfl, rfl, SqT.of h, rfl, by show 1 ≤ sizeLine; decide, fun p np => q p [b] _ np upd_same ⟨g.same (Same.upd np), trivial⟩ (Same.upd np)⟩
  | again k t =>
    obtain ⟨b, h, g⟩ := hT
    refine ⟨_, rfl, a, _, 0, _, rfl, rfl, SqT.of h, rfl, _, _, rfl, rfl, _, rfl, iteN (by decide) ?_⟩
    refine ⟨_, rfl, a, _, 0, _, rfl, rfl, SqT.of h, rfl, _, _, rfl, rfl, _, rfl, iteN (by decide) ?_⟩
    refine ⟨_, rfl, a, _, 0, _, rfl, rfl, SqT.of h, rfl, _, _, rfl, rfl, _, rfl, iteY (by decide) ?_⟩
    exact ⟨_, rfl, a, _, 2, _, rfl, rfl, SqT.of h, rfl, by show 1 ≤ sizeLine; decide, fun p np => q p [b] _ np upd_same ⟨g.same (Same.upd np), trivial⟩ (Same.upd np)⟩
  | thn x y =>
    obtain ⟨b, c, h, g1, g2⟩ := hT
    refine ⟨_, rfl, a, _, 0, _, rfl, rfl, SqT.of h, rfl, _, _, rfl, rfl, _, rfl, iteY (by decide) ?_⟩
    exact ⟨_, rfl, a, _, 1, _, rfl, rfl, SqT.of h, rfl, _, rfl, a, _, 2, _, rfl, rfl, SqT.of h, rfl, by show 2 ≤ sizeLine; decide, fun p np => q p [b, c] _ np upd_same ⟨g1.same (Same.upd np), g2.same (Same.upd np), trivial⟩ (Same.upd np)⟩
  | fr l x y =>
    obtain ⟨b, c, h, g1, g2⟩ := hT
    refine ⟨_, rfl, a, _, 0, _, rfl, rfl, SqT.of h, rfl, _, _, rfl, rfl, _, rfl, iteN (by decide) ?_⟩
    refine ⟨_, rfl, a, _, 0, _, rfl, rfl, SqT.of h, rfl, _, _, rfl, rfl, _, rfl, iteN (by decide) ?_⟩
    refine ⟨_, rfl, a, _, 0, _, rfl, rfl, SqT.of h, rfl, _, _, rfl, rfl, _, rfl, iteN (by decide) ?_⟩
    refine ⟨_, rfl, a, _, 0, _, rfl, rfl, SqT.of h, rfl, _, _, rfl, rfl, _, rfl, iteY (by decide) ?_⟩
    exact ⟨_, rfl, a, _, 2, _, rfl, rfl, SqT.of h, rfl, _, rfl, a, _, 3, _, rfl, rfl, SqT.of h, rfl, by show 2 ≤ sizeLine; decide, fun p np => q p [b, c] _ np upd_same ⟨g1.same (Same.upd np), g2.same (Same.upd np), trivial⟩ (Same.upd np)⟩
/-- names: 0 word, 1 kept, 2 letter -/
theorem ok_shortened (T : Txt K mg f0 f1 f2 f3 f4 f5 f6 f7 f8 f9 f10 f11 f12 f13 f14 f15 f16 f17 f18 c_TooLong c_MeetError c_NoName c_NoRow c_NoText c_Twice g_TooLong d0 d1 d2 d3 d4 d5 d6 d7 d8 d9 d10 d11 d12 d13 d14 d15 d16 d17 d18 e_TooLong) : FnOk P w K mg base CX0 2 f2 d2 ["word"] (sp_shortened K) := by
  have G_contrary := ok_contrary (P := P) (w := w) (base := base) T
  refine T.F2.fn.ok sc_shortened (fun vs H Q E h => len_shortened h) (fun cdv A outer s H vs Q E hr h => ?_)
  refine ⟨_, (pss_cons (ps_set (i := 1) sc_shortened.nd rfl (Or.inl rfl) (pe_lst pa_nil))
      (pss_cons (ps_for PassesOwn.never rfl (pi_str (pv 0)) (pg_name (i := 2) sc_shortened.nd rfl (Or.inl rfl)) (pss_one (ps_if (PW.pt (pw_and (pt_truL K rfl (pv 1)) (pw_and1 (pt_cmpR op_eqS (pe_ix (ix_listK K rfl) (pv 1) (pe_un un_neg pe_int) (fun _ _ => rfl)) (pe_call G_contrary (hr.mono (by decide)) rfl T.F0.mg T.F0.fn.kp T.F0.bd .nil pass0 (pa_cons (pv 2) pa_nil)) (nomark _))))) (pss_one (ps_expr (pe_bm0K K rfl PySem.F.plainAttrs_list PySem.F.slot_list_pop PySem.F.type_list_pop mt_pop (pv 1)))) (pss_one (ps_expr (pe_bmK K rfl PySem.F.plainAttrs_list PySem.F.slot_list_append PySem.F.type_list_append mt_append (pv 1) (pa_cons (pv 2) pa_nil)))))))
      (pss_one (ps_ret (pe_bmK K rfl PySem.F.plainAttrs_str PySem.F.slot_str_join PySem.F.type_str_join (mt_joinK K rfl) (pe_S [] (by decide +kernel)) (pa_cons (pv 1) pa_nil)))))), ?_⟩
  obtain ⟨l, rfl, hl, hz, q⟩ := h
  have hs : (100000 : Nat) < sizeLine := by decide
  walk_at "rd"
  intro p1 n1
  refine ⟨_, rfl, l, rfl, ?_⟩
  refine for_fix (xs := sgs l) (fun i σ H' => ∃ lv, σ = [some (.str (S l)), some (.ref p1), lv] ∧ H' p1 = some (.lst (sgs (red (l.take i)))) ∧ SameB p1 H H') ⟨none, rfl, upd_same, SameB.of (Same.upd n1)⟩ ?_ ?_
  · rintro i x σ H1 hx ⟨lv, rfl, hp, s1⟩
    obtain ⟨c, hc, rfl⟩ := sgs_get hx
    have hi : i < l.length := (List.getElem?_eq_some_iff.mp hc).1
    have h8 : c < 128 := (hl c (List.mem_of_getElem? hc)).lt
    have hrl : (red (l.take i)).length ≤ 10000 := Nat.le_trans (red_len _) (by rw [List.length_take]; omega)
    have fin : ∀ st, st = rstep (red (l.take i)) c → ∃ lv, [some (V.str (S l)), some (V.ref p1), some (V.str (S [c]))] = [some (V.str (S l)), some (.ref p1), lv] ∧ (upd H1 p1 (.lst (sgs st))) p1 = some (.lst (sgs (red (l.take (i + 1))))) ∧ SameB p1 H (upd H1 p1 (.lst (sgs st))) := fun st e =>
      ⟨_, rfl, by rw [upd_same, red_take hc, e], fun b o e z => by rw [upd_ne z]; exact s1 b o e z⟩
    refine ⟨_, rfl, p1, _, rfl, SqL.of hp, ?_⟩
    rcases snoc_cases (red (l.take i)) with e | ⟨m, a, e⟩
    · rw [e] at hp ⊢
      refine iteN rfl ?_
      refine iteF ?_
      refine ⟨_, rfl, .inl ⟨rfl, _, SqL.of hp⟩, _, rfl, p1, _, _, rfl, rfl, hp, by rw [sgs_len]; exact (by decide : (0 : Nat) < sizeLine), ?_⟩
      rw [sgs_snoc]
      refine fin _ ?_
      rw [e]
      unfold rstep
      rw [if_neg (by simp)]
    · rw [e] at hp hrl ⊢
      have hml : m.length ≤ 10000 := by simp at hrl; omega
      rw [← sgs_snoc] at hp ⊢
      refine iteY (by simp) ?_
      refine ⟨_, rfl, _, rfl, p1, _, _, _, rfl, rfl, SqL.of hp, atI_last _ _, _, rfl, c, rfl, h8, [a], [ctr c], rfl, rfl, _, rfl, ite2 (fun z => ?_) (fun z => ?_)⟩
      · have ea : a = ctr c := by simpa using of_decide_eq_true z
        refine ⟨_, rfl, .inl ⟨rfl, _, SqL.of hp⟩, p1, _, V.str (S [a]), rfl, rfl, hp, by simp, ?_⟩
        rw [List.dropLast_concat]
        refine fin _ ?_
        rw [e]
        unfold rstep
        rw [if_pos (by simp [ea]), List.dropLast_concat]
      · have ea : a ≠ ctr c := fun w => z (decide_eq_true (by rw [w]))
        refine ⟨_, rfl, .inl ⟨rfl, _, SqL.of hp⟩, _, rfl, p1, _, _, rfl, rfl, hp, by rw [List.length_append, sgs_len]; show m.length + 1 < sizeLine; omega, ?_⟩
        rw [sgs_snoc, sgs_snoc]
        refine fin _ ?_
        rw [e]
        unfold rstep
        rw [if_neg (by simpa using ea)]
  · rintro σ H1 ⟨lv, rfl, hp, s1⟩
    rw [sgs_take] at hp
    refine ⟨rfl, _, rfl, p1, (red l).map fun c => [c], rfl, rfl, SqL.of (by rw [← sgs_lists]; exact hp), ?_, ?_⟩
    · rw [sum1]
      have := red_len l
      omega
    · rw [flat1]
      exact q _ (fun b o e => s1 b o e (ne_of_none e n1))
/-- names: 0 term, 1 words, 2 known -/
theorem ok_made_of (T : Txt K mg f0 f1 f2 f3 f4 f5 f6 f7 f8 f9 f10 f11 f12 f13 f14 f15 f16 f17 f18 c_TooLong c_MeetError c_NoName c_NoRow c_NoText c_Twice g_TooLong d0 d1 d2 d3 d4 d5 d6 d7 d8 d9 d10 d11 d12 d13 d14 d15 d16 d17 d18 e_TooLong) : FnOk P w K mg base CX0 4 f5 d5 ["term", "words", "known"] (sp_made_of K) := by
  have G_turned := ok_turned (P := P) (w := w) (base := base) T
  have G_put_for := ok_put_for (P := P) (w := w) (base := base) T
  refine T.F5.fn.ok sc_made_of (fun vs H Q E h => len_made_of h) (fun cdv A outer s H vs Q E hr h => ?_)
  refine ⟨_, (pss_cons (ps_if (pt_cmpR op_eqS (pe_ix (ix_tupK K rfl) (pv 0) pe_int (fun _ _ => rfl)) (pe_S [119, 97, 108, 107] (by decide +kernel)) (nomark _)) (pss_one (ps_ret (pe_ix (ix_tupK K rfl) (pv 0) pe_int (fun _ _ => rfl)))) pss_nil)
      (pss_cons (ps_if (pt_cmpR op_eqS (pe_ix (ix_tupK K rfl) (pv 0) pe_int (fun _ _ => rfl)) (pe_S [110, 97, 109, 101] (by decide +kernel)) (nomark _)) (pss_one (ps_ret (pe_dget (hu_of hr) (pv 2) (pe_ix (ix_tupK K rfl) (pv 0) pe_int (fun _ _ => rfl)) (fun _ _ => rfl)))) pss_nil)
      (pss_cons (ps_if (pt_cmpR op_eqS (pe_ix (ix_tupK K rfl) (pv 0) pe_int (fun _ _ => rfl)) (pe_S [116, 104, 101, 110] (by decide +kernel)) (nomark _)) (pss_one (ps_ret (pe_op op_addS (pe_ix (ix_listK K rfl) (pv 1) pe_int (fun _ _ => rfl)) (pe_ix (ix_listK K rfl) (pv 1) pe_int (fun _ _ => rfl))))) pss_nil)
      (pss_cons (ps_if (pt_cmpR op_eqS (pe_ix (ix_tupK K rfl) (pv 0) pe_int (fun _ _ => rfl)) (pe_S [98, 97, 99, 107] (by decide +kernel)) (nomark _)) (pss_one (ps_ret (pe_call G_turned (hr.mono (by decide)) rfl T.F1.mg T.F1.fn.kp T.F1.bd .nil pass0 (pa_cons (pe_ix (ix_listK K rfl) (pv 1) pe_int (fun _ _ => rfl)) pa_nil)))) pss_nil)
      (pss_cons (ps_if (pt_cmpR op_eqS (pe_ix (ix_tupK K rfl) (pv 0) pe_int (fun _ _ => rfl)) (pe_S [97, 103, 97, 105, 110] (by decide +kernel)) (nomark _)) (pss_one (ps_ret (pe_op op_mulS (pe_ix (ix_listK K rfl) (pv 1) pe_int (fun _ _ => rfl)) (pe_ix (ix_tupK K rfl) (pv 0) pe_int (fun _ _ => rfl))))) pss_nil)
      (pss_one (ps_ret (pe_call G_put_for (hr.mono (by decide)) rfl T.F4.mg T.F4.fn.kp T.F4.bd .nil pass0 (pa_cons (pe_ix (ix_tupK K rfl) (pv 0) pe_int (fun _ _ => rfl)) (pa_cons (pe_ix (ix_listK K rfl) (pv 1) pe_int (fun _ _ => rfl)) (pa_cons (pe_ix (ix_listK K rfl) (pv 1) pe_int (fun _ _ => rfl)) pa_nil))))))))))), ?_⟩
  obtain ⟨a, wp, d, t, ws, kvs, rfl, hT, hto, hw, hl, hws, hdk, hkn, q⟩ := h
  have hs : (100000 : Nat) < sizeLine := by decide
  cases t with
  | walk w =>
    have h : H a = some (.tup [.str (S kWalk), .str (S w)]) := hT
    refine ⟨_, rfl, a, _, 0, _, rfl, rfl, SqT.of h, rfl, _, _, rfl, rfl, _, rfl, iteY (by decide) ?_⟩
    exact ⟨_, rfl, a, _, 1, _, rfl, rfl, SqT.of h, rfl, q _ (Same.refl _)⟩
  | name s =>
    have h : H a = some (.tup [.str (S kName), .str (S s)]) := hT
    refine ⟨_, rfl, a, _, 0, _, rfl, rfl, SqT.of h, rfl, _, _, rfl, rfl, _, rfl, iteN (by decide) ?_⟩
    refine ⟨_, rfl, a, _, 0, _, rfl, rfl, SqT.of h, rfl, _, _, rfl, rfl, _, rfl, iteY (by decide) ?_⟩
    exact ⟨_, rfl, _, rfl, a, _, 1, _, rfl, rfl, SqT.of h, rfl, d, _, rfl, (by show DGet H d (V.str (S s)) (some (V.str (S (kn kvs s)))); rw [← valW (hkn.has s List.mem_cons_self)]; exact DGet.k (k := kS s) hdk), q _ (Same.refl _)⟩
  | thn x y =>
    obtain ⟨b, c, h, g1, g2⟩ := hT
    obtain ⟨u, v, rfl⟩ := len_two (show ws.length = 2 from hl)
    have hu := hws u List.mem_cons_self
    have hv := hws v (List.mem_cons_of_mem _ List.mem_cons_self)
    have hu2 := hu.2
    have hv2 := hv.2
    refine ⟨_, rfl, a, _, 0, _, rfl, rfl, SqT.of h, rfl, _, _, rfl, rfl, _, rfl, iteN (by decide) ?_⟩
    refine ⟨_, rfl, a, _, 0, _, rfl, rfl, SqT.of h, rfl, _, _, rfl, rfl, _, rfl, iteN (by decide) ?_⟩
    refine ⟨_, rfl, a, _, 0, _, rfl, rfl, SqT.of h, rfl, _, _, rfl, rfl, _, rfl, iteY (by decide) ?_⟩
    exact ⟨_, rfl, wp, _, 0, _, rfl, rfl, SqL.of hw, rfl, _, rfl, wp, _, 1, _, rfl, rfl, SqL.of hw, rfl, u, v, rfl, rfl, by omega, q _ (Same.refl _)⟩
  | back t =>
    obtain ⟨b, h, g⟩ := hT
    obtain ⟨u, rfl⟩ : ∃ x, ws = [x] := List.length_eq_one_iff.mp hl
    have hu := hws u List.mem_cons_self
    refine ⟨_, rfl, a, _, 0, _, rfl, rfl, SqT.of h, rfl, _, _, rfl, rfl, _, rfl, iteN (by decide) ?_⟩
    refine ⟨_, rfl, a, _, 0, _, rfl, rfl, SqT.of h, rfl, _, _, rfl, rfl, _, rfl, iteN (by decide) ?_⟩
    refine ⟨_, rfl, a, _, 0, _, rfl, rfl, SqT.of h, rfl, _, _, rfl, rfl, _, rfl, iteN (by decide) ?_⟩
    refine ⟨_, rfl, a, _, 0, _, rfl, rfl, SqT.of h, rfl, _, _, rfl, rfl, _, rfl, iteY (by decide) ?_⟩
    exact ⟨_, rfl, wp, _, 0, _, rfl, rfl, SqL.of hw, rfl, u, rfl, fun c hc => (hu.1 c hc).lt, Nat.le_trans hu.2 (by decide), fun H' s' => q _ s'⟩
  | again k t =>
    obtain ⟨b, h, g⟩ := hT
    obtain ⟨u, rfl⟩ : ∃ x, ws = [x] := List.length_eq_one_iff.mp hl
    have hu := hws u List.mem_cons_self
    have hk6 : k ≤ 6 := hto.1
    have := Nat.mul_le_mul hu.2 hk6
    refine ⟨_, rfl, a, _, 0, _, rfl, rfl, SqT.of h, rfl, _, _, rfl, rfl, _, rfl, iteN (by decide) ?_⟩
    refine ⟨_, rfl, a, _, 0, _, rfl, rfl, SqT.of h, rfl, _, _, rfl, rfl, _, rfl, iteN (by decide) ?_⟩
    refine ⟨_, rfl, a, _, 0, _, rfl, rfl, SqT.of h, rfl, _, _, rfl, rfl, _, rfl, iteN (by decide) ?_⟩
    refine ⟨_, rfl, a, _, 0, _, rfl, rfl, SqT.of h, rfl, _, _, rfl, rfl, _, rfl, iteN (by decide) ?_⟩
    refine ⟨_, rfl, a, _, 0, _, rfl, rfl, SqT.of h, rfl, _, _, rfl, rfl, _, rfl, iteY (by decide) ?_⟩
    exact ⟨_, rfl, wp, _, 0, _, rfl, rfl, SqL.of hw, rfl, _, rfl, a, _, 1, _, rfl, rfl, SqT.of h, rfl, u, (k : Int), rfl, rfl, by omega, by rw [Int.toNat_natCast]; omega, by rw [Int.toNat_natCast]; exact q _ (Same.refl _)⟩
  | fr c x y =>
    obtain ⟨b, e, h, g1, g2⟩ := hT
    obtain ⟨u, v, rfl⟩ := len_two (show ws.length = 2 from hl)
    have hu := hws u List.mem_cons_self
    have hv := hws v (List.mem_cons_of_mem _ List.mem_cons_self)
    refine ⟨_, rfl, a, _, 0, _, rfl, rfl, SqT.of h, rfl, _, _, rfl, rfl, _, rfl, iteN (by decide) ?_⟩
    refine ⟨_, rfl, a, _, 0, _, rfl, rfl, SqT.of h, rfl, _, _, rfl, rfl, _, rfl, iteN (by decide) ?_⟩
    refine ⟨_, rfl, a, _, 0, _, rfl, rfl, SqT.of h, rfl, _, _, rfl, rfl, _, rfl, iteN (by decide) ?_⟩
    refine ⟨_, rfl, a, _, 0, _, rfl, rfl, SqT.of h, rfl, _, _, rfl, rfl, _, rfl, iteN (by decide) ?_⟩
    refine ⟨_, rfl, a, _, 0, _, rfl, rfl, SqT.of h, rfl, _, _, rfl, rfl, _, rfl, iteN (by decide) ?_⟩
    exact ⟨_, rfl, a, _, 1, _, rfl, rfl, SqT.of h, rfl, _, rfl, wp, _, 0, _, rfl, rfl, SqL.of hw, rfl, _, rfl, wp, _, 1, _, rfl, rfl, SqL.of hw, rfl, c, u, v, rfl, hto.1, hu, hv, fun H' s' => q _ s'⟩
theorem sc_i_TooLong : FnScope ["self", "name"] ["self", "name"] (defScope s_i_TooLong) := ⟨rfl, rfl, rfl, by decide +kernel, rfl, by decide +kernel, by decide +kernel⟩
theorem ok_i_TooLong (T : Txt K mg f0 f1 f2 f3 f4 f5 f6 f7 f8 f9 f10 f11 f12 f13 f14 f15 f16 f17 f18 c_TooLong c_MeetError c_NoName c_NoRow c_NoText c_Twice g_TooLong d0 d1 d2 d3 d4 d5 d6 d7 d8 d9 d10 d11 d12 d13 d14 d15 d16 d17 d18 e_TooLong) : FnOk P w K mg base CX0 1 g_TooLong e_TooLong ["self", "name"] (sp_X1 c_TooLong "name") := by
  refine T.I_TooLong.ok sc_i_TooLong (fun vs H Q E h => len_X1 h) (fun cdv A outer s H vs Q E hr h => ?_)
  refine ⟨_, (pss_cons (ps_expr (pe_xinit T.xb rfl T.m_MeetError (pa_cons (pv 0) (pa_cons (pv 1) pa_nil)))) (pss_one (ps_xfld (pv 0) (pv 1) rfl))), ?_⟩
  obtain ⟨e, v, rfl, he, q⟩ := h
  exact ⟨_, rfl, _, rfl, e, c_TooLong, none, [v], rfl, by show 1 ≤ sizeLine; decide, he, T.x_TooLong, _, rfl, _, rfl, e, c_TooLong, rfl, T.x_TooLong, T.n_TooLong_name, .inl ⟨he, q⟩⟩
/-- names: 0 name, 1 term, 2 known, 3 words, 4 word -/
theorem step_word_of (T : Txt K mg f0 f1 f2 f3 f4 f5 f6 f7 f8 f9 f10 f11 f12 f13 f14 f15 f16 f17 f18 c_TooLong c_MeetError c_NoName c_NoRow c_NoText c_Twice g_TooLong d0 d1 d2 d3 d4 d5 d6 d7 d8 d9 d10 d11 d12 d13 d14 d15 d16 d17 d18 e_TooLong) (n : Nat) (ih : FnOk P w K mg base (CXF P w K) (5 + n) f6 d6 ["name", "term", "known"] (sp_word_of K c_TooLong n)) : FnOk P w K mg base (CXF P w K) (5 + n + 1) f6 d6 ["name", "term", "known"] (sp_word_of K c_TooLong (n + 1)) := by
  have G_terms_in := ok_terms_in (P := P) (w := w) (base := base) T
  have G_shortened := ok_shortened (P := P) (w := w) (base := base) T
  have G_made_of := ok_made_of (P := P) (w := w) (base := base) T
  have G_i_TooLong := ok_i_TooLong (P := P) (w := w) (base := base) T
  refine T.F6.fn.okX sc_word_of (fun vs H Q E h => len_word_of h) (fun cdv A outer s H vs Q E hr h => ?_)
  refine ⟨_, (pss_cons (ps_setCX (E := E) (i := 3) ["part", "name", "known"] [none, some 0, some 2] passN ⟨rfl, rfl⟩ rfl sc_word_of.nd rfl (Or.inl rfl) (pi_listK K rfl (pe_call G_terms_in (hr.mono (by omega)) rfl T.F3.mg T.F3.fn.kp T.F3.bd .nil pass0 (pa_cons (pv 1) pa_nil))) ⟨⟨rfl, rfl, by first | exact .inl rfl | exact .inr rfl⟩, ⟨⟨rfl, rfl, by first | exact .inl rfl | exact .inr rfl⟩, trivial⟩⟩ (fun _ _ _ _ _ _ => (pg_name (i := 0) (by decide +kernel : List.Nodup (["part", "name", "known"] : List Str)) rfl (Or.inl rfl))) (fun _ _ _ _ _ _ => pf_nil) (fun _ _ _ _ _ _ hpc => (pe_callX ih hr rfl T.F6.mg T.F6.fn.kp T.F6.bd .nil hpc (pa_cons (pv 1) (pa_cons (pv 0) (pa_cons (pv 2) pa_nil))))))
      (pss_cons (ps_set (i := 4) sc_word_of.nd rfl (Or.inl rfl) (pe_call G_shortened (hr.mono (by omega)) rfl T.F2.mg T.F2.fn.kp T.F2.bd .nil pass0 (pa_cons (pe_call G_made_of (hr.mono (by omega)) rfl T.F5.mg T.F5.fn.kp T.F5.bd .nil pass0 (pa_cons (pv 1) (pa_cons (pv 3) (pa_cons (pv 2) pa_nil)))) pa_nil)))
      (pss_cons (ps_if (pt_cmpR op_gt (pe_callB call_lenS rfl T.z_len PySem.boot_len (pa_cons (pv 4) pa_nil)) (pe_gI 60 rfl T.g_LONGEST) (nomark _)) (pss_one (ps_raiseK K H rfl rfl hr.hd throwF (pe_xmake T.i_TooLong G_i_TooLong (hr.mono (by omega)) rfl T.m_TooLong T.b_TooLong (pa_cons (pv 0) pa_nil)))) pss_nil)
      (pss_one (ps_ret (pv 4)))))), ?_⟩
  obtain ⟨nm, a, d, t, kvs, rfl, ht, hto, hdp, hn, hdk, hkn, q1, q2⟩ := h
  have hs : (100000 : Nat) < sizeLine := by decide
  refine ⟨_, rfl, a, t, rfl, ht, fun qp as H1 nq hq has s1 => ⟨qp, rfl, ⟨_, SqL.of hq⟩, ?_⟩⟩
  have hlen := has.len
  have hsl : (subs t).length ≤ 2 := by cases t <;> simp [subs]
  refine comp_list (K := K) (a := qp) (xs := rfs as) (fun i acc H' => Same H1 H' ∧ ∃ ws, acc = txs ws ∧ vals kvs ((subs t).take i) = some ws) (by rw [rfs_len]; omega) (fun i acc H' h => SqL.of (h.1 _ _ hq)) ⟨Same.refl _, [], rfl, by rfl⟩ ?_ ?_
  · rintro i x acc H2 Nx hi hx hl2 ⟨s2, ws, rfl, hv⟩ nx
    obtain ⟨b, hb, rfl⟩ := rfs_get hx
    obtain ⟨u, hu, hub⟩ := has.get hb
    have hus : u ∈ subs t := List.mem_of_getElem? hu
    have s12 := s1.trans s2
    refine ⟨⟨rfl, rfl, trivial⟩, yes_ite ?_⟩
    refine ⟨_, rfl, _, rfl, _, rfl, nm, b, d, u, kvs, rfl, hub.same s2, subs_ok hto hus, subs_dep hdp hus, by omega, s12 _ _ hdk, hkn.sub hus, fun x hx H3 s3 => ?_, fun hx e H3 he s3 => ?_⟩
    · refine nx _ _ (by simpa using hl2) ⟨s2.trans s3, ws ++ [x], txs_snoc _ _, ?_⟩
      rw [← take_snoc hu]
      exact vals_snoc hx hv
    · intro D acc hD
      refine q2 (by rw [val_eq, vals_none hx hus]; rfl) e _ (by rw [upd_ne (ne_of_none he hD)]; exact he) ((s12.trans s3).trans (Same.upd hD))
  · rintro acc H2 D hl2 ⟨s2, ws, rfl, hv⟩ hD
    rw [rfs_len, hlen, List.take_length] at hv
    have s13 := (s1.trans s2).trans (Same.upd (o := HO.lst (txs ws)) hD)
    obtain ⟨m1, m2⟩ := vals_mem hv
    have hws : ∀ x ∈ ws, wOk x := fun x hx => by
      obtain ⟨u, hu, e⟩ := m2 x hx
      exact val_ok u (subs_ok hto hu) (hkn.sub hu) e
    have hmd := made_ok hto hkn m1 hws
    refine ⟨_, rfl, _, rfl, _, rfl, a, D, d, t, ws, kvs, rfl, ht.same s13, hto, upd_same, m1, hws, s13 _ _ hdk, hkn, fun H4 s4 => ?_⟩
    refine ⟨made kvs t ws, rfl, hmd.1, hmd.2, fun H5 s5 => ?_⟩
    have s05 := (s13.trans s4).trans s5
    have hrl : (red (made kvs t ws)).length ≤ 10000 := Nat.le_trans (red_len _) hmd.2
    have hval : val kvs t = cap (red (made kvs t ws)) := by rw [val_eq, hv]; rfl
    refine ⟨_, rfl, red (made kvs t ws), rfl, by omega, _, _, rfl, rfl, _, rfl, ite2 (fun g => ?_) (fun g => ?_)⟩
    · have g' : (60 : Int) < ((red (made kvs t ws)).length : Int) := of_decide_eq_true g
      have hnone : val kvs t = none := by rw [hval]; unfold cap; rw [if_pos (by omega)]
      exact ⟨_, rfl, raise_X1 T.x_TooLong s05 fun d' H6 hd' s6 => q2 hnone d' _ hd' (s05.trans s6)⟩
    · have g' : ¬ (60 : Int) < ((red (made kvs t ws)).length : Int) := fun z => g (decide_eq_true z)
      have hsome : val kvs t = some (red (made kvs t ws)) := by rw [hval]; unfold cap; rw [if_neg (by omega)]
      exact ⟨_, rfl, q1 _ hsome _ s05⟩
theorem ok_word_of (T : Txt K mg f0 f1 f2 f3 f4 f5 f6 f7 f8 f9 f10 f11 f12 f13 f14 f15 f16 f17 f18 c_TooLong c_MeetError c_NoName c_NoRow c_NoText c_Twice g_TooLong d0 d1 d2 d3 d4 d5 d6 d7 d8 d9 d10 d11 d12 d13 d14 d15 d16 d17 d18 e_TooLong) : ∀ n, FnOk P w K mg base (CXF P w K) (5 + n) f6 d6 ["name", "term", "known"] (sp_word_of K c_TooLong n)
  | 0 => fn_never fun vs H Q E h => nev_word_of h
  | n + 1 => step_word_of T n (ok_word_of T n)
/-- names: 0 _law_term, 1 _law_known, 2 _law_words, 3 _law_back, 4 _law_found, 5 _law_swap -/
theorem step_Lvalue (T : Txt K mg f0 f1 f2 f3 f4 f5 f6 f7 f8 f9 f10 f11 f12 f13 f14 f15 f16 f17 f18 c_TooLong c_MeetError c_NoName c_NoRow c_NoText c_Twice g_TooLong d0 d1 d2 d3 d4 d5 d6 d7 d8 d9 d10 d11 d12 d13 d14 d15 d16 d17 d18 e_TooLong) (n : Nat) (ih : FnOk P w K mg base CX0 (3 + n) f13 d13 ["_law_term", "_law_known"] (sp_Lvalue K n)) : FnOk P w K mg base CX0 (3 + n + 1) f13 d13 ["_law_term", "_law_known"] (sp_Lvalue K (n + 1)) := by
  have G_Lother := ok_Lother (P := P) (w := w) (base := base) T
  have G_Lshortened := ok_Lshortened (P := P) (w := w) (base := base) T
  refine T.F13.fn.ok sc_Lvalue (fun vs H Q E h => len_Lvalue h) (fun cdv A outer s H vs Q E hr h => ?_)
  refine ⟨_, (pss_cons (ps_setCB (i := 2) ["_law_part", "_law_known"] [none, some 1] sc_Lvalue.nd rfl (Or.inl rfl) (pi_tupK K rfl (pe_slice (sl_tupK K rfl) (pv 0) (po_some pe_int) po_none)) ⟨⟨rfl, rfl, by first | exact .inl rfl | exact .inr rfl⟩, trivial⟩ (fun _ _ _ _ => (pg_name (i := 0) (by decide +kernel : List.Nodup (["_law_part", "_law_known"] : List Str)) rfl (Or.inl rfl))) (fun _ _ _ _ => (pf_one (pt_val (pe_callB (call_isTupG K rfl) rfl T.z_isinstance boot_isinstance (pa_cons (pv 0) (pa_cons (pe_bltn (v := .ty "tuple") rfl T.z_tuple boot_tuple rfl) pa_nil)))))) (fun _ _ _ _ => (pe_call ih hr rfl T.F13.mg T.F13.fn.kp T.F13.bd .nil pass0 (pa_cons (pv 0) (pa_cons (pv 1) pa_nil)))))
      (pss_cons (ps_if (pt_cmpR (op_inK K rfl) pe_non (pv 2) (by with_unfolding_all rfl)) (pss_one (ps_ret pe_non)) pss_nil)
      (pss_cons (ps_setCB (i := 3) ["_law_word"] [none] sc_Lvalue.nd rfl (Or.inl rfl) (pi_listK K rfl (pv 2)) trivial (fun _ _ _ _ => (pg_name (i := 0) (by decide +kernel : List.Nodup (["_law_word"] : List Str)) rfl (Or.inl rfl))) (fun _ _ _ _ => pf_nil) (fun _ _ _ _ => (pe_compB ["_law_letter"] [none] (pi_rev rfl T.z_reversed (pa_cons (pv 0) pa_nil)) trivial (fun _ _ _ _ => (pg_name (i := 0) (by decide +kernel : List.Nodup (["_law_letter"] : List Str)) rfl (Or.inl rfl))) (fun _ _ _ _ => pf_nil) (fun _ _ _ _ => (pe_call G_Lother (hr.mono (by omega)) rfl T.F10.mg T.F10.fn.kp T.F10.bd .nil pass0 (pa_cons (pv 0) pa_nil))))))
      (pss_cons (ps_if (pt_cmpR op_eqS (pe_ix (ix_tupK K rfl) (pv 0) pe_int (fun _ _ => rfl)) (pe_S [119, 97, 108, 107] (by decide +kernel)) (nomark _)) (pss_one (ps_set (i := 4) sc_Lvalue.nd rfl (Or.inl rfl) (pe_ix (ix_tupK K rfl) (pv 0) pe_int (fun _ _ => rfl)))) (pss_one (ps_if (pt_cmpR op_eqS (pe_ix (ix_tupK K rfl) (pv 0) pe_int (fun _ _ => rfl)) (pe_S [110, 97, 109, 101] (by decide +kernel)) (nomark _)) (pss_one (ps_set (i := 4) sc_Lvalue.nd rfl (Or.inl rfl) (pe_dget (hu_of hr) (pv 1) (pe_ix (ix_tupK K rfl) (pv 0) pe_int (fun _ _ => rfl)) (fun _ _ => rfl)))) (pss_one (ps_if (pt_cmpR op_eqS (pe_ix (ix_tupK K rfl) (pv 0) pe_int (fun _ _ => rfl)) (pe_S [116, 104, 101, 110] (by decide +kernel)) (nomark _)) (pss_one (ps_set (i := 4) sc_Lvalue.nd rfl (Or.inl rfl) (pe_op op_addS (pe_ix (ix_listK K rfl) (pv 2) pe_int (fun _ _ => rfl)) (pe_ix (ix_listK K rfl) (pv 2) pe_int (fun _ _ => rfl))))) (pss_one (ps_if (pt_cmpR op_eqS (pe_ix (ix_tupK K rfl) (pv 0) pe_int (fun _ _ => rfl)) (pe_S [98, 97, 99, 107] (by decide +kernel)) (nomark _)) (pss_one (ps_set (i := 4) sc_Lvalue.nd rfl (Or.inl rfl) (pe_bmK K rfl PySem.F.plainAttrs_str PySem.F.slot_str_join PySem.F.type_str_join (mt_joinK K rfl) (pe_S [] (by decide +kernel)) (pa_cons (pe_ix (ix_listK K rfl) (pv 3) pe_int (fun _ _ => rfl)) pa_nil)))) (pss_one (ps_if (pt_cmpR op_eqS (pe_ix (ix_tupK K rfl) (pv 0) pe_int (fun _ _ => rfl)) (pe_S [97, 103, 97, 105, 110] (by decide +kernel)) (nomark _)) (pss_one (ps_set (i := 4) sc_Lvalue.nd rfl (Or.inl rfl) (pe_op op_mulS (pe_ix (ix_listK K rfl) (pv 2) pe_int (fun _ _ => rfl)) (pe_ix (ix_tupK K rfl) (pv 0) pe_int (fun _ _ => rfl))))) (pss_cons (ps_set (i := 5) sc_Lvalue.nd rfl (Or.inr rfl) (pe_disp (pps_cons (pe_ix (ix_tupK K rfl) (pv 0) pe_int (fun _ _ => rfl)) (pe_ix (ix_listK K rfl) (pv 2) pe_int (fun _ _ => rfl)) (pps_cons (pe_call G_Lother (hr.mono (by omega)) rfl T.F10.mg T.F10.fn.kp T.F10.bd .nil pass0 (pa_cons (pe_ix (ix_tupK K rfl) (pv 0) pe_int (fun _ _ => rfl)) pa_nil)) (pe_bmK K rfl PySem.F.plainAttrs_str PySem.F.slot_str_join PySem.F.type_str_join (mt_joinK K rfl) (pe_S [] (by decide +kernel)) (pa_cons (pe_ix (ix_listK K rfl) (pv 3) pe_int (fun _ _ => rfl)) pa_nil)) pps_nil)) rfl rfl (by simp) (by decide)))
      (pss_one (ps_set (i := 4) sc_Lvalue.nd rfl (Or.inl rfl) (pe_bmK K rfl PySem.F.plainAttrs_str PySem.F.slot_str_join PySem.F.type_str_join (mt_joinK K rfl) (pe_S [] (by decide +kernel)) (pa_cons (pe_compB ["_law_letter", "_law_swap"] [none, some 5] (pi_str (pe_ix (ix_listK K rfl) (pv 2) pe_int (fun _ _ => rfl))) ⟨⟨rfl, rfl, by first | exact .inl rfl | exact .inr rfl⟩, trivial⟩ (fun _ _ _ _ => (pg_name (i := 0) (by decide +kernel : List.Nodup (["_law_letter", "_law_swap"] : List Str)) rfl (Or.inl rfl))) (fun _ _ _ _ => pf_nil) (fun _ _ _ _ => (pe_dget2 (hu_of hr) (pv 1) (pv 0) (pv 0) ⟨rfl, rfl, rfl, rfl⟩))) pa_nil))))))))))))))
      (pss_cons (ps_set (i := 4) sc_Lvalue.nd rfl (Or.inl rfl) (pe_call G_Lshortened (hr.mono (by omega)) rfl T.F12.mg T.F12.fn.kp T.F12.bd .nil pass0 (pa_cons (pv 4) pa_nil)))
      (pss_one (ps_ret (pe_ix (ix_listK K rfl) (pe_lst (pa_cons (pv 4) (pa_cons pe_non pa_nil))) (pe_callTy call_int1 rfl T.z_int boot_int (pa_cons (pe_cmpR op_gt (pe_callB call_lenS rfl T.z_len PySem.boot_len (pa_cons (pv 4) pa_nil)) pe_int (nomark _)) pa_nil)) (fun _ _ => rfl))))))))), ?_⟩
  obtain ⟨a, d, t, kvs, rfl, hT, hto, hdp, hn, hdk, hkn, q⟩ := h
  have hs : (100000 : Nat) < sizeLine := by decide
  obtain ⟨xs, hh, hit, hxl⟩ := hT.items
  have cv : cutV (V.str (S (kOf t)) :: xs) (some 1) none = xs := by
    have := cut_from (V.str (S (kOf t)) :: xs) 1
    rw [show ((1 : Nat) : Int) = 1 from rfl] at this
    show cut (V.str (S (kOf t)) :: xs) (some 1) none = _
    rw [this]; rfl
  have hwh : ¬ (HT.sIx (V.str (S (kOf t)) :: xs).length 0 (some 1) = 0 ∧ HT.sIx (V.str (S (kOf t)) :: xs).length (V.str (S (kOf t)) :: xs).length none = (V.str (S (kOf t)) :: xs).length) := fun z => by
    have := z.1
    rw [show (1 : Int) = ((1 : Nat) : Int) from rfl, HT.sIx_nat] at this
    simp only [List.length_cons] at this
    omega
  refine ⟨_, rfl, _, rfl, a, _, rfl, SqT.of hh, hwh, fun c nc => ?_⟩
  rw [cv]
  have s2 := Same.upd (o := .tup xs) nc
  have hc : upd H c (.tup xs) c = some (.tup xs) := upd_same
  generalize upd H c (.tup xs) = H2 at s2 hc ⊢
  have hit2 : Itm H2 xs (subs t) := hit.ts (TSame.of s2)
  refine ⟨c, rfl, ⟨_, SqT.of hc⟩, ?_⟩
  refine comp_tup (K := K) (a := c) (xs := xs) (fun i acc H' => ∃ k, k ≤ (subs t).length ∧ Itm H2 (xs.drop i) ((subs t).drop k) ∧ acc = vvs kvs ((subs t).take k) ∧ Same H2 H') (by omega) (fun i acc H' ⟨_, _, _, _, s3⟩ => SqT.of (s3 _ _ hc)) ⟨0, Nat.zero_le _, by simpa using hit2, rfl, Same.refl _⟩ ?_ ?_
  · rintro i x acc H3 Nx hi hx hl3 ⟨k, hkl, hitk, rfl, s3⟩ nx
    have ts : TSame H2 H3 := TSame.of s3
    have hi' := (List.getElem?_eq_some_iff.mp hx)
    rw [List.drop_eq_getElem_cons hi'.1, hi'.2] at hitk
    generalize hdk' : (subs t).drop k = dk at hitk
    cases hitk with
    | str h =>
      refine ⟨⟨rfl, trivial⟩, ⟨_, rfl, _, rfl, .inr (.inl ⟨_, rfl, _, rfl, ?_⟩)⟩⟩
      exact iteN rfl (nx _ _ (by omega) ⟨k, hkl, by rw [hdk']; exact h, rfl, s3⟩)
    | int h =>
      refine ⟨⟨rfl, trivial⟩, ⟨_, rfl, _, rfl, .inr (.inr ⟨_, rfl, _, rfl, ?_⟩)⟩⟩
      exact iteN rfl (nx _ _ (by omega) ⟨k, hkl, by rw [hdk']; exact h, rfl, s3⟩)
    | @tm b u _ tl hU h =>
      have hkl2 : k < (subs t).length := by
        have := congrArg List.length hdk'
        rw [List.length_drop, List.length_cons] at this
        omega
      have hku : (subs t)[k]? = some u := by
        have := congrArg (fun z => z[0]?) hdk'
        simpa using this
      have hk1 : (subs t).drop (k + 1) = tl := by
        have := congrArg List.tail hdk'
        simpa using this
      have hu := List.mem_of_getElem? hku
      obtain ⟨ys, hy⟩ := (hU.ts ts).head
      refine ⟨⟨rfl, trivial⟩, ⟨_, rfl, _, rfl, .inl ⟨b, _, rfl, hy, _, rfl, iteY rfl ?_⟩⟩⟩
      refine ⟨_, rfl, _, rfl, b, d, u, kvs, rfl, hU.ts ts, subs_ok hto hu, subs_dep hdp hu, by omega, s3 _ _ (s2 _ _ hdk), hkn.sub hu, fun H4 s4 => ?_⟩
      refine nx _ _ (by simpa using hl3) ⟨k + 1, hkl2, by rw [hk1]; exact h, ?_, s3.trans s4⟩
      rw [vvs_snoc hku, val_vV]
  · rintro acc H3 D hl3 ⟨k, hkl, hitk, rfl, s3⟩ hD
    rw [List.drop_length] at hitk
    have hk : k = (subs t).length := by
      generalize hdk' : (subs t).drop k = dk at hitk
      cases hitk
      have := congrArg List.length hdk'
      rw [List.length_drop] at this
      simp at this
      omega
    rw [hk, List.take_length] at hl3 ⊢
    have s04 : Same H (upd H3 D (.lst (vvs kvs (subs t)))) := (s2.trans s3).trans (Same.upd hD)
    have hD4 : upd H3 D (.lst (vvs kvs (subs t))) D = some (.lst (vvs kvs (subs t))) := upd_same
    generalize upd H3 D (.lst (vvs kvs (subs t))) = H4 at s04 hD4 ⊢
    refine ⟨_, rfl, D, _, rfl, .inl (SqL.of hD4), rfl, vvs_flat kvs _, _, rfl, ?_⟩
    cases hv : vals kvs (subs t) with
    | none =>
      refine iteY (vvs_none hv) ?_
      have hval : val kvs t = none := by rw [val_eq, hv]; rfl
      rw [hval] at q
      exact q _ s04
    | some ws =>
      rw [vvs_some hv] at hD4 ⊢
      refine iteN (txs_noNon ws) ?_
      refine ⟨_, rfl, D, rfl, ⟨_, SqL.of hD4⟩, ?_⟩
      obtain ⟨m1, m2⟩ := vals_mem hv
      have hws : ∀ x ∈ ws, wOk x := fun x hx => by
        obtain ⟨u, hu, e⟩ := m2 x hx
        exact val_ok u (subs_ok hto hu) (hkn.sub hu) e
      have hwl : ws.length ≤ 2 := by rw [m1]; cases t <;> simp [subs]
      refine comp_list (K := K) (a := D) (xs := txs ws) (fun i acc H' => Same H4 H' ∧ ∃ bs, acc = rfs bs ∧ bs.length = i ∧ BkAt H' bs ws) (by rw [txs_len]; omega) (fun i acc H' h => SqL.of (h.1 _ _ hD4)) ⟨Same.refl _, [], rfl, rfl, fun j b x h => by simp at h⟩ ?_ ?_
      · rintro i x acc H5 Nx hi hx hl5 ⟨s5, bs, rfl, hbl, hbk⟩ nx
        obtain ⟨w, hw, rfl⟩ := txs_get hx
        have hwo := hws w (List.mem_of_getElem? hw)
        have hwo2 := hwo.2
        refine ⟨trivial, yes_ite ?_⟩
        refine ⟨_, rfl, w, rfl, by omega, ?_⟩
        rw [sgs_rev]
        refine comp_fix (xs := sgs w.reverse) (fun i acc H' => H' = H5 ∧ acc = sgs ((w.reverse.take i).map ctr)) (by rw [sgs_len, List.length_reverse]; omega) ⟨rfl, rfl⟩ ?_ ?_
        · rintro j y acc H6 Nx' hj hy hl6 ⟨rfl, rfl⟩ nx'
          obtain ⟨c', hc', rfl⟩ := sgs_get hy
          refine ⟨trivial, yes_ite ⟨_, rfl, c', rfl, hwo.1 c' (List.mem_reverse.mp (List.mem_of_getElem? hc')), nx' _ _ (by simpa using hl6) ⟨rfl, ?_⟩⟩⟩
          rw [sgs_snoc, ← take_snoc hc', List.map_append]
          rfl
        · rintro acc H6 D2 hl6 ⟨rfl, rfl⟩ hD2
          have e2 : sgs ((w.reverse.take (sgs w.reverse).length).map ctr) = txs (ones (tnd w)) := by
            rw [sgs_len, List.take_of_length_le (Nat.le_refl _), List.map_reverse, ← sgs_ones]; rfl
          rw [e2]
          have sD := Same.upd (o := HO.lst (txs (ones (tnd w)))) hD2
          exact nx _ _ (by simpa [rfs] using hl5) ⟨s5.trans sD, bs ++ [D2], rfs_snoc _ _, by simp [hbl], (hbk.same sD).snoc hbl hw upd_same⟩
      · rintro acc H5 B hl5 ⟨s5, bs, rfl, hbl, hbk⟩ hB
        rw [txs_len] at hbl
        have sB := Same.upd (o := HO.lst (rfs bs)) hB
        have hB6 : upd H5 B (.lst (rfs bs)) B = some (.lst (rfs bs)) := upd_same
        have hbk6 := hbk.same sB
        have s06 := (s04.trans s5).trans sB
        have hD6 := sB _ _ (s5 _ _ hD4)
        clear hl5
        generalize upd H5 B (.lst (rfs bs)) = H6 at sB hB6 hbk6 s06 hD6 ⊢
        have hmd := made_ok hto hkn m1 hws
        have hval : val kvs t = cap (red (made kvs t ws)) := by rw [val_eq, hv]; rfl
        have hT6 := hT.same s06
        have hd6 := s06 _ _ hdk
        have fin : ∀ (z5 : Option V) (l : List Nat) (H' : Hp), l = made kvs t ws → Same H6 H' → tSeq (tAsg (tCall (sp_Lshortened K) [] E0 (tCons (tVar 4) tNil)) (gName 4))
              (tRet
                (tOp (rIxL K) (tLst (tCons (tVar 4) (tCons (tC V.non) tNil)))
                  (tCB
                    (fun xs H Q =>
                      (∃ i, xs = [V.int i] ∧ Q (V.int i) H) ∨
                        ∃ k, xs = [V.bl k] ∧ Q (V.int (if k = true then 1 else 0)) H)
                    (tCons
                      (tOp (rI0 fun i j => V.bl (decide (j < i)))
                        (tCB (fun xs H Q => ∃ l, xs = [V.str (S l)] ∧ l.length ≤ sizeLine ∧ Q (V.int ↑l.length) H)
                          (tCons (tVar 4) tNil))
                        (tC (V.int 60)))
                      tNil)))) { nx := fun x H' => Q V.non H', rt := Q } [some (.ref a), some (.ref d), some (.ref D), some (.ref B), some (.str (S l)), z5] H' := by
          intro z5 l H' hlm s7
          subst hlm
          refine ⟨_, rfl, made kvs t ws, rfl, hmd.1, hmd.2, fun H8 s8 => ?_⟩
          have s08 := (s06.trans s7).trans s8
          have hrl : (red (made kvs t ws)).length ≤ 10000 := Nat.le_trans (red_len _) hmd.2
          refine ⟨_, rfl, by show 2 ≤ sizeLine; decide, fun p np => ?_⟩
          refine ⟨_, rfl, red (made kvs t ws), rfl, by omega, _, _, rfl, rfl, .inr ⟨_, rfl, p, _, _, vV (val kvs t), rfl, rfl, SqL.of upd_same, ?_, ?_⟩⟩
          · rw [hval]
            unfold cap
            by_cases g : 60 < (red (made kvs t ws)).length
            · rw [if_pos g, decide_eq_true (by omega)]; rfl
            · rw [if_neg g, decide_eq_false (by omega)]; rfl
          · have q' := q (upd H8 p (HO.lst [V.str (S (red (made kvs t ws))), V.non])) (s08.trans (Same.upd np))
            rw [val_vV] at q'
            exact q'
        clear hv hit hh hit2 hxl hdp cv hwh hD4 hitk hk hval hT q m2
        cases t with
        | walk w =>
          have h : H6 a = some (.tup [.str (S kWalk), .str (S w)]) := hT6
          refine ⟨_, rfl, a, _, 0, _, rfl, rfl, SqT.of h, rfl, _, _, rfl, rfl, _, rfl, iteY (by decide) ?_⟩
          exact ⟨_, rfl, a, _, 1, _, rfl, rfl, SqT.of h, rfl, fin none w _ rfl (Same.refl _)⟩
        | name s =>
          have h : H6 a = some (.tup [.str (S kName), .str (S s)]) := hT6
          refine ⟨_, rfl, a, _, 0, _, rfl, rfl, SqT.of h, rfl, _, _, rfl, rfl, _, rfl, iteN (by decide) ?_⟩
          refine ⟨_, rfl, a, _, 0, _, rfl, rfl, SqT.of h, rfl, _, _, rfl, rfl, _, rfl, iteY (by decide) ?_⟩
          exact ⟨_, rfl, _, rfl, a, _, 1, _, rfl, rfl, SqT.of h, rfl, d, _, rfl, (by show DGet H6 d (V.str (S s)) (some (V.str (S (kn kvs s)))); rw [← valW (hkn.has s List.mem_cons_self)]; exact DGet.k (k := kS s) hd6), fin none _ _ rfl (Same.refl _)⟩
        | thn x y =>
          obtain ⟨b, c, h, g1, g2⟩ := hT6
          obtain ⟨u, v, rfl⟩ := len_two (show ws.length = 2 from m1)
          have hu := hws u List.mem_cons_self
          have hv := hws v (List.mem_cons_of_mem _ List.mem_cons_self)
          have hu2 := hu.2
          have hv2 := hv.2
          refine ⟨_, rfl, a, _, 0, _, rfl, rfl, SqT.of h, rfl, _, _, rfl, rfl, _, rfl, iteN (by decide) ?_⟩
          refine ⟨_, rfl, a, _, 0, _, rfl, rfl, SqT.of h, rfl, _, _, rfl, rfl, _, rfl, iteN (by decide) ?_⟩
          refine ⟨_, rfl, a, _, 0, _, rfl, rfl, SqT.of h, rfl, _, _, rfl, rfl, _, rfl, iteY (by decide) ?_⟩
          exact ⟨_, rfl, D, _, 0, _, rfl, rfl, SqL.of hD6, rfl, _, rfl, D, _, 1, _, rfl, rfl, SqL.of hD6, rfl, u, v, rfl, rfl, by omega, fin none _ _ rfl (Same.refl _)⟩
        | back t =>
          obtain ⟨b, h, g⟩ := hT6
          obtain ⟨u, rfl⟩ : ∃ x, ws = [x] := List.length_eq_one_iff.mp m1
          have hu := tnd_ok (hws u List.mem_cons_self)
          have hu2 := hu.2
          obtain ⟨b0, rfl⟩ : ∃ x, bs = [x] := List.length_eq_one_iff.mp hbl
          have hb0 := hbk6 0 b0 u rfl rfl
          refine ⟨_, rfl, a, _, 0, _, rfl, rfl, SqT.of h, rfl, _, _, rfl, rfl, _, rfl, iteN (by decide) ?_⟩
          refine ⟨_, rfl, a, _, 0, _, rfl, rfl, SqT.of h, rfl, _, _, rfl, rfl, _, rfl, iteN (by decide) ?_⟩
          refine ⟨_, rfl, a, _, 0, _, rfl, rfl, SqT.of h, rfl, _, _, rfl, rfl, _, rfl, iteN (by decide) ?_⟩
          refine ⟨_, rfl, a, _, 0, _, rfl, rfl, SqT.of h, rfl, _, _, rfl, rfl, _, rfl, iteY (by decide) ?_⟩
          exact ⟨rfl, _, rfl, B, _, 0, _, rfl, rfl, SqL.of hB6, rfl, b0, ones (tnd u), rfl, rfl, SqL.of hb0, by rw [ones_sum]; omega, fin none _ _ (ones_flat _) (Same.refl _)⟩
        | again k t =>
          obtain ⟨b, h, g⟩ := hT6
          obtain ⟨u, rfl⟩ : ∃ x, ws = [x] := List.length_eq_one_iff.mp m1
          have hu := hws u List.mem_cons_self
          have hk6 : k ≤ 6 := hto.1
          have := Nat.mul_le_mul hu.2 hk6
          refine ⟨_, rfl, a, _, 0, _, rfl, rfl, SqT.of h, rfl, _, _, rfl, rfl, _, rfl, iteN (by decide) ?_⟩
          refine ⟨_, rfl, a, _, 0, _, rfl, rfl, SqT.of h, rfl, _, _, rfl, rfl, _, rfl, iteN (by decide) ?_⟩
          refine ⟨_, rfl, a, _, 0, _, rfl, rfl, SqT.of h, rfl, _, _, rfl, rfl, _, rfl, iteN (by decide) ?_⟩
          refine ⟨_, rfl, a, _, 0, _, rfl, rfl, SqT.of h, rfl, _, _, rfl, rfl, _, rfl, iteN (by decide) ?_⟩
          refine ⟨_, rfl, a, _, 0, _, rfl, rfl, SqT.of h, rfl, _, _, rfl, rfl, _, rfl, iteY (by decide) ?_⟩
          exact ⟨_, rfl, D, _, 0, _, rfl, rfl, SqL.of hD6, rfl, _, rfl, a, _, 1, _, rfl, rfl, SqT.of h, rfl, u, (k : Int), rfl, rfl, by omega, by rw [Int.toNat_natCast]; omega, fin none _ _ (by rw [Int.toNat_natCast]; rfl) (Same.refl _)⟩
        | fr c x' y' =>
          obtain ⟨b, e, h, g1, g2⟩ := hT6
          obtain ⟨x, y, rfl⟩ := len_two (show ws.length = 2 from m1)
          have hx := hws x List.mem_cons_self
          have hy := hws y (List.mem_cons_of_mem _ List.mem_cons_self)
          have hx2 := hx.2
          have hy2 := hy.2
          obtain ⟨b0, b1, rfl⟩ := len_two (show bs.length = 2 from hbl)
          have hb1 := hbk6 1 b1 y rfl rfl
          have hyt := (tnd_ok hy).2
          obtain ⟨c1, c2, c3, c4⟩ := ctr_small c hto.1
          refine ⟨_, rfl, a, _, 0, _, rfl, rfl, SqT.of h, rfl, _, _, rfl, rfl, _, rfl, iteN (by decide) ?_⟩
          refine ⟨_, rfl, a, _, 0, _, rfl, rfl, SqT.of h, rfl, _, _, rfl, rfl, _, rfl, iteN (by decide) ?_⟩
          refine ⟨_, rfl, a, _, 0, _, rfl, rfl, SqT.of h, rfl, _, _, rfl, rfl, _, rfl, iteN (by decide) ?_⟩
          refine ⟨_, rfl, a, _, 0, _, rfl, rfl, SqT.of h, rfl, _, _, rfl, rfl, _, rfl, iteN (by decide) ?_⟩
          refine ⟨_, rfl, a, _, 0, _, rfl, rfl, SqT.of h, rfl, _, _, rfl, rfl, _, rfl, iteN (by decide) ?_⟩
          intro p np
          have sp := Same.upd (o := HO.dK []) np
          refine ⟨_, rfl, a, _, 1, _, rfl, rfl, SqT.of (sp _ _ h), rfl, _, rfl, D, _, 1, _, rfl, rfl, SqL.of (sp _ _ hD6), rfl, _, rfl, a, _, 1, _, rfl, rfl, SqT.of (sp _ _ h), rfl, c, rfl, .inl hto.1, rfl, _, rfl, B, _, 1, _, rfl, rfl, SqL.of (sp _ _ hB6), rfl, b1, ones (tnd y), rfl, rfl, SqL.of (sp _ _ hb1), by rw [ones_sum]; omega, ?_⟩
          refine ⟨upd_same, [(kS [c], .str (S y)), (kS [ctr c], .str (S (tnd y)))], by rw [ones_flat]; rfl, (by show 2 ≤ 15; decide), ?_⟩
          have hne : kS [c] ≠ kS [ctr c] := fun z => c3 (List.cons.inj (kS_inj z)).1.symm
          have em : mergeK [] [(kS [c], V.str (S y)), (kS [ctr c], .str (S (tnd y)))] = [(kS [c], .str (S y)), (kS [ctr c], .str (S (tnd y)))] := by
            show putK (putK [] (kS [c]) (.str (S y))) (kS [ctr c]) (.str (S (tnd y))) = _
            have e1 : putK [] (kS [c]) (V.str (S y)) = [(kS [c], V.str (S y))] := rfl
            rw [e1, putK_new _ (by rw [valV_neg hne]; rfl)]
            rfl
          rw [em]
          have hp : upd (upd H6 p (HO.dK [])) p (.dK [(kS [c], .str (S y)), (kS [ctr c], .str (S (tnd y)))]) p = some (.dK [(kS [c], .str (S y)), (kS [ctr c], .str (S (tnd y)))]) := upd_same
          have sA : Same H6 (upd (upd H6 p (HO.dK [])) p (.dK [(kS [c], .str (S y)), (kS [ctr c], .str (S (tnd y)))])) := fun b o e => by rw [upd_ne (ne_of_none e np)]; exact sp b o e
          generalize upd (upd H6 p (HO.dK [])) p (.dK [(kS [c], .str (S y)), (kS [ctr c], .str (S (tnd y)))]) = H7 at hp sA ⊢
          refine ⟨rfl, _, rfl, D, _, 0, _, rfl, rfl, SqL.of (sA _ _ hD6), rfl, x, rfl, ?_⟩
          refine comp_fix (xs := sgs x) (fun i acc H' => H' = H7 ∧ acc = txs ((x.take i).map (sub1 c y))) (by rw [sgs_len]; omega) ⟨rfl, rfl⟩ ?_ ?_
          · rintro i e acc H3 Nx hi he hl ⟨rfl, rfl⟩ nx
            obtain ⟨d', hd', rfl⟩ := sgs_get he
            refine ⟨⟨rfl, trivial⟩, yes_ite ⟨_, rfl, p, rfl, .inl ⟨_, .inl hp⟩, _, rfl, _, rfl, _, DGet.k (k := kS [d']) hp, ?_⟩⟩
            have ev : (valV [(kS [c], V.str (S y)), (kS [ctr c], V.str (S (tnd y)))] (kS [d'])).getD (V.str (S [d'])) = V.str (S (sub1 c y d')) := by
              unfold sub1
              by_cases z : d' = c
              · rw [if_pos z, z, valV_pos rfl]; rfl
              · rw [if_neg z, valV_neg (fun w => z (List.cons.inj (kS_inj w)).1.symm)]
                by_cases z2 : d' = ctr c
                · rw [if_pos z2, valV_pos (by rw [z2])]; rfl
                · rw [if_neg z2, valV_neg (fun w => z2 (List.cons.inj (kS_inj w)).1.symm)]; rfl
            rw [ev]
            refine nx _ _ (by simpa using hl) ⟨rfl, ?_⟩
            rw [txs_snoc, ← take_snoc hd', List.map_append]
            rfl
          · rintro acc H3 D2 hl ⟨rfl, rfl⟩ hD2
            rw [sgs_len, List.take_length]
            have hsz := (subw_ok (c := c) hy hx.1).2
            refine ⟨D2, x.map (sub1 c y), rfl, rfl, SqL.of upd_same, ?_, fin (some (.ref p)) _ _ rfl (sA.trans (Same.upd hD2))⟩
            have : ((x.map (sub1 c y)).map List.length).sum = (subw c y x).length := by unfold subw; rw [List.length_flatten]
            rw [this]
            omega
theorem ok_Lvalue (T : Txt K mg f0 f1 f2 f3 f4 f5 f6 f7 f8 f9 f10 f11 f12 f13 f14 f15 f16 f17 f18 c_TooLong c_MeetError c_NoName c_NoRow c_NoText c_Twice g_TooLong d0 d1 d2 d3 d4 d5 d6 d7 d8 d9 d10 d11 d12 d13 d14 d15 d16 d17 d18 e_TooLong) : ∀ n, FnOk P w K mg base CX0 (3 + n) f13 d13 ["_law_term", "_law_known"] (sp_Lvalue K n)
  | 0 => fn_never fun vs H Q E h => nev_Lvalue h
  | n + 1 => step_Lvalue T n (ok_Lvalue T n)
/-- names: 0 program, 1 known, 2 name, 3 term -/
theorem ok_worked (T : Txt K mg f0 f1 f2 f3 f4 f5 f6 f7 f8 f9 f10 f11 f12 f13 f14 f15 f16 f17 f18 c_TooLong c_MeetError c_NoName c_NoRow c_NoText c_Twice g_TooLong d0 d1 d2 d3 d4 d5 d6 d7 d8 d9 d10 d11 d12 d13 d14 d15 d16 d17 d18 e_TooLong) : FnOk P w K mg base (CXF P w K) 14 f7 d7 ["program"] (sp_worked K c_TooLong) := by
  have G_word_of := ok_word_of (P := P) (w := w) (base := base) T
  refine T.F7.fn.okX sc_worked (fun vs H Q E h => len_worked h) (fun cdv A outer s H vs Q E hr h => ?_)
  refine ⟨_, (pss_cons (ps_set (i := 1) sc_worked.nd rfl (Or.inl rfl) pe_dnewK)
      (pss_cons (ps_for (PassesOwn.leaving) rfl (pi_tupK K rfl (pv 0)) (pg_tupK (n := 2) K rfl rfl (pgs_cons (pg_name (i := 2) sc_worked.nd rfl (Or.inl rfl)) (pgs_cons (pg_name (i := 3) sc_worked.nd rfl (Or.inl rfl)) pgs_nil))) (pss_one (ps_dput (hu_of hr) (pv 1) (pv 2) (pe_callX (G_word_of 8) (hr.mono (by decide)) rfl T.F6.mg T.F6.fn.kp T.F6.bd .nil passF (pa_cons (pv 2) (pa_cons (pv 3) (pa_cons (pv 1) pa_nil)))) rfl)))
      (pss_one (ps_ret (pe_callTy (call_listVals rfl) rfl T.z_list boot_list (pa_cons (pe_bm0K K rfl PySem.F.plainAttrs_dict PySem.F.slot_dict_values PySem.F.type_dict_values mt_values (pv 1)) pa_nil)))))), ?_⟩
  obtain ⟨p, ks, rfl, hp, q1, q2⟩ := h
  have hs : (100000 : Nat) < sizeLine := by decide
  have hfw := hp.at_.fw
  intro d nd
  refine ⟨_, rfl, p, rfl, ⟨_, SqT.of (Same.upd nd _ _ hp.at_.tp)⟩, ?_⟩
  refine for_tup (K := K) (a := p) (xs := rwv ks) (fun i σ H' => ∃ (nv tv : Option V) (kvs : List (List Nat × List Nat)), σ = [some (.ref p), some (.ref d), nv, tv] ∧ H' d = some (.dK (kvW kvs)) ∧ kvs.map (·.1) = nmk (ks.take i) ∧ (∀ q ∈ kvs, wOk q.2) ∧ runP [] (rwt ks) = runP kvs (rwt (ks.drop i)) ∧ SameB d H H')
    ⟨none, none, [], rfl, upd_same, rfl, by simp, rfl, SameB.of (Same.upd nd)⟩ (fun i σ H' _ ⟨_, _, _, _, _, _, _, _, s⟩ => SqT.of (s _ _ hp.at_.tp (ne_of_none hp.at_.tp nd))) ?_ ?_
  · rintro i x σ H2 hx ⟨nv, tv, kvs, rfl, hd2, hkk, hkw, hm, s2⟩
    obtain ⟨k, hk, rfl⟩ := rwv_get hx
    have ts : TSame H H2 := fun c xs e => s2 c _ e (ne_of_none e nd)
    have hkm := List.mem_of_getElem? hk
    have hrw := (hp.at_.rw k hkm).ts ts
    have hi := (List.getElem?_eq_some_iff.mp hk).1
    have hkl : kvs.length ≤ 8 := by have := congrArg List.length hkk; unfold nmk at this; rw [List.length_map, List.length_map, List.length_take] at this; omega
    rw [runP_step ks i k _ hk] at hm
    have sH : Same H H2 := fun c o e => s2 c o e (ne_of_none e nd)
    have hkn : KnOk kvs k.t := ⟨hkw, fun s hs => kv_has (by rw [hkk]; exact hp.let_ i k hk s hs)⟩
    refine ⟨k.r, _, rfl, SqT.of hrw.tp, rfl, _, _, rfl, _, _, rfl, rfl, ?_⟩
    refine ⟨_, rfl, _, rfl, _, rfl, k.nm, k.a, d, k.t, kvs, rfl, hrw.tm, hp.ok k hkm, Nat.le_trans hrw.dp (by decide), by decide, hd2, hkn, fun x hx H3 s3 => ?_, fun hx e H3 he s3 => ?_⟩
    · rw [hx] at hm
      refine ⟨_, rfl, _, rfl, d, _, rfl, DPut.k (k := kS k.nm) (s3 _ _ hd2) (by unfold kvW; rw [List.length_map]; omega), ?_⟩
      have ek : nmk (ks.take (i + 1)) = nmk (ks.take i) ++ [k.nm] := by rw [← take_snoc hk]; unfold nmk; rw [List.map_append]; rfl
      refine ⟨_, _, kvs ++ [(k.nm, x)], rfl, ?_, by rw [List.map_append, hkk, ek]; rfl, fun q hq => ?_, hm, fun c o z w => by rw [upd_ne w]; exact s3 _ _ (s2 c o z w)⟩
      · rw [upd_same, putK_new _ (valW_none (by rw [hkk]; exact nm_new hk hp.nd)), kvW_snoc]
      · rcases List.mem_append.mp hq with z | z
        · exact hkw q z
        · rw [List.mem_singleton.mp z]; exact val_ok k.t (hp.ok k hkm) hkn hx
    · rw [hx] at hm
      exact q2 _ hm e _ he (sH.trans s3)
  · rintro σ H2 ⟨nv, tv, kvs, rfl, hd2, hkk, hkw, hm, s2⟩
    rw [rwv_len, List.drop_length] at hm
    have sH : Same H H2 := fun c o e => s2 c o e (ne_of_none e nd)
    have hkl : kvs.length ≤ 8 := by have := congrArg List.length hkk; unfold nmk at this; rw [List.length_map, List.length_map, List.length_take, rwv_len] at this; omega
    refine ⟨_, rfl, .inr (.inr (.inl ⟨rfl, .inl ⟨_, hd2⟩⟩)), d, _, rfl, rfl, hd2, fun vp nv2 => ?_⟩
    refine ⟨vp, d, _, rfl, upd_same, by rw [upd_ne (ne_of_none hd2 nv2)]; exact hd2, by unfold kvW; rw [List.length_map]; omega, fun l nl => ?_⟩
    rw [kvW_vals]
    have sl := (sH.trans (Same.upd nv2)).trans (Same.upd (o := HO.lst (txs (kvs.map (·.2)))) nl)
    refine q1 kvs hm l _ ?_ upd_same sl
    cases e : H l with
    | none => rfl
    | some o => rw [(sH.trans (Same.upd nv2)) _ _ e] at nl; cases nl
/-- names: 0 _law_program, 1 _law_found, 2 e -/
theorem ok_Ltold (T : Txt K mg f0 f1 f2 f3 f4 f5 f6 f7 f8 f9 f10 f11 f12 f13 f14 f15 f16 f17 f18 c_TooLong c_MeetError c_NoName c_NoRow c_NoText c_Twice g_TooLong d0 d1 d2 d3 d4 d5 d6 d7 d8 d9 d10 d11 d12 d13 d14 d15 d16 d17 d18 e_TooLong) : FnOk P w K mg base CX0 15 f15 d15 ["_law_program"] (sp_Ltold K) := by
  have G_worked := ok_worked (P := P) (w := w) (base := base) T
  refine T.F15.fn.ok sc_Ltold (fun vs H Q E h => len_Ltold h) (fun cdv A outer s H vs Q E hr h => ?_)
  refine ⟨_, (pss_cons (ps_set (i := 1) sc_Ltold.nd rfl (Or.inl rfl) pe_non)
      (pss_cons (ps_try (n := 2) T.x_MeetError rfl T.m_MeetError sc_Ltold.nd rfl rfl rfl rfl rfl (fun pn W E hth hps => (pss_cons (ps_set (i := 1) sc_Ltold.nd rfl (Or.inl rfl) (pe_callX G_worked (hr.mono (by decide)) rfl T.F7.mg T.F7.fn.kp T.F7.bd .nil hps (pa_cons (pv 0) pa_nil)))
      (pss_one (ps_if (pt_not (pt_val (pe_callB (call_isListG K rfl) rfl T.z_isinstance boot_isinstance (pa_cons (pv 1) (pa_cons (pe_bltn (v := .ty "list") rfl T.z_list boot_list rfl) pa_nil))))) (pss_one (ps_set (i := 1) sc_Ltold.nd rfl (Or.inl rfl) (pe_S [101, 108, 115, 101] (by decide +kernel)))) pss_nil)))) (fun ev => (pss_cons (ps_if (PW.pt (pw_or (pt_not (pt_val (pe_callB (call_isX K rfl) rfl T.z_isinstance boot_isinstance (pa_cons (pv 2) (pa_cons (pe_glob (v := .ref c_TooLong) rfl T.m_TooLong rfl) pa_nil))))) (pw_or (pt_val (pe_callB (call_isXT K rfl) rfl T.z_isinstance boot_isinstance (pa_cons (pv 2) (pa_cons (pe_tup (pa_cons (pe_glob (v := .ref c_NoName) rfl T.m_NoName rfl) (pa_cons (pe_glob (v := .ref c_NoRow) rfl T.m_NoRow rfl) (pa_cons (pe_glob (v := .ref c_NoText) rfl T.m_NoText rfl) (pa_cons (pe_glob (v := .ref c_Twice) rfl T.m_Twice rfl) pa_nil))))) pa_nil)))) (pw_or1 (pt_not (pt_val (pe_callB (call_isX K rfl) rfl T.z_isinstance boot_isinstance (pa_cons (pv 2) (pa_cons (pe_bltn (v := .ty "ValueError") rfl T.z_ValueError boot_VE rfl) pa_nil))))))))) (pss_one (ps_ret pe_non)) pss_nil)
      (pss_one (ps_set (i := 1) sc_Ltold.nd rfl (Or.inl rfl) (pe_tup (pa_cons (pe_S [108, 111, 110, 103] (by decide +kernel)) (pa_cons (pe_xfldK K rfl (pv 2) rfl) pa_nil))))))))
      (pss_one (ps_ret (pv 1))))), ?_⟩
  obtain ⟨p, ks, rfl, hp, q1, q2⟩ := h
  walk_at "rd"
  refine ⟨p, ks, rfl, hp, fun kvs e q H2 nq hq s2 => ?_, fun nm e d H2 hd s2 => ?_⟩
  · exact ⟨_, rfl, _, rfl, .inl ⟨q, _, rfl, hq, _, rfl, iteN rfl ⟨_, rfl, q1 kvs e q H2 nq hq s2⟩⟩⟩
  · refine ⟨c_TooLong, rfl, T.r_TooLong, fun d' z => ⟨_, by cases z; exact hd⟩, fun x nx => ?_⟩
    have sx := Same.upd (o := excO false x c_TooLong (some d)) nx
    have hx : upd H2 x (excO false x c_TooLong (some d)) x = some (excO false x c_TooLong (some d)) := upd_same
    have hd2 := sx _ _ hd
    generalize upd H2 x (excO false x c_TooLong (some d)) = H3 at sx hx hd2 ⊢
    walk_at "rd"
    refine ⟨x, _, _, _, _, _, true, rfl, hx, fun d' z => ⟨_, by cases z; exact hd2⟩, T.x_TooLong, rfl, T.k_TooLong_TooLong, ?_⟩
    walk_at "rd"
    intro p4 n4
    have sp := Same.upd (o := .tup [.ref c_NoName, .ref c_NoRow, .ref c_NoText, .ref c_Twice]) n4
    refine ⟨x, _, _, _, p4, _, _, false, rfl, sp _ _ hx, fun d' z => ⟨_, by cases z; exact sp _ _ hd2⟩, T.x_TooLong, upd_same, rfl, kitAny_no (fun z hz => ?_), ?_⟩
    · skip
      rcases List.mem_cons.mp hz with rfl | hz
      · exact T.k_TooLong_NoName
      rcases List.mem_cons.mp hz with rfl | hz
      · exact T.k_TooLong_NoRow
      rcases List.mem_cons.mp hz with rfl | hz
      · exact T.k_TooLong_NoText
      rcases List.mem_cons.mp hz with rfl | hz
      · exact T.k_TooLong_Twice
      cases hz
    walk_at "rd"
    refine ⟨x, _, _, _, _, _, true, rfl, sp _ _ hx, fun d' z => ⟨_, by cases z; exact sp _ _ hd2⟩, T.x_TooLong, rfl, T.k_TooLong_ValueError, ?_⟩
    walk_at "rd"
    refine ⟨x, _, _, d, _, _, rfl, sp _ _ hx, T.x_TooLong, T.n_TooLong_name, sp _ _ hd2, rfl, ?_⟩
    walk_at "rd"
    intro p5 n5
    exact ⟨_, rfl, q2 nm e p5 _ upd_same (((s2.trans sx).trans sp).trans (Same.upd n5))⟩
/-- names: 0 _law_script, 1 _law_k, 2 _law_cell, 3 _law_seed -/
theorem ok_Lbox (T : Txt K mg f0 f1 f2 f3 f4 f5 f6 f7 f8 f9 f10 f11 f12 f13 f14 f15 f16 f17 f18 c_TooLong c_MeetError c_NoName c_NoRow c_NoText c_Twice g_TooLong d0 d1 d2 d3 d4 d5 d6 d7 d8 d9 d10 d11 d12 d13 d14 d15 d16 d17 d18 e_TooLong) : FnOk P w K mg base CX0 1 f8 d8 ["_law_script", "_law_k"] (sp_Lbox K) := by
  refine T.F8.fn.ok sc_Lbox (fun vs H Q E h => len_Lbox h) (fun cdv A outer s H vs Q E hr h => ?_)
  refine ⟨_, (pss_cons (ps_set (i := 2) sc_Lbox.nd rfl (Or.inl rfl) (pe_op op_add (pe_op op_mul pe_int (pv 1)) pe_int))
      (pss_cons (ps_if (pt_cmpR op_lt (pv 1) (pe_callB (call_len_seqK K rfl) rfl T.z_len PySem.boot_len (pa_cons (pv 0) pa_nil)) (nomark _)) (pss_one (ps_set (i := 2) sc_Lbox.nd rfl (Or.inl rfl) (pe_ix (ix_listK K rfl) (pv 0) (pv 1) (fun _ _ => rfl)))) (pss_one (ps_if (pt_cmpR op_gt (pe_callB (call_len_seqK K rfl) rfl T.z_len PySem.boot_len (pa_cons (pv 0) pa_nil)) pe_int (nomark _)) (pss_one (ps_set (i := 2) sc_Lbox.nd rfl (Or.inl rfl) (pe_op op_add (pv 2) (pe_op op_mul (pe_op op_mod (pe_ix (ix_listK K rfl) (pv 0) (pe_op op_mod (pv 1) (pe_callB (call_len_seqK K rfl) rfl T.z_len PySem.boot_len (pa_cons (pv 0) pa_nil))) (fun _ _ => rfl)) pe_int) pe_int)))) pss_nil)))
      (pss_cons (ps_set (i := 3) sc_Lbox.nd rfl (Or.inl rfl) (pe_op op_mod (pe_op op_pow (pe_op op_add (pe_op op_add (pe_op op_mod (pv 2) pe_int) (pe_op op_mul pe_int (pv 1))) pe_int) pe_int) pe_int))
      (pss_one (ps_ret (pe_lst (pa_cons (pe_ix (ix_listK K rfl) (pe_lst (pa_cons pe_int (pa_cons (pv 2) pa_nil))) (pe_callTy call_int1 rfl T.z_int boot_int (pa_cons (pe_cmpR op_ge (pv 2) (pe_op op_pow pe_int pe_int) (nomark _)) pa_nil)) (fun _ _ => rfl)) (pa_cons (pe_op op_add (pe_op op_mod (pv 3) pe_int) pe_int) pa_nil)))))))), ?_⟩
  obtain ⟨a, ns, k, rfl, hS, hk, q⟩ := h
  have hp : (0 : Int) < 2147483629 := by decide
  walk_at "rd"
  refine ⟨a, _, rfl, .inl hS, ?_⟩
  walk_at "rd"
  refine ite2 (fun e => ?_) (fun e => ?_)
  · have e' : (k : Int) < ((ns.map V.int).length : Nat) := of_decide_eq_true e
    rw [List.length_map] at e'
    obtain ⟨z, hz⟩ := ints_at (ns := ns) (i := k) (by omega)
    walk_at "rd"
    refine ⟨a, _, k, _, rfl, rfl, hS, atI_nat hz, ?_⟩
    walk_at "rd"
    refine fun p1 n1 => ?_
    walk_at "rd"
    refine .inr ⟨_, rfl, ?_⟩
    obtain ⟨y, hy⟩ := box_at _ z
    refine ⟨p1, _, _, _, rfl, rfl, SqL.of upd_same, hy, ?_⟩
    walk_at "rd"
    exact fun p2 n2 => q p2 _ (Same.free (Same.upd n1) n2) ⟨_, _, upd_same⟩ ((Same.upd n1).trans (Same.upd n2))
  · walk_at "rd"
    refine ⟨a, _, rfl, .inl hS, ?_⟩
    walk_at "rd"
    refine ite2 (fun e2 => ?_) (fun e2 => ?_)
    · have e' : (0 : Int) < ((ns.map V.int).length : Nat) := of_decide_eq_true e2
      have hl : (0 : Int) < (ns.length : Int) := by rw [List.length_map] at e'; exact e'
      have m1 : 0 ≤ (k : Int) % (ns.length : Int) := Int.emod_nonneg _ (by omega)
      have m2 : (k : Int) % (ns.length : Int) < (ns.length : Int) := Int.emod_lt_of_pos _ hl
      obtain ⟨z, hz⟩ := ints_at (ns := ns) (i := ((k : Int) % (ns.length : Int)).toNat) (by omega)
      have hz' : atI (ns.map V.int) ((k : Int) % ((ns.map V.int).length : Nat)) = some (V.int z) := by
        have := atI_nat hz
        rw [Int.toNat_of_nonneg m1] at this
        rw [List.length_map]
        exact this
      walk_at "rd"
      refine ⟨a, _, rfl, .inl hS, ?_⟩
      walk_at "rd"
      refine ⟨a, _, _, _, rfl, rfl, hS, hz', ?_⟩
      walk_at "rd"
      refine fun p1 n1 => ?_
      walk_at "rd"
      refine .inr ⟨_, rfl, ?_⟩
      obtain ⟨y, hy⟩ := box_at _ _
      refine ⟨p1, _, _, _, rfl, rfl, SqL.of upd_same, hy, ?_⟩
      walk_at "rd"
      exact fun p2 n2 => q p2 _ (Same.free (Same.upd n1) n2) ⟨_, _, upd_same⟩ ((Same.upd n1).trans (Same.upd n2))
    · walk_at "rd"
      refine fun p1 n1 => ?_
      walk_at "rd"
      refine .inr ⟨_, rfl, ?_⟩
      obtain ⟨y, hy⟩ := box_at _ _
      refine ⟨p1, _, _, _, rfl, rfl, SqL.of upd_same, hy, ?_⟩
      walk_at "rd"
      exact fun p2 n2 => q p2 _ (Same.free (Same.upd n1) n2) ⟨_, _, upd_same⟩ ((Same.upd n1).trans (Same.upd n2))
/-- names: 0 _law_box_here, 1 _law_many, 2 _law_digit, 3 _law_one -/
theorem ok_Ltake (T : Txt K mg f0 f1 f2 f3 f4 f5 f6 f7 f8 f9 f10 f11 f12 f13 f14 f15 f16 f17 f18 c_TooLong c_MeetError c_NoName c_NoRow c_NoText c_Twice g_TooLong d0 d1 d2 d3 d4 d5 d6 d7 d8 d9 d10 d11 d12 d13 d14 d15 d16 d17 d18 e_TooLong) : FnOk P w K mg base CX0 1 f9 d9 ["_law_box_here", "_law_many"] (sp_Ltake K) := by
  refine T.F9.fn.ok sc_Ltake (fun vs H Q E h => len_Ltake h) (fun cdv A outer s H vs Q E hr h => ?_)
  refine ⟨_, (pss_cons (ps_if (pt_cmpR op_gt (pe_ix (ix_listK K rfl) (pv 0) pe_int (fun _ _ => rfl)) pe_int (nomark _)) (pss_cons (ps_set (i := 2) sc_Ltake.nd rfl (Or.inl rfl) (pe_op op_mod (pe_ix (ix_listK K rfl) (pv 0) pe_int (fun _ _ => rfl)) (pv 1)))
      (pss_cons (ps_asg (pe_op op_fdiv (pe_ix (ix_listK K rfl) (pv 0) pe_int (fun _ _ => rfl)) (pv 1)) (pg_sub (pv 0) pe_int set_list))
      (pss_one (ps_ret (pv 2))))) pss_nil)
      (pss_cons (ps_set (i := 3) sc_Ltake.nd rfl (Or.inl rfl) (pe_op op_mod (pe_op op_mul (pe_ix (ix_listK K rfl) (pv 0) pe_int (fun _ _ => rfl)) pe_int) pe_int))
      (pss_cons (ps_asg (pe_op op_add (pe_op op_mod (pe_op op_add (pe_op op_mul (pv 3) pe_int) pe_int) pe_int) pe_int) (pg_sub (pv 0) pe_int set_list))
      (pss_one (ps_ret (pe_op op_mod (pe_op op_fdiv (pe_op op_add (pe_op op_mul (pv 3) pe_int) (pe_ix (ix_listK K rfl) (pv 0) pe_int (fun _ _ => rfl))) pe_int) (pv 1))))))), ?_⟩
  obtain ⟨b, m, rfl, ⟨x, y, hb⟩, h1, h2, q⟩ := h
  have fin : ∀ (r x' y' : Int), 0 ≤ r → r < m → Q (.int r) (upd H b (.lst [.int x', .int y'])) := fun r x' y' h3 h4 => by
    have e : r = ((r.toNat : Nat) : Int) := by omega
    rw [e]
    exact q r.toNat _ (by omega) ⟨x', y', upd_same⟩ (SameB.upd b H _)
  refine ⟨_, rfl, b, _, 0, _, rfl, rfl, SqL.of hb, rfl, _, _, rfl, rfl, _, rfl, ite2 (fun e => ?_) (fun e => ?_)⟩
  · refine ⟨_, rfl, b, _, 0, _, rfl, rfl, SqL.of hb, rfl, _, rfl, _, _, rfl, rfl, (by omega : 0 < m), ?_⟩
    refine ⟨_, rfl, b, _, 0, _, rfl, rfl, SqL.of hb, rfl, _, rfl, _, _, rfl, rfl, ⟨by omega, by omega⟩, _, rfl, b, _, 0, 0, rfl, rfl, hb, rfl, _, rfl, ?_⟩
    exact fin (x % m) (x / m) y (Int.emod_nonneg _ (by omega)) (Int.emod_lt_of_pos _ (by omega))
  · refine ⟨_, rfl, b, _, 1, _, rfl, rfl, SqL.of hb, rfl, _, _, rfl, rfl, .inr ⟨by decide, by decide⟩, _, _, rfl, rfl, (by decide : (0 : Int) < 2147483647), ?_⟩
    refine ⟨_, rfl, _, _, rfl, rfl, .inr ⟨by decide, by decide⟩, _, _, rfl, rfl, _, _, rfl, rfl, (by decide : (0 : Int) < 2147483629), _, _, rfl, rfl, _, rfl, b, _, 1, 1, rfl, rfl, hb, rfl, ?_⟩
    refine ⟨_, rfl, _, _, rfl, rfl, .inr ⟨by decide, by decide⟩, _, rfl, b, _, 1, _, rfl, rfl, SqL.of upd_same, rfl, _, _, rfl, rfl, _, _, rfl, rfl, ⟨by decide, by decide⟩, _, rfl, _, _, rfl, rfl, (by omega : 0 < m), ?_⟩
    exact fin _ _ _ (Int.emod_nonneg _ (by omega)) (Int.emod_lt_of_pos _ (by omega))
/-- names: 0 _law_box_here, 1 _law_many, 2 _law_letters, 3 _law_stem, 4 _law_found, 5 _law_form, 6 _law_name, 7 _law_at -/
theorem ok_Lnames (T : Txt K mg f0 f1 f2 f3 f4 f5 f6 f7 f8 f9 f10 f11 f12 f13 f14 f15 f16 f17 f18 c_TooLong c_MeetError c_NoName c_NoRow c_NoText c_Twice g_TooLong d0 d1 d2 d3 d4 d5 d6 d7 d8 d9 d10 d11 d12 d13 d14 d15 d16 d17 d18 e_TooLong) : FnOk P w K mg base CX0 2 f11 d11 ["_law_box_here", "_law_many"] (sp_Lnames K) := by
  have G_Ltake := ok_Ltake (P := P) (w := w) (base := base) T
  refine T.F11.fn.ok sc_Lnames (fun vs H Q E h => len_Lnames h) (fun cdv A outer s H vs Q E hr h => ?_)
  refine ⟨_, (pss_cons (ps_set (i := 2) sc_Lnames.nd rfl (Or.inr rfl) (pe_S [97, 98, 99, 100, 101, 102, 103, 104, 105, 106, 107, 108, 109, 110, 111, 112, 113, 114, 115, 116, 117, 118, 119, 120, 121, 122] (by decide +kernel)))
      (pss_cons (ps_set (i := 3) sc_Lnames.nd rfl (Or.inl rfl) (pe_bmK K rfl PySem.F.plainAttrs_str PySem.F.slot_str_join PySem.F.type_str_join (mt_joinK K rfl) (pe_S [] (by decide +kernel)) (pa_cons (pe_compB ["_law_k", "_law_letters", "_law_box_here"] [none, some 2, some 0] (pi_range1 rfl T.z_range (pa_cons (pe_op op_add pe_int (pe_call G_Ltake (hr.mono (by decide)) rfl T.F9.mg T.F9.fn.kp T.F9.bd .nil pass0 (pa_cons (pv 0) (pa_cons pe_int pa_nil)))) pa_nil)) ⟨⟨rfl, rfl, by first | exact .inl rfl | exact .inr rfl⟩, ⟨⟨rfl, rfl, by first | exact .inl rfl | exact .inr rfl⟩, trivial⟩⟩ (fun _ _ _ _ => (pg_name (i := 0) (by decide +kernel : List.Nodup (["_law_k", "_law_letters", "_law_box_here"] : List Str)) rfl (Or.inl rfl))) (fun _ _ _ _ => pf_nil) (fun _ _ _ _ => (pe_ix ix_S (pv 1) (pe_call G_Ltake (hr.mono (by decide)) rfl T.F9.mg T.F9.fn.kp T.F9.bd .nil pass0 (pa_cons (pv 2) (pa_cons pe_int pa_nil))) (fun _ _ => rfl)))) pa_nil)))
      (pss_cons (ps_set (i := 4) sc_Lnames.nd rfl (Or.inl rfl) (pe_lst pa_nil))
      (pss_cons (ps_whileN PassesOwn.never (pt_cmpR op_lt (pe_callB (call_len_seqK K rfl) rfl T.z_len PySem.boot_len (pa_cons (pv 4) pa_nil)) (pv 1) (nomark _)) (pss_cons (ps_set (i := 5) sc_Lnames.nd rfl (Or.inl rfl) (pe_call G_Ltake (hr.mono (by decide)) rfl T.F9.mg T.F9.fn.kp T.F9.bd .nil pass0 (pa_cons (pv 0) (pa_cons pe_int pa_nil))))
      (pss_cons (ps_set (i := 6) sc_Lnames.nd rfl (Or.inl rfl) (pe_bmK K rfl PySem.F.plainAttrs_str PySem.F.slot_str_join PySem.F.type_str_join (mt_joinK K rfl) (pe_S [] (by decide +kernel)) (pa_cons (pe_compB ["_law_k", "_law_letters", "_law_box_here"] [none, some 2, some 0] (pi_range1 rfl T.z_range (pa_cons (pe_op op_add pe_int (pe_call G_Ltake (hr.mono (by decide)) rfl T.F9.mg T.F9.fn.kp T.F9.bd .nil pass0 (pa_cons (pv 0) (pa_cons pe_int pa_nil)))) pa_nil)) ⟨⟨rfl, rfl, by first | exact .inl rfl | exact .inr rfl⟩, ⟨⟨rfl, rfl, by first | exact .inl rfl | exact .inr rfl⟩, trivial⟩⟩ (fun _ _ _ _ => (pg_name (i := 0) (by decide +kernel : List.Nodup (["_law_k", "_law_letters", "_law_box_here"] : List Str)) rfl (Or.inl rfl))) (fun _ _ _ _ => pf_nil) (fun _ _ _ _ => (pe_ix ix_S (pv 1) (pe_call G_Ltake (hr.mono (by decide)) rfl T.F9.mg T.F9.fn.kp T.F9.bd .nil pass0 (pa_cons (pv 2) (pa_cons pe_int pa_nil))) (fun _ _ => rfl)))) pa_nil)))
      (pss_cons (ps_if (pt_cmpR op_eqI (pv 5) pe_int (nomark _)) (pss_cons (ps_set (i := 7) sc_Lnames.nd rfl (Or.inl rfl) (pe_call G_Ltake (hr.mono (by decide)) rfl T.F9.mg T.F9.fn.kp T.F9.bd .nil pass0 (pa_cons (pv 0) (pa_cons (pe_callB call_lenS rfl T.z_len PySem.boot_len (pa_cons (pv 3) pa_nil)) pa_nil))))
      (pss_one (ps_set (i := 6) sc_Lnames.nd rfl (Or.inl rfl) (pe_op op_addS (pe_op op_addS (pe_slice sl_S (pv 3) po_none (po_some (pv 7))) (pe_ix ix_S (pv 2) (pe_call G_Ltake (hr.mono (by decide)) rfl T.F9.mg T.F9.fn.kp T.F9.bd .nil pass0 (pa_cons (pv 0) (pa_cons pe_int pa_nil))) (fun _ _ => rfl))) (pe_slice sl_S (pv 3) (po_some (pe_op op_add (pv 7) pe_int)) po_none))))) pss_nil)
      (pss_cons (ps_if (pt_cmpR op_eqI (pv 5) pe_int (nomark _)) (pss_one (ps_set (i := 6) sc_Lnames.nd rfl (Or.inl rfl) (pe_op op_addS (pe_slice sl_S (pv 3) po_none (po_some (pe_op op_add pe_int (pe_call G_Ltake (hr.mono (by decide)) rfl T.F9.mg T.F9.fn.kp T.F9.bd .nil pass0 (pa_cons (pv 0) (pa_cons (pe_callB call_lenS rfl T.z_len PySem.boot_len (pa_cons (pv 3) pa_nil)) pa_nil)))))) (pe_slice sl_S (pv 6) po_none (po_some (pe_call G_Ltake (hr.mono (by decide)) rfl T.F9.mg T.F9.fn.kp T.F9.bd .nil pass0 (pa_cons (pv 0) (pa_cons pe_int pa_nil)))))))) pss_nil)
      (pss_cons (ps_whileN PassesOwn.never (PW.pt (pw_or (pt_cmpR (op_inK K rfl) (pv 6) (pv 4) (by with_unfolding_all rfl)) (pw_or1 (pt_cmpR (op_inK K rfl) (pv 6) (pe_tup (pa_cons (pe_S [116, 104, 101, 110] (by decide +kernel)) (pa_cons (pe_S [98, 97, 99, 107] (by decide +kernel)) (pa_cons (pe_S [97, 103, 97, 105, 110] (by decide +kernel)) (pa_cons (pe_S [102, 111, 114] (by decide +kernel)) pa_nil))))) (by with_unfolding_all rfl))))) (pss_one (ps_set (i := 6) sc_Lnames.nd rfl (Or.inl rfl) (pe_op op_addS (pe_ix ix_S (pv 2) (pe_op op_mod (pe_op op_add (pe_bmK K rfl PySem.F.plainAttrs_str PySem.F.slot_str_index PySem.F.type_str_index mt_indexS (pv 2) (pa_cons (pe_ix ix_S (pv 6) pe_int (fun _ _ => rfl)) pa_nil)) pe_int) pe_int) (fun _ _ => rfl)) (pe_slice sl_S (pv 6) (po_some pe_int) po_none)))))
      (pss_one (ps_expr (pe_bmK K rfl PySem.F.plainAttrs_list PySem.F.slot_list_append PySem.F.type_list_append mt_append (pv 4) (pa_cons (pv 6) pa_nil))))))))))
      (pss_one (ps_ret (pv 4))))))), ?_⟩
  obtain ⟨b, many, rfl, hb, hmany, q⟩ := h
  have hs : (100000 : Nat) < sizeLine := by decide
  refine ⟨rfl, _, rfl, b, 5, rfl, hb, by omega, by omega, fun n1 G1 hn1 hbG1 sG1 => ?_⟩
  refine ⟨_, _, rfl, rfl, _, rfl, by omega, by omega, ?_⟩
  have en1 : ((1 : Int) + (n1 : Int)).toNat = 1 + n1 := by omega
  rw [en1]
  refine comp_rng (n := 1 + n1) (fun i acc H' => BoxAt H' b ∧ SameB b H H' ∧ ∃ l : List Nat, acc = sgs l ∧ l.length = i ∧ ∀ c ∈ l, c ∈ smalls) (by omega) ⟨hbG1, sG1, [], rfl, rfl, by simp⟩ ?_ ?_
  · rintro i acc H2 Nx hi hl ⟨hb2, s2, l, rfl, hl2, hm⟩ nx
    refine ⟨⟨rfl, rfl, trivial⟩, yes_ite ?_⟩
    refine ⟨_, rfl, _, rfl, b, 26, rfl, hb2, by omega, by omega, fun r H3 hr3 hb3 s3 => ?_⟩
    have hr4 : r < smalls.length := by have : smalls.length = 26 := rfl
                                       omega
    refine ⟨smalls, _, smalls[r], rfl, rfl, by decide, atI_nat (List.getElem?_eq_getElem hr4), ?_⟩
    refine nx _ _ (by simpa using hl) ⟨hb3, s2.trans s3, l ++ [smalls[r]], sgs_snoc _ _, by simp [hl2], fun c hc => ?_⟩
    rcases List.mem_append.mp hc with z | z
    · exact hm c z
    · rw [List.mem_singleton.mp z]; exact List.getElem_mem hr4
  · rintro acc K1 D1 hl1 ⟨hbK1, sK1, stem, rfl, hlen1, hm1⟩ hD1
    refine ⟨D1, stem.map fun c => [c], rfl, rfl, SqL.of ?_, ?_, ?_⟩
    · rw [upd_same, ← sgs_lists]
    · rw [sum1]; omega
    rw [flat1]
    have hbL1 : BoxAt (upd K1 D1 (.lst (sgs stem))) b := hbK1.same (Same.upd hD1)
    have sL1 : SameB b H (upd K1 D1 (.lst (sgs stem))) := sK1.trans (SameB.of (Same.upd hD1))
    generalize upd K1 D1 (.lst (sgs stem)) = HL1 at hbL1 sL1 ⊢
    have hst := hm1
    have hsl : 1 ≤ stem.length ∧ stem.length ≤ 5 := by omega
    refine ⟨by show 0 ≤ sizeLine; decide, fun p np => ?_⟩
    have pb : p ≠ b := hbL1.ne np
    have pH : H p = none := sL1.none np pb
    refine ⟨fun m σ H' => ∃ (fv nv av : Option V) (ns : List (List Nat)), σ = [some (.ref b), some (.int many), some (.str (S smalls)), some (.str (S stem)), some (.ref p), fv, nv, av] ∧ BoxAt H' b ∧ H' p = some (.lst (txs ns)) ∧ m = many - ns.length ∧ ns.length ≤ many ∧ (∀ s ∈ ns, NmOk s) ∧ ns.Nodup ∧ SameB b H H', ⟨many, none, none, none, [], rfl, hbL1.same (Same.upd np), upd_same, rfl, Nat.zero_le _, by simp, List.nodup_nil, sL1.trans (SameB.of (Same.upd np))⟩, ?_⟩
    rintro mm σ0 H2 ⟨fv, nv, av, ns, rfl, hb2, hp2, hmm, hnl, hns, hnd, sH2⟩
    refine ⟨_, rfl, p, _, rfl, .inl (SqL.of hp2), _, rfl, _, _, rfl, rfl, _, rfl, ite2 (fun gl => ?_) (fun gl => ?_)⟩
    · have gl' : ns.length < many := by have := of_decide_eq_true gl; rw [txs_len] at this; omega
      refine ⟨_, rfl, b, 3, rfl, hb2, by omega, by omega, fun form F hform hbF sF => ?_⟩
      have hpF := sF _ _ hp2 pb
      refine ⟨rfl, _, rfl, b, 6, rfl, hbF, by omega, by omega, fun n2 G2 hn2 hbG2 sG2 => ?_⟩
      refine ⟨_, _, rfl, rfl, _, rfl, by omega, by omega, ?_⟩
      have en2 : ((1 : Int) + (n2 : Int)).toNat = 1 + n2 := by omega
      rw [en2]
      refine comp_rng (n := 1 + n2) (fun i acc H' => BoxAt H' b ∧ SameB b F H' ∧ ∃ l : List Nat, acc = sgs l ∧ l.length = i ∧ ∀ c ∈ l, c ∈ smalls) (by omega) ⟨hbG2, sG2, [], rfl, rfl, by simp⟩ ?_ ?_
      · rintro i acc H2 Nx hi hl ⟨hb2, s2, l, rfl, hl2, hm⟩ nx
        refine ⟨⟨rfl, rfl, trivial⟩, yes_ite ?_⟩
        refine ⟨_, rfl, _, rfl, b, 26, rfl, hb2, by omega, by omega, fun r H3 hr3 hb3 s3 => ?_⟩
        have hr4 : r < smalls.length := by have : smalls.length = 26 := rfl
                                           omega
        refine ⟨smalls, _, smalls[r], rfl, rfl, by decide, atI_nat (List.getElem?_eq_getElem hr4), ?_⟩
        refine nx _ _ (by simpa using hl) ⟨hb3, s2.trans s3, l ++ [smalls[r]], sgs_snoc _ _, by simp [hl2], fun c hc => ?_⟩
        rcases List.mem_append.mp hc with z | z
        · exact hm c z
        · rw [List.mem_singleton.mp z]; exact List.getElem_mem hr4
      · rintro acc K2 D2 hl2 ⟨hbK2, sK2, nm1, rfl, hlen2, hm2⟩ hD2
        refine ⟨D2, nm1.map fun c => [c], rfl, rfl, SqL.of ?_, ?_, ?_⟩
        · rw [upd_same, ← sgs_lists]
        · rw [sum1]; omega
        rw [flat1]
        have hbL2 : BoxAt (upd K2 D2 (.lst (sgs nm1))) b := hbK2.same (Same.upd hD2)
        have sL2 : SameB b F (upd K2 D2 (.lst (sgs nm1))) := sK2.trans (SameB.of (Same.upd hD2))
        generalize upd K2 D2 (.lst (sgs nm1)) = HL2 at hbL2 sL2 ⊢
        have hpL := sL2 _ _ hpF pb
        have hnm1 : NmOk nm1 := ⟨fun z => by rw [z] at hlen2; simp at hlen2; omega, hm2, by omega⟩
        refine ⟨_, rfl, _, _, rfl, rfl, _, rfl, ite2 (fun g0 => ?_) (fun g0 => ?_)⟩
        · have f0 : (form : Int) = 0 := of_decide_eq_true g0
          refine ⟨_, rfl, _, rfl, stem, rfl, by omega, b, (stem.length : Nat), rfl, hbL2, by omega, by omega, fun at3 H3 hat hb3 s3 => ?_⟩
          refine ⟨_, rfl, _, rfl, _, rfl, stem, rfl, by omega, ?_⟩
          rw [cut_to]
          refine ⟨_, rfl, _, rfl, b, 26, rfl, hb3, by omega, by omega, fun r4 H4 hr4 hb4 s4 => ?_⟩
          have hr5 : r4 < smalls.length := by have : smalls.length = 26 := rfl
                                              omega
          refine ⟨smalls, _, smalls[r4], rfl, rfl, by decide, atI_nat (List.getElem?_eq_getElem hr5), ?_⟩
          refine ⟨stem.take at3, [smalls[r4]], rfl, rfl, by simp; omega, ?_⟩
          refine ⟨_, rfl, _, rfl, _, _, rfl, rfl, _, rfl, stem, rfl, by omega, ?_⟩
          have e6 : (at3 : Int) + 1 = ((at3 + 1 : Nat) : Int) := by omega
          rw [e6, cut_from]
          refine ⟨stem.take at3 ++ [smalls[r4]], stem.drop (at3 + 1), rfl, rfl, by simp; omega, ?_⟩
          have hnm : NmOk (stem.take at3 ++ [smalls[r4]] ++ stem.drop (at3 + 1)) := ⟨by simp, fun c hc => by
            rcases List.mem_append.mp hc with z | z
            · rcases List.mem_append.mp z with y | y
              · exact hst c (List.mem_of_mem_take y)
              · rw [List.mem_singleton.mp y]; exact List.getElem_mem hr5
            · exact hst c (List.mem_of_mem_drop z), by simp; omega⟩
          generalize stem.take at3 ++ [smalls[r4]] ++ stem.drop (at3 + 1) = nm at hnm ⊢
          have hpZ := s4 _ _ (s3 _ _ hpL pb) pb
          have sZ : SameB b H2 H4 := ((sF.trans sL2).trans s3).trans s4
          have hbZ := hb4
          refine ⟨_, rfl, _, _, rfl, rfl, _, rfl, iteN (by rw [f0]; decide) ?_⟩
          obtain ⟨c0, w, rfl⟩ : ∃ c w, nm = c :: w := by
            cases nm with
            | nil => exact absurd rfl hnm.ne
            | cons c w => exact ⟨c, w, rfl⟩
          have hc0 := hnm.lt c0 List.mem_cons_self
          have hw : ∀ c ∈ w, c ∈ smalls := fun c hc => hnm.lt c (List.mem_cons_of_mem _ hc)
          have hwl : w.length + 1 ≤ 12 := hnm.sz
          obtain ⟨m0, hm0⟩ := rtl_end (ns := ns) (by omega) w hc0
          refine ⟨fun m σ H' => ∃ c, σ = [some (.ref b), some (.int many), some (.str (S smalls)), some (.str (S stem)), some (.ref p), some (.int form), some (.str (S (c :: w))), some (.int at3)] ∧ c ∈ smalls ∧ rtlN m c :: w ∉ ns ++ keptW ∧ BoxAt H' b ∧ H' p = some (.lst (txs ns)) ∧ SameB b H2 H', ⟨m0, c0, rfl, hc0, hm0, hbZ, hpZ, sZ⟩, ?_⟩
          rintro m1 σ1 H5 ⟨c, rfl, hc, hgood, hb5, hp5, s5⟩
          have go : (c :: w ∈ ns ++ keptW) → ∃ m', m' < m1 ∧ rtlN m' (rtl c) :: w ∉ ns ++ keptW := fun hbad => by
            cases m1 with
            | zero => exact absurd hbad hgood
            | succ m1 => exact ⟨m1, Nat.lt_succ_self _, hgood⟩
          have hc128 : smalls.length = 26 := rfl
          have eix : ((smalls.idxOf c : Nat) : Int) + 1 = ((smalls.idxOf c + 1 : Nat) : Int) := by omega
          have emod : (((smalls.idxOf c : Nat) : Int) + 1) % 26 = (((smalls.idxOf c + 1) % 26 : Nat) : Int) := by omega
          have at0 : atI (c :: w) 0 = some c := atI_nat (j := 0) rfl
          have cutw : cut (c :: w) (some 1) none = w := by have := cut_from (c :: w) 1; rw [show ((1 : Nat) : Int) = 1 from rfl] at this; rw [this]; rfl
          have atr : atI smalls ((((smalls.idxOf c : Nat) : Int) + 1) % 26) = some (rtl c) := by rw [emod]; exact atI_nat (rtl_small c hc).2
          refine ⟨_, rfl, _, rfl, p, _, rfl, .inl (SqL.of hp5), rfl, txs_flat _, _, rfl, ite2 (fun g => iteT ?_) (fun g => ?_)⟩
          · have g' : c :: w ∈ ns := by rw [if_neg Bool.false_ne_true, inV_tx] at g; exact of_decide_eq_true g
            refine ⟨_, rfl, _, rfl, rfl, _, rfl, c :: w, 0, c, rfl, rfl, by simp; omega, at0, smalls, c, rfl, rfl, hc, _, _, rfl, rfl, _, _, rfl, rfl, (by decide : (0 : Int) < 26), smalls, _, rtl c, rfl, rfl, by decide, atr, _, rfl, _, rfl, c :: w, rfl, by simp; omega, ?_⟩
            rw [cutw]
            obtain ⟨m', hlt, hg2⟩ := go (List.mem_append.mpr (.inl g'))
            exact ⟨[rtl c], w, rfl, rfl, by simp; omega, m', hlt, rtl c, rfl, (rtl_small c hc).1, hg2, hb5, hp5, s5⟩
          · have g' : c :: w ∉ ns := fun z => g (by rw [if_neg Bool.false_ne_true, inV_tx]; exact decide_eq_true z)
            refine ⟨_, rfl, by show 4 ≤ sizeLine; decide, fun p6 n6 => ?_⟩
            have s6 := Same.upd (o := HO.tup (txs keptW)) n6
            have h6 : upd H5 p6 (HO.tup (txs keptW)) p6 = some (HO.tup (txs keptW)) := upd_same
            have hb6 := hb5.same s6
            have hp6 := s6 _ _ hp5
            have s26 : SameB b H2 _ := s5.trans (SameB.of s6)
            refine ⟨p6, txs keptW, rfl, .inr (SqT.of h6), rfl, txs_flat _, _, rfl, ite2 (fun g2 => ?_) (fun g2 => ?_)⟩
            · have g2' : c :: w ∈ keptW := by rw [if_neg Bool.false_ne_true, inV_tx] at g2; exact of_decide_eq_true g2
              obtain ⟨m', hlt, hg2⟩ := go (List.mem_append.mpr (.inr g2'))
              refine ⟨_, rfl, _, rfl, rfl, _, rfl, c :: w, 0, c, rfl, rfl, by simp; omega, at0, smalls, c, rfl, rfl, hc, _, _, rfl, rfl, _, _, rfl, rfl, (by decide : (0 : Int) < 26), smalls, _, rtl c, rfl, rfl, by decide, atr, _, rfl, _, rfl, c :: w, rfl, by simp; omega, ?_⟩
              rw [cutw]
              exact ⟨[rtl c], w, rfl, rfl, by simp; omega, m', hlt, rtl c, rfl, (rtl_small c hc).1, hg2, hb6, hp6, s26⟩
            · refine ⟨_, rfl, .inl ⟨rfl, _, SqL.of hp6⟩, _, rfl, p, _, _, rfl, rfl, hp6, by rw [txs_len]; omega, ?_⟩
              refine ⟨many - (ns ++ [c :: w]).length, by rw [List.length_append, hmm]; simp; omega, _, _, _, ns ++ [c :: w], rfl, hb6.updN pb, by rw [upd_same, txs_snoc], rfl, by simp; omega, fun s hs => ?_, List.nodup_append.mpr ⟨hnd, by simp, fun x hx y hy z => by rw [List.mem_singleton.mp hy] at z; rw [z] at hx; exact g' hx⟩, (sH2.trans s26).updN pH⟩
              rcases List.mem_append.mp hs with z | z
              · exact hns s z
              · rw [List.mem_singleton.mp z]
                exact ⟨by simp, fun d hd => by
                  rcases List.mem_cons.mp hd with rfl | hd
                  · exact hc
                  · exact hw d hd, by simp; omega⟩
        · refine ⟨_, rfl, _, _, rfl, rfl, _, rfl, ite2 (fun g1 => ?_) (fun g1 => ?_)⟩
          · refine ⟨_, rfl, _, rfl, _, rfl, stem, rfl, by omega, b, (stem.length : Nat), rfl, hbL2, by omega, by omega, fun at3 H3 hat hb3 s3 => ?_⟩
            refine ⟨_, _, rfl, rfl, _, rfl, stem, rfl, by omega, ?_⟩
            have e6 : (1 : Int) + (at3 : Int) = ((1 + at3 : Nat) : Int) := by omega
            rw [e6, cut_to]
            refine ⟨_, rfl, _, rfl, b, 2, rfl, hb3, by omega, by omega, fun r4 H4 hr4 hb4 s4 => ?_⟩
            refine ⟨_, rfl, nm1, rfl, by omega, ?_⟩
            rw [cut_to]
            refine ⟨stem.take (1 + at3), nm1.take r4, rfl, rfl, by simp; omega, ?_⟩
            have hnm : NmOk (stem.take (1 + at3) ++ nm1.take r4) := ⟨fun z => by have := congrArg List.length z; rw [List.length_append, List.length_take, List.length_nil] at this; omega, fun c hc => by
              rcases List.mem_append.mp hc with y | y
              · exact hst c (List.mem_of_mem_take y)
              · exact hm2 c (List.mem_of_mem_take y), by rw [List.length_append, List.length_take, List.length_take]; omega⟩
            generalize stem.take (1 + at3) ++ nm1.take r4 = nm at hnm ⊢
            have hpZ := s4 _ _ (s3 _ _ hpL pb) pb
            have sZ : SameB b H2 H4 := ((sF.trans sL2).trans s3).trans s4
            have hbZ := hb4
            obtain ⟨c0, w, rfl⟩ : ∃ c w, nm = c :: w := by
              cases nm with
              | nil => exact absurd rfl hnm.ne
              | cons c w => exact ⟨c, w, rfl⟩
            have hc0 := hnm.lt c0 List.mem_cons_self
            have hw : ∀ c ∈ w, c ∈ smalls := fun c hc => hnm.lt c (List.mem_cons_of_mem _ hc)
            have hwl : w.length + 1 ≤ 12 := hnm.sz
            obtain ⟨m0, hm0⟩ := rtl_end (ns := ns) (by omega) w hc0
            refine ⟨fun m σ H' => ∃ c, σ = [some (.ref b), some (.int many), some (.str (S smalls)), some (.str (S stem)), some (.ref p), some (.int form), some (.str (S (c :: w))), av] ∧ c ∈ smalls ∧ rtlN m c :: w ∉ ns ++ keptW ∧ BoxAt H' b ∧ H' p = some (.lst (txs ns)) ∧ SameB b H2 H', ⟨m0, c0, rfl, hc0, hm0, hbZ, hpZ, sZ⟩, ?_⟩
            rintro m1 σ1 H5 ⟨c, rfl, hc, hgood, hb5, hp5, s5⟩
            have go : (c :: w ∈ ns ++ keptW) → ∃ m', m' < m1 ∧ rtlN m' (rtl c) :: w ∉ ns ++ keptW := fun hbad => by
              cases m1 with
              | zero => exact absurd hbad hgood
              | succ m1 => exact ⟨m1, Nat.lt_succ_self _, hgood⟩
            have hc128 : smalls.length = 26 := rfl
            have eix : ((smalls.idxOf c : Nat) : Int) + 1 = ((smalls.idxOf c + 1 : Nat) : Int) := by omega
            have emod : (((smalls.idxOf c : Nat) : Int) + 1) % 26 = (((smalls.idxOf c + 1) % 26 : Nat) : Int) := by omega
            have at0 : atI (c :: w) 0 = some c := atI_nat (j := 0) rfl
            have cutw : cut (c :: w) (some 1) none = w := by have := cut_from (c :: w) 1; rw [show ((1 : Nat) : Int) = 1 from rfl] at this; rw [this]; rfl
            have atr : atI smalls ((((smalls.idxOf c : Nat) : Int) + 1) % 26) = some (rtl c) := by rw [emod]; exact atI_nat (rtl_small c hc).2
            refine ⟨_, rfl, _, rfl, p, _, rfl, .inl (SqL.of hp5), rfl, txs_flat _, _, rfl, ite2 (fun g => iteT ?_) (fun g => ?_)⟩
            · have g' : c :: w ∈ ns := by rw [if_neg Bool.false_ne_true, inV_tx] at g; exact of_decide_eq_true g
              refine ⟨_, rfl, _, rfl, rfl, _, rfl, c :: w, 0, c, rfl, rfl, by simp; omega, at0, smalls, c, rfl, rfl, hc, _, _, rfl, rfl, _, _, rfl, rfl, (by decide : (0 : Int) < 26), smalls, _, rtl c, rfl, rfl, by decide, atr, _, rfl, _, rfl, c :: w, rfl, by simp; omega, ?_⟩
              rw [cutw]
              obtain ⟨m', hlt, hg2⟩ := go (List.mem_append.mpr (.inl g'))
              exact ⟨[rtl c], w, rfl, rfl, by simp; omega, m', hlt, rtl c, rfl, (rtl_small c hc).1, hg2, hb5, hp5, s5⟩
            · have g' : c :: w ∉ ns := fun z => g (by rw [if_neg Bool.false_ne_true, inV_tx]; exact decide_eq_true z)
              refine ⟨_, rfl, by show 4 ≤ sizeLine; decide, fun p6 n6 => ?_⟩
              have s6 := Same.upd (o := HO.tup (txs keptW)) n6
              have h6 : upd H5 p6 (HO.tup (txs keptW)) p6 = some (HO.tup (txs keptW)) := upd_same
              have hb6 := hb5.same s6
              have hp6 := s6 _ _ hp5
              have s26 : SameB b H2 _ := s5.trans (SameB.of s6)
              refine ⟨p6, txs keptW, rfl, .inr (SqT.of h6), rfl, txs_flat _, _, rfl, ite2 (fun g2 => ?_) (fun g2 => ?_)⟩
              · have g2' : c :: w ∈ keptW := by rw [if_neg Bool.false_ne_true, inV_tx] at g2; exact of_decide_eq_true g2
                obtain ⟨m', hlt, hg2⟩ := go (List.mem_append.mpr (.inr g2'))
                refine ⟨_, rfl, _, rfl, rfl, _, rfl, c :: w, 0, c, rfl, rfl, by simp; omega, at0, smalls, c, rfl, rfl, hc, _, _, rfl, rfl, _, _, rfl, rfl, (by decide : (0 : Int) < 26), smalls, _, rtl c, rfl, rfl, by decide, atr, _, rfl, _, rfl, c :: w, rfl, by simp; omega, ?_⟩
                rw [cutw]
                exact ⟨[rtl c], w, rfl, rfl, by simp; omega, m', hlt, rtl c, rfl, (rtl_small c hc).1, hg2, hb6, hp6, s26⟩
              · refine ⟨_, rfl, .inl ⟨rfl, _, SqL.of hp6⟩, _, rfl, p, _, _, rfl, rfl, hp6, by rw [txs_len]; omega, ?_⟩
                refine ⟨many - (ns ++ [c :: w]).length, by rw [List.length_append, hmm]; simp; omega, _, _, _, ns ++ [c :: w], rfl, hb6.updN pb, by rw [upd_same, txs_snoc], rfl, by simp; omega, fun s hs => ?_, List.nodup_append.mpr ⟨hnd, by simp, fun x hx y hy z => by rw [List.mem_singleton.mp hy] at z; rw [z] at hx; exact g' hx⟩, (sH2.trans s26).updN pH⟩
                rcases List.mem_append.mp hs with z | z
                · exact hns s z
                · rw [List.mem_singleton.mp z]
                  exact ⟨by simp, fun d hd => by
                    rcases List.mem_cons.mp hd with rfl | hd
                    · exact hc
                    · exact hw d hd, by simp; omega⟩
          · have hpZ := hpL
            have sZ : SameB b H2 HL2 := sF.trans sL2
            have hbZ := hbL2
            have hnm := hnm1
            clear hnm1 hm2 hlen2 hl2
            generalize nm1 = nm at hnm ⊢
            obtain ⟨c0, w, rfl⟩ : ∃ c w, nm = c :: w := by
              cases nm with
              | nil => exact absurd rfl hnm.ne
              | cons c w => exact ⟨c, w, rfl⟩
            have hc0 := hnm.lt c0 List.mem_cons_self
            have hw : ∀ c ∈ w, c ∈ smalls := fun c hc => hnm.lt c (List.mem_cons_of_mem _ hc)
            have hwl : w.length + 1 ≤ 12 := hnm.sz
            obtain ⟨m0, hm0⟩ := rtl_end (ns := ns) (by omega) w hc0
            refine ⟨fun m σ H' => ∃ c, σ = [some (.ref b), some (.int many), some (.str (S smalls)), some (.str (S stem)), some (.ref p), some (.int form), some (.str (S (c :: w))), av] ∧ c ∈ smalls ∧ rtlN m c :: w ∉ ns ++ keptW ∧ BoxAt H' b ∧ H' p = some (.lst (txs ns)) ∧ SameB b H2 H', ⟨m0, c0, rfl, hc0, hm0, hbZ, hpZ, sZ⟩, ?_⟩
            rintro m1 σ1 H5 ⟨c, rfl, hc, hgood, hb5, hp5, s5⟩
            have go : (c :: w ∈ ns ++ keptW) → ∃ m', m' < m1 ∧ rtlN m' (rtl c) :: w ∉ ns ++ keptW := fun hbad => by
              cases m1 with
              | zero => exact absurd hbad hgood
              | succ m1 => exact ⟨m1, Nat.lt_succ_self _, hgood⟩
            have hc128 : smalls.length = 26 := rfl
            have eix : ((smalls.idxOf c : Nat) : Int) + 1 = ((smalls.idxOf c + 1 : Nat) : Int) := by omega
            have emod : (((smalls.idxOf c : Nat) : Int) + 1) % 26 = (((smalls.idxOf c + 1) % 26 : Nat) : Int) := by omega
            have at0 : atI (c :: w) 0 = some c := atI_nat (j := 0) rfl
            have cutw : cut (c :: w) (some 1) none = w := by have := cut_from (c :: w) 1; rw [show ((1 : Nat) : Int) = 1 from rfl] at this; rw [this]; rfl
            have atr : atI smalls ((((smalls.idxOf c : Nat) : Int) + 1) % 26) = some (rtl c) := by rw [emod]; exact atI_nat (rtl_small c hc).2
            refine ⟨_, rfl, _, rfl, p, _, rfl, .inl (SqL.of hp5), rfl, txs_flat _, _, rfl, ite2 (fun g => iteT ?_) (fun g => ?_)⟩
            · have g' : c :: w ∈ ns := by rw [if_neg Bool.false_ne_true, inV_tx] at g; exact of_decide_eq_true g
              refine ⟨_, rfl, _, rfl, rfl, _, rfl, c :: w, 0, c, rfl, rfl, by simp; omega, at0, smalls, c, rfl, rfl, hc, _, _, rfl, rfl, _, _, rfl, rfl, (by decide : (0 : Int) < 26), smalls, _, rtl c, rfl, rfl, by decide, atr, _, rfl, _, rfl, c :: w, rfl, by simp; omega, ?_⟩
              rw [cutw]
              obtain ⟨m', hlt, hg2⟩ := go (List.mem_append.mpr (.inl g'))
              exact ⟨[rtl c], w, rfl, rfl, by simp; omega, m', hlt, rtl c, rfl, (rtl_small c hc).1, hg2, hb5, hp5, s5⟩
            · have g' : c :: w ∉ ns := fun z => g (by rw [if_neg Bool.false_ne_true, inV_tx]; exact decide_eq_true z)
              refine ⟨_, rfl, by show 4 ≤ sizeLine; decide, fun p6 n6 => ?_⟩
              have s6 := Same.upd (o := HO.tup (txs keptW)) n6
              have h6 : upd H5 p6 (HO.tup (txs keptW)) p6 = some (HO.tup (txs keptW)) := upd_same
              have hb6 := hb5.same s6
              have hp6 := s6 _ _ hp5
              have s26 : SameB b H2 _ := s5.trans (SameB.of s6)
              refine ⟨p6, txs keptW, rfl, .inr (SqT.of h6), rfl, txs_flat _, _, rfl, ite2 (fun g2 => ?_) (fun g2 => ?_)⟩
              · have g2' : c :: w ∈ keptW := by rw [if_neg Bool.false_ne_true, inV_tx] at g2; exact of_decide_eq_true g2
                obtain ⟨m', hlt, hg2⟩ := go (List.mem_append.mpr (.inr g2'))
                refine ⟨_, rfl, _, rfl, rfl, _, rfl, c :: w, 0, c, rfl, rfl, by simp; omega, at0, smalls, c, rfl, rfl, hc, _, _, rfl, rfl, _, _, rfl, rfl, (by decide : (0 : Int) < 26), smalls, _, rtl c, rfl, rfl, by decide, atr, _, rfl, _, rfl, c :: w, rfl, by simp; omega, ?_⟩
                rw [cutw]
                exact ⟨[rtl c], w, rfl, rfl, by simp; omega, m', hlt, rtl c, rfl, (rtl_small c hc).1, hg2, hb6, hp6, s26⟩
              · refine ⟨_, rfl, .inl ⟨rfl, _, SqL.of hp6⟩, _, rfl, p, _, _, rfl, rfl, hp6, by rw [txs_len]; omega, ?_⟩
                refine ⟨many - (ns ++ [c :: w]).length, by rw [List.length_append, hmm]; simp; omega, _, _, _, ns ++ [c :: w], rfl, hb6.updN pb, by rw [upd_same, txs_snoc], rfl, by simp; omega, fun s hs => ?_, List.nodup_append.mpr ⟨hnd, by simp, fun x hx y hy z => by rw [List.mem_singleton.mp hy] at z; rw [z] at hx; exact g' hx⟩, (sH2.trans s26).updN pH⟩
                rcases List.mem_append.mp hs with z | z
                · exact hns s z
                · rw [List.mem_singleton.mp z]
                  exact ⟨by simp, fun d hd => by
                    rcases List.mem_cons.mp hd with rfl | hd
                    · exact hc
                    · exact hw d hd, by simp; omega⟩
    · have gl' : ¬ ns.length < many := fun z => gl (decide_eq_true (by rw [txs_len]; omega))
      exact ⟨_, rfl, q p ns _ pH pb hp2 (by omega) hns hnd hb2 sH2⟩
/-- names: 0 _law_box_here, 1 _law_known, 2 _law_letter, 3 _law_name, 4 _law_form -/
theorem ok_Lgreat (T : Txt K mg f0 f1 f2 f3 f4 f5 f6 f7 f8 f9 f10 f11 f12 f13 f14 f15 f16 f17 f18 c_TooLong c_MeetError c_NoName c_NoRow c_NoText c_Twice g_TooLong d0 d1 d2 d3 d4 d5 d6 d7 d8 d9 d10 d11 d12 d13 d14 d15 d16 d17 d18 e_TooLong) : FnOk P w K mg base CX0 2 f16 d16 ["_law_box_here", "_law_known", "_law_letter"] (sp_Lgreat K) := by
  have G_Ltake := ok_Ltake (P := P) (w := w) (base := base) T
  refine T.F16.fn.ok sc_Lgreat (fun vs H Q E h => len_Lgreat h) (fun cdv A outer s H vs Q E hr h => ?_)
  refine ⟨_, (pss_cons (ps_set (i := 3) sc_Lgreat.nd rfl (Or.inl rfl) (pe_tup (pa_cons (pe_S [110, 97, 109, 101] (by decide +kernel)) (pa_cons (pe_ix (ix_listK K rfl) (pv 1) (pe_call G_Ltake (hr.mono (by decide)) rfl T.F9.mg T.F9.fn.kp T.F9.bd .nil pass0 (pa_cons (pv 0) (pa_cons (pe_callB (call_len_seqK K rfl) rfl T.z_len PySem.boot_len (pa_cons (pv 1) pa_nil)) pa_nil))) (fun _ _ => rfl)) pa_nil))))
      (pss_cons (ps_set (i := 4) sc_Lgreat.nd rfl (Or.inl rfl) (pe_call G_Ltake (hr.mono (by decide)) rfl T.F9.mg T.F9.fn.kp T.F9.bd .nil pass0 (pa_cons (pv 0) (pa_cons pe_int pa_nil))))
      (pss_cons (ps_if (pt_cmpR op_eqI (pv 4) pe_int (nomark _)) (pss_one (ps_ret (pe_tup (pa_cons (pe_S [116, 104, 101, 110] (by decide +kernel)) (pa_cons (pv 3) (pa_cons (pe_tup (pa_cons (pe_S [110, 97, 109, 101] (by decide +kernel)) (pa_cons (pe_ix (ix_listK K rfl) (pv 1) (pe_call G_Ltake (hr.mono (by decide)) rfl T.F9.mg T.F9.fn.kp T.F9.bd .nil pass0 (pa_cons (pv 0) (pa_cons (pe_callB (call_len_seqK K rfl) rfl T.z_len PySem.boot_len (pa_cons (pv 1) pa_nil)) pa_nil))) (fun _ _ => rfl)) pa_nil))) pa_nil)))))) pss_nil)
      (pss_cons (ps_if (pt_cmpR op_eqI (pv 4) pe_int (nomark _)) (pss_one (ps_ret (pe_tup (pa_cons (pe_S [102, 111, 114] (by decide +kernel)) (pa_cons (pv 2) (pa_cons (pv 3) (pa_cons (pe_tup (pa_cons (pe_S [119, 97, 108, 107] (by decide +kernel)) (pa_cons (pe_op op_mulS (pv 2) (pe_op op_add pe_int (pe_call G_Ltake (hr.mono (by decide)) rfl T.F9.mg T.F9.fn.kp T.F9.bd .nil pass0 (pa_cons (pv 0) (pa_cons pe_int pa_nil))))) pa_nil))) pa_nil))))))) pss_nil)
      (pss_one (ps_ret (pe_tup (pa_cons (pe_S [97, 103, 97, 105, 110] (by decide +kernel)) (pa_cons (pe_call G_Ltake (hr.mono (by decide)) rfl T.F9.mg T.F9.fn.kp T.F9.bd .nil pass0 (pa_cons (pv 0) (pa_cons pe_int pa_nil))) (pa_cons (pv 3) pa_nil)))))))))), ?_⟩
  obtain ⟨b, kp, known, c, rfl, hb, hkb, hk, hne, hkl, hc, q⟩ := h
  have hs : (100000 : Nat) < sizeLine := by decide
  have hkpos : 0 < known.length := List.length_pos_iff.mpr hne
  refine ⟨_, rfl, _, rfl, _, rfl, kp, _, rfl, .inl (SqL.of hk), ?_⟩
  rw [txs_len]
  refine ⟨b, (known.length : Nat), rfl, hb, by omega, by omega, fun r1 H1 hr1 hb1 s1 => ?_⟩
  have hk1 := s1 _ _ hk hkb
  have hr1' : r1 < known.length := by omega
  have e1 : (txs known)[r1]? = some (.str (S known[r1])) := by unfold txs; rw [List.getElem?_map, List.getElem?_eq_getElem hr1']; rfl
  refine ⟨kp, _, _, _, rfl, rfl, SqL.of hk1, atI_nat e1, by show 2 ≤ sizeLine; decide, fun p2 n2 => ?_⟩
  have hm1 : known[r1] ∈ known := List.getElem_mem hr1'
  generalize known[r1] = nm at hm1 ⊢
  have s2 := Same.upd (o := HO.tup [V.str (S kName), V.str (S nm)]) n2
  have h2 : TmAt (upd H1 p2 (HO.tup [V.str (S kName), V.str (S nm)])) p2 (.name nm) := upd_same
  have ep : (HO.tup [V.str (S [110, 97, 109, 101]), V.str (S nm)]) = HO.tup [V.str (S kName), V.str (S nm)] := rfl
  rw [ep]
  generalize upd H1 p2 (HO.tup [V.str (S kName), V.str (S nm)]) = H2 at s2 h2 ⊢
  have hk2 := s2 _ _ hk1
  have hb2 := hb1.same s2
  have s02 : SameB b H H2 := s1.trans (SameB.of s2)
  refine ⟨_, rfl, b, 4, rfl, hb2, by omega, by omega, fun form H3 hf hb3 s3 => ?_⟩
  have hk3 := s3 _ _ hk2 hkb
  have h3 : TmAt H3 p2 (.name nm) := h2.ts (s3.tsB hb2)
  have s03 := s02.trans s3
  refine ⟨_, rfl, _, _, rfl, rfl, _, rfl, ite2 (fun _ => ?_) (fun _ => ?_)⟩
  · refine ⟨_, rfl, _, rfl, _, rfl, _, rfl, kp, _, rfl, .inl (SqL.of hk3), ?_⟩
    rw [txs_len]
    refine ⟨b, (known.length : Nat), rfl, hb3, by omega, by omega, fun r4 H4 hr4 hb4 s4 => ?_⟩
    have hk4 := s4 _ _ hk3 hkb
    have hr4' : r4 < known.length := by omega
    have e4 : (txs known)[r4]? = some (.str (S known[r4])) := by unfold txs; rw [List.getElem?_map, List.getElem?_eq_getElem hr4']; rfl
    refine ⟨kp, _, _, _, rfl, rfl, SqL.of hk4, atI_nat e4, by show 2 ≤ sizeLine; decide, fun p5 n5 => ?_⟩
    have hm4 : known[r4] ∈ known := List.getElem_mem hr4'
    refine ⟨by show 3 ≤ sizeLine; decide, fun p6 n6 => ?_⟩
    have s45 := (Same.upd (o := HO.tup [V.str (S kName), V.str (S known[r4])]) n5)
    have s56 := Same.upd (o := HO.tup [V.str (S kThen), V.ref p2, V.ref p5]) n6
    refine q p6 (.thn (.name nm) (.name known[r4])) _ ⟨p2, p5, upd_same, ((h3.ts (s4.tsB hb3)).same s45).same s56, s56 _ _ upd_same⟩ (by show max 1 1 + 1 ≤ 2; decide) ⟨trivial, trivial⟩ (fun s hs => ?_) ((hb4.same s45).same s56) ((s03.trans s4).trans (SameB.of (s45.trans s56)))
    rcases List.mem_append.mp hs with z | z
    · rw [List.mem_singleton.mp z]; exact hm1
    · rw [List.mem_singleton.mp z]; exact hm4
  · refine ⟨_, rfl, _, _, rfl, rfl, _, rfl, ite2 (fun _ => ?_) (fun _ => ?_)⟩
    · refine ⟨_, rfl, _, rfl, _, rfl, _, rfl, b, 6, rfl, hb3, by omega, by omega, fun r4 H4 hr4 hb4 s4 => ?_⟩
      have en : ((1 : Int) + (r4 : Int)).toNat = 1 + r4 := by omega
      refine ⟨_, _, rfl, rfl, [c], _, rfl, rfl, by omega, by rw [en]; simp only [List.length_singleton]; omega, ?_⟩
      rw [en]
      refine ⟨by show 2 ≤ sizeLine; decide, fun p5 n5 => ⟨by show 4 ≤ sizeLine; decide, fun p6 n6 => ?_⟩⟩
      have s45 := (Same.upd (o := HO.tup [V.str (S kWalk), V.str (S (reps (1 + r4) [c]))]) n5)
      have s56 := Same.upd (o := HO.tup [V.str (S kFor), V.str (S [c]), V.ref p2, V.ref p5]) n6
      refine q p6 (.fr c (.name nm) (.walk (reps (1 + r4) [c]))) _ ⟨p2, p5, upd_same, ((h3.ts (s4.tsB hb3)).same s45).same s56, s56 _ _ upd_same⟩ (by show max 1 1 + 1 ≤ 2; decide) ⟨hc, trivial, reps_one hc (by omega)⟩ (fun s hs => ?_) ((hb4.same s45).same s56) ((s03.trans s4).trans (SameB.of (s45.trans s56)))
      rcases List.mem_append.mp hs with z | z
      · rw [List.mem_singleton.mp z]; exact hm1
      · cases z
    · refine ⟨_, rfl, b, 7, rfl, hb3, by omega, by omega, fun r4 H4 hr4 hb4 s4 => ?_⟩
      refine ⟨_, rfl, by show 3 ≤ sizeLine; decide, fun p6 n6 => ?_⟩
      have s56 := Same.upd (o := HO.tup [V.str (S kAgain), V.int r4, V.ref p2]) n6
      exact q p6 (.again r4 (.name nm)) _ ⟨p2, upd_same, (h3.ts (s4.tsB hb3)).same s56⟩ (by show 1 + 1 ≤ 2; decide) ⟨by omega, trivial⟩ (fun s hs => by rw [List.mem_singleton.mp hs]; exact hm1) (hb4.same s56) ((s03.trans s4).trans (SameB.of s56))
/-- names: 0 _law_box_here, 1 _law_known, 2 _law_letter, 3 _law_part, 4 _law_form -/
theorem ok_Lrow (T : Txt K mg f0 f1 f2 f3 f4 f5 f6 f7 f8 f9 f10 f11 f12 f13 f14 f15 f16 f17 f18 c_TooLong c_MeetError c_NoName c_NoRow c_NoText c_Twice g_TooLong d0 d1 d2 d3 d4 d5 d6 d7 d8 d9 d10 d11 d12 d13 d14 d15 d16 d17 d18 e_TooLong) : FnOk P w K mg base CX0 3 f17 d17 ["_law_box_here", "_law_known", "_law_letter"] (sp_Lrow K) := by
  have G_Lgreat := ok_Lgreat (P := P) (w := w) (base := base) T
  have G_Ltake := ok_Ltake (P := P) (w := w) (base := base) T
  refine T.F17.fn.ok sc_Lrow (fun vs H Q E h => len_Lrow h) (fun cdv A outer s H vs Q E hr h => ?_)
  refine ⟨_, (pss_cons (ps_set (i := 3) sc_Lrow.nd rfl (Or.inl rfl) (pe_call G_Lgreat (hr.mono (by decide)) rfl T.F16.mg T.F16.fn.kp T.F16.bd .nil pass0 (pa_cons (pv 0) (pa_cons (pv 1) (pa_cons (pv 2) pa_nil)))))
      (pss_cons (ps_set (i := 4) sc_Lrow.nd rfl (Or.inl rfl) (pe_call G_Ltake (hr.mono (by decide)) rfl T.F9.mg T.F9.fn.kp T.F9.bd .nil pass0 (pa_cons (pv 0) (pa_cons pe_int pa_nil))))
      (pss_cons (ps_if (pt_cmpR op_eqI (pv 4) pe_int (nomark _)) (pss_one (ps_ret (pe_tup (pa_cons (pe_S [97, 103, 97, 105, 110] (by decide +kernel)) (pa_cons pe_int (pa_cons (pv 3) pa_nil)))))) pss_nil)
      (pss_cons (ps_if (pt_cmpR op_eqI (pv 4) pe_int (nomark _)) (pss_one (ps_ret (pe_tup (pa_cons (pe_S [116, 104, 101, 110] (by decide +kernel)) (pa_cons (pv 3) (pa_cons (pe_tup (pa_cons (pe_S [98, 97, 99, 107] (by decide +kernel)) (pa_cons (pv 3) pa_nil))) pa_nil)))))) pss_nil)
      (pss_cons (ps_if (pt_cmpR op_eqI (pv 4) pe_int (nomark _)) (pss_one (ps_ret (pe_tup (pa_cons (pe_S [116, 104, 101, 110] (by decide +kernel)) (pa_cons (pe_tup (pa_cons (pe_S [119, 97, 108, 107] (by decide +kernel)) (pa_cons (pe_op op_mulS (pv 2) (pe_call G_Ltake (hr.mono (by decide)) rfl T.F9.mg T.F9.fn.kp T.F9.bd .nil pass0 (pa_cons (pv 0) (pa_cons pe_int pa_nil)))) pa_nil))) (pa_cons (pv 3) pa_nil)))))) pss_nil)
      (pss_cons (ps_if (pt_cmpR op_eqI (pv 4) pe_int (nomark _)) (pss_one (ps_ret (pe_tup (pa_cons (pe_S [98, 97, 99, 107] (by decide +kernel)) (pa_cons (pv 3) pa_nil))))) pss_nil)
      (pss_one (ps_ret (pv 3))))))))), ?_⟩
  obtain ⟨b, kp, known, c, rfl, hb, hkb, hk, hne, hkl, hc, q⟩ := h
  have hs : (100000 : Nat) < sizeLine := by decide
  refine ⟨_, rfl, _, rfl, _, rfl, b, kp, known, c, rfl, hb, hkb, hk, hne, hkl, hc, fun a t H1 ht hd ho hm hb1 s1 => ?_⟩
  refine ⟨_, rfl, b, 6, rfl, hb1, by omega, by omega, fun form H2 hf hb2 s2 => ?_⟩
  have ht2 : TmAt H2 a t := ht.ts (s2.tsB hb1)
  have s02 := s1.trans s2
  refine ⟨_, rfl, _, _, rfl, rfl, _, rfl, ite2 (fun _ => ?_) (fun _ => ?_)⟩
  · refine ⟨_, rfl, by show 3 ≤ sizeLine; decide, fun p6 n6 => ?_⟩
    have s56 := Same.upd (o := HO.tup [V.str (S kAgain), V.int 0, V.ref a]) n6
    exact q p6 (.again 0 t) _ ⟨a, upd_same, ht2.same s56⟩ (by show dep t + 1 ≤ 4; omega) ⟨by omega, ho⟩ hm (hb2.same s56) (s02.trans (SameB.of s56))
  refine ⟨_, rfl, _, _, rfl, rfl, _, rfl, ite2 (fun _ => ?_) (fun _ => ?_)⟩
  · refine ⟨_, rfl, _, rfl, by show 2 ≤ sizeLine; decide, fun p5 n5 => ⟨by show 3 ≤ sizeLine; decide, fun p6 n6 => ?_⟩⟩
    have s45 := Same.upd (o := HO.tup [V.str (S kBack), V.ref a]) n5
    have s56 := Same.upd (o := HO.tup [V.str (S kThen), V.ref a, V.ref p5]) n6
    refine q p6 (.thn t (.back t)) _ ⟨a, p5, upd_same, (ht2.same s45).same s56, a, s56 _ _ upd_same, (ht2.same s45).same s56⟩ (by show max (dep t) (dep t + 1) + 1 ≤ 4; omega) ⟨ho, ho⟩ (fun s hs => ?_) ((hb2.same s45).same s56) (s02.trans (SameB.of (s45.trans s56)))
    rcases List.mem_append.mp hs with z | z
    · exact hm s z
    · exact hm s z
  refine ⟨_, rfl, _, _, rfl, rfl, _, rfl, ite2 (fun _ => ?_) (fun _ => ?_)⟩
  · refine ⟨_, rfl, _, rfl, b, 4, rfl, hb2, by omega, by omega, fun r4 H4 hr4 hb4 s4 => ?_⟩
    have en : ((r4 : Int)).toNat = r4 := by omega
    refine ⟨[c], _, rfl, rfl, by omega, by rw [en]; simp only [List.length_singleton]; omega, ?_⟩
    rw [en]
    refine ⟨by show 2 ≤ sizeLine; decide, fun p5 n5 => ⟨_, rfl, by show 3 ≤ sizeLine; decide, fun p6 n6 => ?_⟩⟩
    have s45 := (Same.upd (o := HO.tup [V.str (S kWalk), V.str (S (reps r4 [c]))]) n5)
    have s56 := Same.upd (o := HO.tup [V.str (S kThen), V.ref p5, V.ref a]) n6
    exact q p6 (.thn (.walk (reps r4 [c])) t) _ ⟨p5, a, upd_same, s56 _ _ upd_same, ((ht2.ts (s4.tsB hb2)).same s45).same s56⟩ (by show max 1 (dep t) + 1 ≤ 4; omega) ⟨reps_one hc (by omega), ho⟩ (fun s hs => hm s hs) ((hb4.same s45).same s56) ((s02.trans s4).trans (SameB.of (s45.trans s56)))
  refine ⟨_, rfl, _, _, rfl, rfl, _, rfl, ite2 (fun _ => ?_) (fun _ => ?_)⟩
  · refine ⟨_, rfl, by show 2 ≤ sizeLine; decide, fun p6 n6 => ?_⟩
    have s56 := Same.upd (o := HO.tup [V.str (S kBack), V.ref a]) n6
    exact q p6 (.back t) _ ⟨a, upd_same, ht2.same s56⟩ (by show dep t + 1 ≤ 4; omega) ho hm (hb2.same s56) (s02.trans (SameB.of s56))
  · exact ⟨_, rfl, q a t _ ht2 (by omega) ho hm hb2 s02⟩
/-- names: 0 _law_program, 1 _law_known, 2 _law_name, 3 _law_term -/
theorem ok_Ldue (T : Txt K mg f0 f1 f2 f3 f4 f5 f6 f7 f8 f9 f10 f11 f12 f13 f14 f15 f16 f17 f18 c_TooLong c_MeetError c_NoName c_NoRow c_NoText c_Twice g_TooLong d0 d1 d2 d3 d4 d5 d6 d7 d8 d9 d10 d11 d12 d13 d14 d15 d16 d17 d18 e_TooLong) : FnOk P w K mg base CX0 12 f14 d14 ["_law_program"] (sp_Ldue K) := by
  have G_Lvalue := ok_Lvalue (P := P) (w := w) (base := base) T
  refine T.F14.fn.ok sc_Ldue (fun vs H Q E h => len_Ldue h) (fun cdv A outer s H vs Q E hr h => ?_)
  refine ⟨_, (pss_cons (ps_set (i := 1) sc_Ldue.nd rfl (Or.inr rfl) pe_dnewK)
      (pss_cons (ps_for PassesOwn.never rfl (pi_listK K rfl (pv 0)) (pg_tupK (n := 2) K rfl rfl (pgs_cons (pg_name (i := 2) sc_Ldue.nd rfl (Or.inl rfl)) (pgs_cons (pg_name (i := 3) sc_Ldue.nd rfl (Or.inl rfl)) pgs_nil))) (pss_cons (ps_dput (hu_of hr) (pv 1) (pv 2) (pe_call (G_Lvalue 8) (hr.mono (by decide)) rfl T.F13.mg T.F13.fn.kp T.F13.bd .nil pass0 (pa_cons (pv 3) (pa_cons (pv 1) pa_nil))) rfl)
      (pss_one (ps_if (pt_cmpR op_isN (pe_dget (hu_of hr) (pv 1) (pv 2) (fun _ _ => rfl)) pe_non (nomark _)) (pss_one (ps_ret (pe_tup (pa_cons (pe_S [108, 111, 110, 103] (by decide +kernel)) (pa_cons (pv 2) pa_nil))))) pss_nil))))
      (pss_one (ps_ret (pe_compB ["_law_name", "_law_term", "_law_known"] [none, none, some 1] (pi_listK K rfl (pv 0)) ⟨⟨rfl, rfl, by first | exact .inl rfl | exact .inr rfl⟩, trivial⟩ (fun _ _ _ _ => (pg_tupK (n := 2) K rfl rfl (pgs_cons (pg_name (i := 0) (by decide +kernel : List.Nodup (["_law_name", "_law_term", "_law_known"] : List Str)) rfl (Or.inl rfl)) (pgs_cons (pg_name (i := 1) (by decide +kernel : List.Nodup (["_law_name", "_law_term", "_law_known"] : List Str)) rfl (Or.inl rfl)) pgs_nil)))) (fun _ _ _ _ => pf_nil) (fun _ _ _ _ => (pe_dget (hu_of hr) (pv 2) (pv 0) (fun _ _ => rfl)))))))), ?_⟩
  obtain ⟨p, ks, rfl, hp, q1, q2⟩ := h
  have hs : (100000 : Nat) < sizeLine := by decide
  have hfw := hp.fw
  intro d nd
  refine ⟨_, rfl, p, rfl, ⟨_, SqL.of (Same.upd nd _ _ hp.tp)⟩, ?_⟩
  refine for_list (K := K) (a := p) (xs := rwv ks) (fun i σ H' => ∃ (nv tv : Option V) (kvs : List (List Nat × List Nat)), σ = [some (.ref p), some (.ref d), nv, tv] ∧ H' d = some (.dK (kvW kvs)) ∧ kvs.map (·.1) = nmk (ks.take i) ∧ (∀ q ∈ kvs, wOk q.2) ∧ runP [] (rwt ks) = runP kvs (rwt (ks.drop i)) ∧ SameB d H H')
    ⟨none, none, [], rfl, upd_same, rfl, by simp, rfl, SameB.of (Same.upd nd)⟩ (fun i σ H' _ ⟨_, _, _, _, _, _, _, _, s⟩ => SqL.of (s _ _ hp.tp (ne_of_none hp.tp nd))) ?_ ?_
  · rintro i x σ H2 hx ⟨nv, tv, kvs, rfl, hd2, hkk, hkw, hm, s2⟩
    obtain ⟨k, hk, rfl⟩ := rwv_get hx
    have ts : TSame H H2 := fun c xs e => s2 c _ e (ne_of_none e nd)
    have hkm := List.mem_of_getElem? hk
    have hrw := (hp.rw k hkm).ts ts
    have hi := (List.getElem?_eq_some_iff.mp hk).1
    have hkl : kvs.length ≤ 8 := by have := congrArg List.length hkk; unfold nmk at this; rw [List.length_map, List.length_map, List.length_take] at this; omega
    rw [runP_step ks i k _ hk] at hm
    have sH : Same H H2 := fun c o e => s2 c o e (ne_of_none e nd)
    have hkn : KnOk kvs k.t := ⟨hkw, fun s hs => kv_has (by rw [hkk]; exact hp.let_ i k hk s hs)⟩
    have hnew := valW_none (s := k.nm) (kvs := kvs) (by rw [hkk]; exact nm_new hk hp.nd)
    have ek : nmk (ks.take (i + 1)) = nmk (ks.take i) ++ [k.nm] := by rw [← take_snoc hk]; unfold nmk; rw [List.map_append]; rfl
    refine ⟨k.r, _, rfl, SqT.of hrw.tp, rfl, _, _, rfl, _, _, rfl, rfl, ?_⟩
    refine ⟨_, rfl, _, rfl, k.a, d, k.t, kvs, rfl, hrw.tm, hp.ok k hkm, Nat.le_trans hrw.dp (by decide), by decide, hd2, hkn, fun H3 s3 => ?_⟩
    cases hv : val kvs k.t with
    | some x =>
      rw [hv] at hm
      refine ⟨_, rfl, _, rfl, d, _, rfl, DPut.k (k := kS k.nm) (s3 _ _ hd2) (by unfold kvW; rw [List.length_map]; omega), ?_⟩
      rw [putK_new _ hnew]
      refine ⟨_, rfl, _, rfl, d, .str (S x), rfl, by rw [← valV_snoc (v := .str (S x)) hnew]; exact DGet.k (k := kS k.nm) upd_same, rfl, _, rfl, iteN (by rfl) ?_⟩
      refine ⟨_, _, kvs ++ [(k.nm, x)], rfl, by rw [upd_same, kvW_snoc], by rw [List.map_append, hkk, ek]; rfl, fun q hq => ?_, hm, fun c o z w => by rw [upd_ne w]; exact s3 _ _ (s2 c o z w)⟩
      rcases List.mem_append.mp hq with z | z
      · exact hkw q z
      · rw [List.mem_singleton.mp z]; exact val_ok k.t (hp.ok k hkm) hkn hv
    | none =>
      rw [hv] at hm
      refine ⟨_, rfl, _, rfl, d, _, rfl, DPut.k (k := kS k.nm) (s3 _ _ hd2) (by unfold kvW; rw [List.length_map]; omega), ?_⟩
      rw [putK_new _ hnew]
      refine ⟨_, rfl, _, rfl, d, .non, rfl, by rw [← valV_snoc (v := .non) hnew]; exact DGet.k (k := kS k.nm) upd_same, rfl, _, rfl, iteY (by rfl) ?_⟩
      refine ⟨_, rfl, by show 2 ≤ sizeLine; decide, fun p5 n5 => q2 _ hm p5 _ upd_same ?_⟩
      refine Same.trans (fun c o e => ?_) (Same.upd n5)
      rw [upd_ne (ne_of_none e nd)]
      exact s3 _ _ (sH c o e)
  · rintro σ H2 ⟨nv, tv, kvs, rfl, hd2, hkk, hkw, hm, s2⟩
    rw [rwv_len, List.drop_length] at hm
    rw [rwv_len, List.take_length] at hkk
    have sH : Same H H2 := fun c o e => s2 c o e (ne_of_none e nd)
    have hl8 : kvs.length = ks.length := by have := congrArg List.length hkk; unfold nmk at this; rw [List.length_map, List.length_map] at this; exact this
    refine ⟨_, rfl, p, rfl, ⟨_, SqL.of (sH _ _ hp.tp)⟩, ?_⟩
    refine comp_list (K := K) (a := p) (xs := rwv ks) (fun i acc H' => H' = H2 ∧ acc = txs ((nmk (ks.take i)).map (kn kvs))) (by rw [rwv_len]; omega) (fun i acc H' h => by rw [h.1]; exact SqL.of (sH _ _ hp.tp)) ⟨rfl, rfl⟩ ?_ ?_
    · rintro i x acc H3 Nx hi hx hl3 ⟨rfl, rfl⟩ nx
      obtain ⟨k, hk, rfl⟩ := rwv_get hx
      have hrw := (hp.rw k (List.mem_of_getElem? hk)).ts (TSame.of sH)
      have hin : k.nm ∈ kvs.map (·.1) := by rw [hkk]; exact List.mem_map.mpr ⟨k, List.mem_of_getElem? hk, rfl⟩
      refine ⟨k.r, _, rfl, SqT.of hrw.tp, rfl, _, _, rfl, _, _, rfl, rfl, ⟨rfl, trivial⟩, yes_ite ?_⟩
      refine ⟨_, rfl, _, rfl, d, _, rfl, by rw [← valW (kv_has hin)]; exact DGet.k (k := kS k.nm) hd2, nx _ _ (by simpa using hl3) ⟨rfl, ?_⟩⟩
      rw [txs_snoc, ← take_snoc hk]
      unfold nmk
      rw [List.map_append, List.map_append]
      rfl
    · rintro acc H3 D hl3 ⟨rfl, rfl⟩ hD
      rw [rwv_len, List.take_length, ← hkk]
      have e : (kvs.map (·.1)).map (kn kvs) = kvs.map (·.2) := kn_map (by rw [hkk]; exact hp.nd)
      rw [e]
      exact q1 kvs hm D _ upd_same (sH.trans (Same.upd hD))
/-- names: 0 _law_script, 1 _law_k, 2 _law_box_here, 3 _law_names_here, 4 _law_letter, 5 _law_program, 6 _law_j, 7 _law_found -/
theorem ok_law (T : Txt K mg f0 f1 f2 f3 f4 f5 f6 f7 f8 f9 f10 f11 f12 f13 f14 f15 f16 f17 f18 c_TooLong c_MeetError c_NoName c_NoRow c_NoText c_Twice g_TooLong d0 d1 d2 d3 d4 d5 d6 d7 d8 d9 d10 d11 d12 d13 d14 d15 d16 d17 d18 e_TooLong) : FnOk P w K mg base CX0 16 f18 d18 ["_law_script"] (sp_law K) := by
  have G_Lbox := ok_Lbox (P := P) (w := w) (base := base) T
  have G_Lnames := ok_Lnames (P := P) (w := w) (base := base) T
  have G_Ltake := ok_Ltake (P := P) (w := w) (base := base) T
  have G_Lrow := ok_Lrow (P := P) (w := w) (base := base) T
  have G_Ltold := ok_Ltold (P := P) (w := w) (base := base) T
  have G_Ldue := ok_Ldue (P := P) (w := w) (base := base) T
  refine T.F18.fn.ok sc_law (fun vs H Q E h => len_law h) (fun cdv A outer s H vs Q E hr h => ?_)
  refine ⟨_, (pss_cons (ps_for PassesOwn.never rfl (pi_range1 rfl T.z_range (pa_cons (pe_callB (call_max2 rfl) rfl T.z_max boot_max (pa_cons pe_int (pa_cons (pe_callB (call_min2 rfl) rfl T.z_min boot_min (pa_cons pe_int (pa_cons (pe_callB (call_len_seqK K rfl) rfl T.z_len PySem.boot_len (pa_cons (pv 0) pa_nil)) pa_nil))) pa_nil))) pa_nil)) (pg_name (i := 1) sc_law.nd rfl (Or.inl rfl)) (pss_cons (ps_set (i := 2) sc_law.nd rfl (Or.inl rfl) (pe_call G_Lbox (hr.mono (by decide)) rfl T.F8.mg T.F8.fn.kp T.F8.bd .nil pass0 (pa_cons (pv 0) (pa_cons (pv 1) pa_nil))))
      (pss_cons (ps_set (i := 3) sc_law.nd rfl (Or.inl rfl) (pe_call G_Lnames (hr.mono (by decide)) rfl T.F11.mg T.F11.fn.kp T.F11.bd .nil pass0 (pa_cons (pv 2) (pa_cons pe_int pa_nil))))
      (pss_cons (ps_set (i := 4) sc_law.nd rfl (Or.inl rfl) (pe_ix ix_S (pe_S [97, 98, 99, 100, 101, 102, 103, 104, 105, 106, 107, 108, 109, 110, 111, 112, 113, 114, 115, 116, 117, 118, 119, 120, 121, 122] (by decide +kernel)) (pe_call G_Ltake (hr.mono (by decide)) rfl T.F9.mg T.F9.fn.kp T.F9.bd .nil pass0 (pa_cons (pv 2) (pa_cons pe_int pa_nil))) (fun _ _ => rfl)))
      (pss_cons (ps_set (i := 5) sc_law.nd rfl (Or.inl rfl) (pe_lst (pa_cons (pe_tup (pa_cons (pe_ix (ix_listK K rfl) (pv 3) pe_int (fun _ _ => rfl)) (pa_cons (pe_tup (pa_cons (pe_S [119, 97, 108, 107] (by decide +kernel)) (pa_cons (pe_op op_mulS (pv 4) (pe_op op_add pe_int (pe_call G_Ltake (hr.mono (by decide)) rfl T.F9.mg T.F9.fn.kp T.F9.bd .nil pass0 (pa_cons (pv 2) (pa_cons pe_int pa_nil))))) pa_nil))) pa_nil))) pa_nil)))
      (pss_cons (ps_for PassesOwn.never rfl (pi_range2 rfl T.z_range (pa_cons pe_int (pa_cons (pe_op op_add pe_int (pe_call G_Ltake (hr.mono (by decide)) rfl T.F9.mg T.F9.fn.kp T.F9.bd .nil pass0 (pa_cons (pv 2) (pa_cons pe_int pa_nil)))) pa_nil))) (pg_name (i := 6) sc_law.nd rfl (Or.inl rfl)) (pss_one (ps_expr (pe_bmK K rfl PySem.F.plainAttrs_list PySem.F.slot_list_append PySem.F.type_list_append mt_append (pv 5) (pa_cons (pe_tup (pa_cons (pe_ix (ix_listK K rfl) (pv 3) (pv 6) (fun _ _ => rfl)) (pa_cons (pe_call G_Lrow (hr.mono (by decide)) rfl T.F17.mg T.F17.fn.kp T.F17.bd .nil pass0 (pa_cons (pv 2) (pa_cons (pe_slice (sl_listK K rfl) (pv 3) po_none (po_some (pv 6))) (pa_cons (pv 4) pa_nil)))) pa_nil))) pa_nil)))))
      (pss_cons (ps_set (i := 7) sc_law.nd rfl (Or.inl rfl) (pe_call G_Ltold (hr.mono (by decide)) rfl T.F15.mg T.F15.fn.kp T.F15.bd .nil pass0 (pa_cons (pe_callTy (call_tuple_ofK K rfl) rfl T.z_tuple boot_tuple (pa_cons (pv 5) pa_nil)) pa_nil)))
      (pss_one (ps_if (PW.pt (pw_or (pt_cmpR op_neB (pe_callB (call_isListG K rfl) rfl T.z_isinstance boot_isinstance (pa_cons (pv 7) (pa_cons (pe_bltn (v := .ty "list") rfl T.z_list boot_list rfl) pa_nil))) (pe_callB (call_isListG K rfl) rfl T.z_isinstance boot_isinstance (pa_cons (pe_call G_Ldue (hr.mono (by decide)) rfl T.F14.mg T.F14.fn.kp T.F14.bd .nil pass0 (pa_cons (pv 5) pa_nil)) (pa_cons (pe_bltn (v := .ty "list") rfl T.z_list boot_list rfl) pa_nil))) (nomark _)) (pw_or1 (pt_cmpR (op_neD K rfl hr) (pv 7) (pe_call G_Ldue (hr.mono (by decide)) rfl T.F14.mg T.F14.fn.kp T.F14.bd .nil pass0 (pa_cons (pv 5) pa_nil)) (nomark _))))) (pss_one (ps_ret pe_bl)) pss_nil)))))))))
      (pss_one (ps_ret pe_bl))), ?_⟩
  obtain ⟨a, ns0, rfl, hS, hl, q⟩ := h
  have hs : (100000 : Nat) < sizeLine := by decide
  refine ⟨_, rfl, a, _, rfl, .inl hS, ?_⟩
  have hcnt := cnt (lo := 5) (hi := 12) (m := (ns0.map V.int).length) (by decide)
  refine ⟨_, _, rfl, _, _, rfl, ?_⟩
  refine ⟨_, rfl, by omega, by omega, ?_⟩
  refine for_range (fun i σ H' => Same H H' ∧ ∃ kv bv nv lv pv jv fv : Option V, σ = [some (.ref a), kv, bv, nv, lv, pv, jv, fv]) ⟨Same.refl _, _, _, _, _, _, _, _, rfl⟩ ?_ ?_
  · rintro i0 σ H0 hi0 ⟨s0, kv, bv, nv, lv, pv, jv, fv, rfl⟩
    refine ⟨_, rfl, _, rfl, a, ns0, i0, by rw [Int.zero_add]; rfl, s0.seq hS, by omega, fun b H1 nb bx s1 => ?_⟩
    refine ⟨_, rfl, b, 5, rfl, bx, by omega, fun np ns H2 nn2 nb2 hn2 hlen hok hnd hb2 s2 => ?_⟩
    refine ⟨_, rfl, b, 26, rfl, hb2, by omega, by omega, fun r3 H3 hr3 hb3 s3 => ?_⟩
    have hr3' : r3 < smalls.length := by have : smalls.length = 26 := rfl
                                         omega
    refine ⟨smalls, _, smalls[r3], rfl, rfl, by decide, atI_nat (List.getElem?_eq_getElem hr3'), ?_⟩
    have hc : smalls[r3] ∈ smalls := List.getElem_mem hr3'
    generalize smalls[r3] = c at hc ⊢
    have hn3 := s3 _ _ hn2 nb2
    have h0 : 0 < ns.length := by omega
    refine ⟨_, rfl, np, _, ((0 : Nat) : Int), _, rfl, rfl, SqL.of hn3, atI_nat (txs_at h0), ?_⟩
    refine ⟨_, rfl, _, rfl, b, 12, rfl, hb3, by omega, by omega, fun r4 H4 hr4 hb4 s4 => ?_⟩
    have en : ((1 : Int) + (r4 : Int)).toNat = 1 + r4 := by omega
    refine ⟨_, _, rfl, rfl, [c], _, rfl, rfl, by omega, by rw [en]; simp only [List.length_singleton]; omega, ?_⟩
    rw [en]
    refine ⟨by show 2 ≤ sizeLine; decide, fun p5 n5 => ⟨by show 2 ≤ sizeLine; decide, fun p6 n6 => ⟨by show 1 ≤ sizeLine; decide, fun p7 n7 => ?_⟩⟩⟩
    have s5 := Same.upd (o := HO.tup [V.str (S [119, 97, 108, 107]), V.str (S (reps (1 + r4) [c]))]) n5
    have s6 := Same.upd (o := HO.tup [V.str (S ns[0]), V.ref p5]) n6
    have s7 := Same.upd (o := HO.lst [V.ref p6]) n7
    have s14 : SameB b H1 H4 := (s2.trans s3).trans s4
    have s47 := (s5.trans s6).trans s7
    have hb7 := hb4.same s47
    have hn7 := s47 _ _ (s4 _ _ hn3 nb2)
    have s17 := s14.trans (SameB.of s47)
    have n7b : p7 ≠ b := ((hb4.same s5).same s6).ne n7
    have n7n : p7 ≠ np := fun z => by rw [z, s6 _ _ (s5 _ _ (s4 _ _ hn3 nb2))] at n7; cases n7
    have n71 : H1 p7 = none := (s14.trans (SameB.of (s5.trans s6))).none n7 n7b
    have hrow := (⟨s7 _ _ upd_same, s7 _ _ (s6 _ _ upd_same), by show 1 ≤ 7; decide, (hok _ (List.getElem_mem h0)).l128, fun s hs => by cases hs⟩ : RwOk _ (⟨p6, p5, ns[0], .walk (reps (1 + r4) [c])⟩ : Rw))
    have hp7 : upd (upd (upd H4 p5 (HO.tup [V.str (S [119, 97, 108, 107]), V.str (S (reps (1 + r4) [c]))])) p6 (HO.tup [V.str (S ns[0]), V.ref p5])) p7 (HO.lst [V.ref p6]) p7 = some (.lst (rwv [(⟨p6, p5, ns[0], .walk (reps (1 + r4) [c])⟩ : Rw)])) := upd_same
    generalize (upd (upd (upd H4 p5 (HO.tup [V.str (S [119, 97, 108, 107]), V.str (S (reps (1 + r4) [c]))])) p6 (HO.tup [V.str (S ns[0]), V.ref p5])) p7 (HO.lst [V.ref p6])) = H7 at hb7 hn7 s17 hrow hp7 ⊢
    clear s7 s47
    refine ⟨_, rfl, b, 3, rfl, hb7, by omega, by omega, fun m H8 hm hb8 s8 => ?_⟩
    refine ⟨_, _, rfl, rfl, 1, _, rfl, by omega, ?_⟩
    refine for_range (fun i σ H' => ∃ (kv2 jv : Option V) (ks : List Rw), σ = [some (.ref a), kv2, some (.ref b), some (.ref np), some (.str (S [c])), some (.ref p7), jv, fv] ∧ BoxAt H' b ∧ H' np = some (.lst (txs ns)) ∧ H' p7 = some (.lst (rwv ks)) ∧ ks.length = 1 + i ∧ (∀ k ∈ ks, RwOk H' k ∧ TmOk k.t) ∧ nmk ks = ns.take (1 + i) ∧ (∀ (j : Nat) (k : Rw), ks[j]? = some k → ∀ s ∈ nms k.t, s ∈ ns.take j) ∧ SameB b H1 H')
      ⟨_, _, [_], rfl, hb8, s8 _ _ hn7 nb2, s8 _ _ hp7 n7b, rfl, fun k hk => by rw [List.mem_singleton.mp hk]; exact ⟨hrow.ts (s8.tsB hb7), reps_one hc (by omega)⟩, ?_, fun j k hk s hs => ?_, s17.trans s8⟩ ?_ ?_
    · show [ns[0]] = ns.take 1
      rw [← take_snoc (List.getElem?_eq_getElem h0)]
      rfl
    · have hj := (List.getElem?_eq_some_iff.mp hk).1
      simp only [List.length_singleton] at hj
      obtain rfl : j = 0 := by omega
      cases hk
      cases hs
    · rintro i σ H9 hi ⟨kv2, jv, ks, rfl, hb9, hn9, hp9, hkl, hrk, hnk, hlet, s9⟩
      have hi5 : 1 + i < ns.length := by omega
      have ej : (1 : Int) + (i : Int) = ((1 + i : Nat) : Int) := by omega
      rw [ej]
      refine ⟨_, rfl, .inl ⟨rfl, _, SqL.of hp9⟩, _, rfl, _, rfl, np, _, _, _, rfl, rfl, SqL.of hn9, atI_nat (txs_at hi5), ?_⟩
      refine ⟨_, rfl, _, rfl, _, rfl, _, rfl, np, _, rfl, SqL.of hn9, fun kp nk => ?_⟩
      rw [cut_txs]
      have s10 := Same.upd (o := HO.lst (txs (ns.take (1 + i)))) nk
      have h10 : upd H9 kp (HO.lst (txs (ns.take (1 + i)))) kp = some (HO.lst (txs (ns.take (1 + i)))) := upd_same
      have nkb : kp ≠ b := hb9.ne nk
      generalize upd H9 kp (HO.lst (txs (ns.take (1 + i)))) = H10 at s10 h10 ⊢
      have hb10 := hb9.same s10
      have htl : (ns.take (1 + i)).length = 1 + i := by rw [List.length_take]; omega
      refine ⟨_, rfl, b, kp, ns.take (1 + i), c, rfl, hb10, nkb, h10, fun z => by rw [z] at htl; simp at htl; omega, by omega, hc, fun a' t H11 ht hd ho hm11 hb11 s11 => ?_⟩
      refine ⟨by show 2 ≤ sizeLine; decide, fun p12 n12 => ?_⟩
      have s12 := Same.upd (o := HO.tup [V.str (S ns[1 + i]), V.ref a']) n12
      have h12 : upd H11 p12 (HO.tup [V.str (S ns[1 + i]), V.ref a']) p12 = some (HO.tup [V.str (S ns[1 + i]), V.ref a']) := upd_same
      generalize upd H11 p12 (HO.tup [V.str (S ns[1 + i]), V.ref a']) = H12 at s12 h12 ⊢
      have s912 : SameB b H9 H12 := ((SameB.of s10).trans s11).trans (SameB.of s12)
      have hp12 := s912 _ _ hp9 n7b
      refine ⟨p7, _, _, rfl, rfl, hp12, by rw [rwv_len]; omega, ?_⟩
      have tU : TSame H12 (upd H12 p7 (.lst (rwv ks ++ [V.ref p12]))) := TSame.updL hp12
      have ts : TSame H9 (upd H12 p7 (.lst (rwv ks ++ [V.ref p12]))) := (s912.tsB hb9).trans tU
      have hin : ns[1 + i]? = some ns[1 + i] := List.getElem?_eq_getElem hi5
      refine ⟨_, _, ks ++ [⟨p12, a', ns[1 + i], t⟩], rfl, (hb11.same s12).updN n7b, ?_, by rw [upd_same, rwv_snoc ks ⟨p12, a', ns[1 + i], t⟩], by simp [hkl]; omega, fun k hk => ?_, ?_, fun j k hk s hs => ?_, (s9.trans s912).updN n71⟩
      · rw [upd_ne (Ne.symm n7n)]
        exact s912 _ _ hn9 nb2
      · rcases List.mem_append.mp hk with z | z
        · exact ⟨(hrk k z).1.ts ts, (hrk k z).2⟩
        · rw [List.mem_singleton.mp z]
          exact ⟨⟨tU _ _ h12, (ht.same s12).ts tU, by show dep t ≤ 7; omega, (hok _ (List.getElem_mem hi5)).l128, fun s hs => (hok s (List.mem_of_mem_take (hm11 s hs))).l128⟩, ho⟩
      · rw [show 1 + (i + 1) = 1 + i + 1 by omega, ← take_snoc hin, ← hnk]; unfold nmk; rw [List.map_append]; rfl
      · by_cases z : j < ks.length
        · rw [List.getElem?_append_left z] at hk
          exact hlet j k hk s hs
        · have hj : j = ks.length := by
            have := (List.getElem?_eq_some_iff.mp hk).1
            rw [List.length_append, List.length_singleton] at this
            omega
          subst hj
          rw [List.getElem?_append_right (Nat.le_refl _), Nat.sub_self] at hk
          have : k = ⟨p12, a', ns[1 + i], t⟩ := (Option.some.inj hk).symm
          subst this
          rw [hkl]
          exact hm11 s hs
    · rintro σ H9 ⟨kv2, jv, ks, rfl, hb9, hn9, hp9, hkl, hrk, hnk, hlet, s9⟩
      have s09 : Same H0 H9 := fun c o z => s9 c o (s1 c o z) (ne_of_none z nb)
      have hpl : PlOk H9 p7 ks := ⟨hp9, fun k hk => (hrk k hk).1, by omega, fun k hk => (hrk k hk).2, by rw [hnk]; exact hnd.sublist (List.take_sublist _ _), fun i k hk s hs => by
        have hi := (List.getElem?_eq_some_iff.mp hk).1
        have e : nmk (ks.take i) = ns.take i := by
          have e1 : nmk (ks.take i) = (nmk ks).take i := by unfold nmk; rw [List.map_take]
          rw [e1, hnk, List.take_take, Nat.min_eq_left (by omega)]
        rw [e]
        exact hlet i k hk s hs⟩
      refine ⟨_, rfl, p7, _, rfl, .inl ⟨SqL.of hp9, fun pt nt => ?_⟩⟩
      have st := Same.upd (o := HO.tup (rwv ks)) nt
      have hpg : PgOk (upd H9 pt (HO.tup (rwv ks))) pt ks := hpl.tup st upd_same
      have hpl := hpl.same st
      generalize upd H9 pt (HO.tup (rwv ks)) = H10 at st hpg hpl ⊢
      refine ⟨pt, ks, rfl, hpg, fun kvs e q6 H6 n6 h6 s6 => ?_, fun nm e q6 H6 h6 s6 => ?_⟩
      · have lo := hpg.low e
        refine ⟨_, rfl, _, rfl, .inl ⟨q6, _, rfl, h6, ?_⟩⟩
        refine ⟨_, rfl, p7, ks, rfl, hpl.same s6, fun kvs' e' q7 H7 h7 s7 => ?_, fun nm' e' => by rw [e] at e'; cases e'⟩
        rw [e] at e'
        cases e'
        have h67 := s7 _ _ h6
        refine ⟨_, rfl, .inl ⟨q7, _, rfl, h7, true, true, rfl, rfl, _, rfl, iteN (by decide) ?_⟩⟩
        refine ⟨_, rfl, _, rfl, p7, ks, rfl, (hpl.same s6).same s7, fun kvs' e' q8 H8 h8 s8 => ?_, fun nm' e' => by rw [e] at e'; cases e'⟩
        rw [e] at e'
        cases e'
        refine ⟨.list (tds (kvs.map (·.2))), .list (tds (kvs.map (·.2))), .lst (SqL.of (s8 _ _ h67)) (rdds_txs _), .lst (SqL.of h8) (rdds_txs _), ⟨lay_txs lo, lay_txs lo⟩, by show PyData.depthAll (tds _) + 1 ≤ 60; rw [depth_txs]; decide, _, rfl, ?_⟩
        rw [eqv_refl (.list (tds (kvs.map (·.2)))) (by show PyData.hasDictAll (tds _) = false; exact noDict_txs _)]
        refine iteN rfl ?_
        exact ⟨s0.trans ((((s09.trans st).trans s6).trans s7).trans s8), _, _, _, _, _, _, _, rfl⟩
      · have lo := hpg.nmlow e
        have lo2 : ∀ l ∈ [wLong, nm], ∀ c ∈ l, c < 128 := fun l hl => by
          rcases List.mem_cons.mp hl with z | z
          · rw [z]; exact wLong_low
          · rw [List.mem_singleton.mp z]; exact lo
        refine ⟨_, rfl, _, rfl, .inr (.inl ⟨q6, _, rfl, h6, ?_⟩)⟩
        refine ⟨_, rfl, p7, ks, rfl, hpl.same s6, fun kvs' e' => (by rw [e] at e'; cases e'), fun nm' e' q7 H7 h7 s7 => ?_⟩
        rw [e] at e'
        cases e'
        have h67 := s7 _ _ h6
        refine ⟨_, rfl, .inr (.inl ⟨q7, _, rfl, h7, false, false, rfl, rfl, _, rfl, iteN (by decide) ?_⟩)⟩
        refine ⟨_, rfl, _, rfl, p7, ks, rfl, (hpl.same s6).same s7, fun kvs' e' => (by rw [e] at e'; cases e'), fun nm' e' q8 H8 h8 s8 => ?_⟩
        rw [e] at e'
        cases e'
        refine ⟨.tuple (tds [wLong, nm]), .tuple (tds [wLong, nm]), .tup (SqT.of (s8 _ _ h67)) (rdds_txs [wLong, nm]), .tup (SqT.of h8) (rdds_txs [wLong, nm]), ⟨lay_txs lo2, lay_txs lo2⟩, by show PyData.depthAll (tds _) + 1 ≤ 60; rw [depth_txs]; decide, _, rfl, ?_⟩
        rw [eqv_refl (.tuple (tds [wLong, nm])) (by show PyData.hasDictAll (tds _) = false; exact noDict_txs _)]
        refine iteN rfl ?_
        exact ⟨s0.trans ((((s09.trans st).trans s6).trans s7).trans s8), _, _, _, _, _, _, _, rfl⟩
  · rintro σ H9 ⟨s0, kv, bv, nv, lv, pv, jv, fv, rfl⟩
    exact q _
end
theorem all_mk {l : PySem.W.OpenLaw} {w : World} {K : PySem.W.Frag} {h : Heap} {mg : Str → Option Value} {fa f0 f1 f2 f3 f4 f5 f6 f7 f8 f9 f10 f11 f12 f13 f14 f15 f16 f17 f18 c_TooLong c_MeetError c_NoName c_NoRow c_NoText c_Twice g_TooLong : Addr} (X : K.In h) (G : h.Ns mainGlobals mg) (hfa : mg "law" = some (.ref fa))
    {tc_LONGEST : Tok}
    {od0 an0 od1 an1 od2 an2 od3 an3 od4 an4 od5 an5 od6 an6 od7 an7 od8 an8 od9 an9 od10 an10 od11 an11 od12 an12 od13 an13 od14 an14 od15 an15 od16 an16 od17 an17 od18 an18 od_TooLong an_TooLong : Option Addr} {sl0 sl1 sl2 sl3 sl4 sl5 sl6 sl7 sl8 sl9 sl10 sl11 sl12 sl13 sl14 sl15 sl16 sl17 sl18 sl_TooLong : Array (Option Value)} {oc0 kV0 dc0 pm0 cd0 ct0 oc1 kV1 dc1 pm1 cd1 ct1 oc2 kV2 dc2 pm2 cd2 ct2 oc3 kV3 dc3 pm3 cd3 ct3 oc4 kV4 dc4 pm4 cd4 ct4 oc5 kV5 dc5 pm5 cd5 ct5 oc6 kV6 dc6 pm6 cd6 ct6 oc7 kV7 dc7 pm7 cd7 ct7 oc8 kV8 dc8 pm8 cd8 ct8 oc9 kV9 dc9 pm9 cd9 ct9 oc10 kV10 dc10 pm10 cd10 ct10 oc11 kV11 dc11 pm11 cd11 ct11 oc12 kV12 dc12 pm12 cd12 ct12 oc13 kV13 dc13 pm13 cd13 ct13 oc14 kV14 dc14 pm14 cd14 ct14 oc15 kV15 dc15 pm15 cd15 ct15 oc16 kV16 dc16 pm16 cd16 ct16 oc17 kV17 dc17 pm17 cd17 ct17 oc18 kV18 dc18 pm18 cd18 ct18 oc_TooLong kV_TooLong dc_TooLong pm_TooLong cd_TooLong ct_TooLong : Value}
    (a0 : PySem.W.nsIn K mainGlobals "contrary" = some (some (.ref f0)))
    (l0 : K.lookup f0 = some ⟨oc0, od0, .func (PySem.W.fnOf "contrary" "contrary" (defArgs s_contrary) (defBody s_contrary) (defScope s_contrary) .none kV0 dc0 pm0 an0 cd0 ct0), sl0⟩)
    (c0 : PySem.W.codeIn K cd0 "contrary" = true)
    (k0 : PySem.W.keepIn K (.ref f0) = true)
    (a1 : PySem.W.nsIn K mainGlobals "turned" = some (some (.ref f1)))
    (l1 : K.lookup f1 = some ⟨oc1, od1, .func (PySem.W.fnOf "turned" "turned" (defArgs s_turned) (defBody s_turned) (defScope s_turned) .none kV1 dc1 pm1 an1 cd1 ct1), sl1⟩)
    (c1 : PySem.W.codeIn K cd1 "turned" = true)
    (k1 : PySem.W.keepIn K (.ref f1) = true)
    (a2 : PySem.W.nsIn K mainGlobals "shortened" = some (some (.ref f2)))
    (l2 : K.lookup f2 = some ⟨oc2, od2, .func (PySem.W.fnOf "shortened" "shortened" (defArgs s_shortened) (defBody s_shortened) (defScope s_shortened) .none kV2 dc2 pm2 an2 cd2 ct2), sl2⟩)
    (c2 : PySem.W.codeIn K cd2 "shortened" = true)
    (k2 : PySem.W.keepIn K (.ref f2) = true)
    (a3 : PySem.W.nsIn K mainGlobals "terms_in" = some (some (.ref f3)))
    (l3 : K.lookup f3 = some ⟨oc3, od3, .func (PySem.W.fnOf "terms_in" "terms_in" (defArgs s_terms_in) (defBody s_terms_in) (defScope s_terms_in) .none kV3 dc3 pm3 an3 cd3 ct3), sl3⟩)
    (c3 : PySem.W.codeIn K cd3 "terms_in" = true)
    (k3 : PySem.W.keepIn K (.ref f3) = true)
    (a4 : PySem.W.nsIn K mainGlobals "put_for" = some (some (.ref f4)))
    (l4 : K.lookup f4 = some ⟨oc4, od4, .func (PySem.W.fnOf "put_for" "put_for" (defArgs s_put_for) (defBody s_put_for) (defScope s_put_for) .none kV4 dc4 pm4 an4 cd4 ct4), sl4⟩)
    (c4 : PySem.W.codeIn K cd4 "put_for" = true)
    (k4 : PySem.W.keepIn K (.ref f4) = true)
    (a5 : PySem.W.nsIn K mainGlobals "made_of" = some (some (.ref f5)))
    (l5 : K.lookup f5 = some ⟨oc5, od5, .func (PySem.W.fnOf "made_of" "made_of" (defArgs s_made_of) (defBody s_made_of) (defScope s_made_of) .none kV5 dc5 pm5 an5 cd5 ct5), sl5⟩)
    (c5 : PySem.W.codeIn K cd5 "made_of" = true)
    (k5 : PySem.W.keepIn K (.ref f5) = true)
    (a6 : PySem.W.nsIn K mainGlobals "word_of" = some (some (.ref f6)))
    (l6 : K.lookup f6 = some ⟨oc6, od6, .func (PySem.W.fnOf "word_of" "word_of" (defArgs s_word_of) (defBody s_word_of) (defScope s_word_of) .none kV6 dc6 pm6 an6 cd6 ct6), sl6⟩)
    (c6 : PySem.W.codeIn K cd6 "word_of" = true)
    (k6 : PySem.W.keepIn K (.ref f6) = true)
    (a7 : PySem.W.nsIn K mainGlobals "worked" = some (some (.ref f7)))
    (l7 : K.lookup f7 = some ⟨oc7, od7, .func (PySem.W.fnOf "worked" "worked" (defArgs s_worked) (defBody s_worked) (defScope s_worked) .none kV7 dc7 pm7 an7 cd7 ct7), sl7⟩)
    (c7 : PySem.W.codeIn K cd7 "worked" = true)
    (k7 : PySem.W.keepIn K (.ref f7) = true)
    (a8 : PySem.W.nsIn K mainGlobals "_law_box" = some (some (.ref f8)))
    (l8 : K.lookup f8 = some ⟨oc8, od8, .func (PySem.W.fnOf "_law_box" "_law_box" (defArgs s_Lbox) (defBody s_Lbox) (defScope s_Lbox) .none kV8 dc8 pm8 an8 cd8 ct8), sl8⟩)
    (c8 : PySem.W.codeIn K cd8 "_law_box" = true)
    (k8 : PySem.W.keepIn K (.ref f8) = true)
    (a9 : PySem.W.nsIn K mainGlobals "_law_take" = some (some (.ref f9)))
    (l9 : K.lookup f9 = some ⟨oc9, od9, .func (PySem.W.fnOf "_law_take" "_law_take" (defArgs s_Ltake) (defBody s_Ltake) (defScope s_Ltake) .none kV9 dc9 pm9 an9 cd9 ct9), sl9⟩)
    (c9 : PySem.W.codeIn K cd9 "_law_take" = true)
    (k9 : PySem.W.keepIn K (.ref f9) = true)
    (a10 : PySem.W.nsIn K mainGlobals "_law_other" = some (some (.ref f10)))
    (l10 : K.lookup f10 = some ⟨oc10, od10, .func (PySem.W.fnOf "_law_other" "_law_other" (defArgs s_Lother) (defBody s_Lother) (defScope s_Lother) .none kV10 dc10 pm10 an10 cd10 ct10), sl10⟩)
    (c10 : PySem.W.codeIn K cd10 "_law_other" = true)
    (k10 : PySem.W.keepIn K (.ref f10) = true)
    (a11 : PySem.W.nsIn K mainGlobals "_law_names" = some (some (.ref f11)))
    (l11 : K.lookup f11 = some ⟨oc11, od11, .func (PySem.W.fnOf "_law_names" "_law_names" (defArgs s_Lnames) (defBody s_Lnames) (defScope s_Lnames) .none kV11 dc11 pm11 an11 cd11 ct11), sl11⟩)
    (c11 : PySem.W.codeIn K cd11 "_law_names" = true)
    (k11 : PySem.W.keepIn K (.ref f11) = true)
    (a12 : PySem.W.nsIn K mainGlobals "_law_shortened" = some (some (.ref f12)))
    (l12 : K.lookup f12 = some ⟨oc12, od12, .func (PySem.W.fnOf "_law_shortened" "_law_shortened" (defArgs s_Lshortened) (defBody s_Lshortened) (defScope s_Lshortened) .none kV12 dc12 pm12 an12 cd12 ct12), sl12⟩)
    (c12 : PySem.W.codeIn K cd12 "_law_shortened" = true)
    (k12 : PySem.W.keepIn K (.ref f12) = true)
    (a13 : PySem.W.nsIn K mainGlobals "_law_value" = some (some (.ref f13)))
    (l13 : K.lookup f13 = some ⟨oc13, od13, .func (PySem.W.fnOf "_law_value" "_law_value" (defArgs s_Lvalue) (defBody s_Lvalue) (defScope s_Lvalue) .none kV13 dc13 pm13 an13 cd13 ct13), sl13⟩)
    (c13 : PySem.W.codeIn K cd13 "_law_value" = true)
    (k13 : PySem.W.keepIn K (.ref f13) = true)
    (a14 : PySem.W.nsIn K mainGlobals "_law_due" = some (some (.ref f14)))
    (l14 : K.lookup f14 = some ⟨oc14, od14, .func (PySem.W.fnOf "_law_due" "_law_due" (defArgs s_Ldue) (defBody s_Ldue) (defScope s_Ldue) .none kV14 dc14 pm14 an14 cd14 ct14), sl14⟩)
    (c14 : PySem.W.codeIn K cd14 "_law_due" = true)
    (k14 : PySem.W.keepIn K (.ref f14) = true)
    (a15 : PySem.W.nsIn K mainGlobals "_law_told" = some (some (.ref f15)))
    (l15 : K.lookup f15 = some ⟨oc15, od15, .func (PySem.W.fnOf "_law_told" "_law_told" (defArgs s_Ltold) (defBody s_Ltold) (defScope s_Ltold) .none kV15 dc15 pm15 an15 cd15 ct15), sl15⟩)
    (c15 : PySem.W.codeIn K cd15 "_law_told" = true)
    (k15 : PySem.W.keepIn K (.ref f15) = true)
    (a16 : PySem.W.nsIn K mainGlobals "_law_great" = some (some (.ref f16)))
    (l16 : K.lookup f16 = some ⟨oc16, od16, .func (PySem.W.fnOf "_law_great" "_law_great" (defArgs s_Lgreat) (defBody s_Lgreat) (defScope s_Lgreat) .none kV16 dc16 pm16 an16 cd16 ct16), sl16⟩)
    (c16 : PySem.W.codeIn K cd16 "_law_great" = true)
    (k16 : PySem.W.keepIn K (.ref f16) = true)
    (a17 : PySem.W.nsIn K mainGlobals "_law_row" = some (some (.ref f17)))
    (l17 : K.lookup f17 = some ⟨oc17, od17, .func (PySem.W.fnOf "_law_row" "_law_row" (defArgs s_Lrow) (defBody s_Lrow) (defScope s_Lrow) .none kV17 dc17 pm17 an17 cd17 ct17), sl17⟩)
    (c17 : PySem.W.codeIn K cd17 "_law_row" = true)
    (k17 : PySem.W.keepIn K (.ref f17) = true)
    (a18 : PySem.W.nsIn K mainGlobals "law" = some (some (.ref f18)))
    (l18 : K.lookup f18 = some ⟨oc18, od18, .func (PySem.W.fnOf "law" "law" (defArgs s_law) (defBody s_law) (defScope s_law) .none kV18 dc18 pm18 an18 cd18 ct18), sl18⟩)
    (c18 : PySem.W.codeIn K cd18 "law" = true)
    (k18 : PySem.W.keepIn K (.ref f18) = true)
    (q_TooLong : PySem.W.nsIn K mainGlobals "TooLong" = some (some (.ref c_TooLong)))
    (q_MeetError : PySem.W.nsIn K mainGlobals "MeetError" = some (some (.ref c_MeetError)))
    (q_NoName : PySem.W.nsIn K mainGlobals "NoName" = some (some (.ref c_NoName)))
    (q_NoRow : PySem.W.nsIn K mainGlobals "NoRow" = some (some (.ref c_NoRow)))
    (q_NoText : PySem.W.nsIn K mainGlobals "NoText" = some (some (.ref c_NoText)))
    (q_Twice : PySem.W.nsIn K mainGlobals "Twice" = some (some (.ref c_Twice)))
    (xis_TooLong : xIn K c_TooLong = true)
    (xga_TooLong : PySem.W.findIn K (.ref c_TooLong) "__getattribute__" = some (some (.builtin "BaseException.__getattribute__")))
    (xgh_TooLong : PySem.W.findIn K (.ref c_TooLong) "__getattr__" = some none)
    (xsa_TooLong : PySem.W.findIn K (.ref c_TooLong) "__setattr__" = some (some (.builtin "object.__setattr__")))
    (xcl_TooLong : PySem.W.findIn K (.ref c_TooLong) "__class__" = some (some (.builtin "object.__class__")))
    (xcg_TooLong : PySem.W.specialIn K (.builtin "object.__class__") "__get__" = some (some (.builtin "getset_descriptor.__get__")))
    (xct_TooLong : PySem.W.takesIn K (.builtin "object.__class__") = some true)
    (xob_TooLong : PySem.W.mroIn K c_TooLong (.type "object") = some true)
    (xkp_TooLong : PySem.W.keepIn K (.ref c_TooLong) = true)
    (r_TooLong : PySem.W.mroIn K c_TooLong (.ref c_MeetError) = some true)
    (xis_MeetError : xIn K c_MeetError = true)
    (xga_MeetError : PySem.W.findIn K (.ref c_MeetError) "__getattribute__" = some (some (.builtin "BaseException.__getattribute__")))
    (xgh_MeetError : PySem.W.findIn K (.ref c_MeetError) "__getattr__" = some none)
    (xsa_MeetError : PySem.W.findIn K (.ref c_MeetError) "__setattr__" = some (some (.builtin "object.__setattr__")))
    (xcl_MeetError : PySem.W.findIn K (.ref c_MeetError) "__class__" = some (some (.builtin "object.__class__")))
    (xcg_MeetError : PySem.W.specialIn K (.builtin "object.__class__") "__get__" = some (some (.builtin "getset_descriptor.__get__")))
    (xct_MeetError : PySem.W.takesIn K (.builtin "object.__class__") = some true)
    (xob_MeetError : PySem.W.mroIn K c_MeetError (.type "object") = some true)
    (xkp_MeetError : PySem.W.keepIn K (.ref c_MeetError) = true)
    (qi_TooLong : PySem.W.findIn K (.ref c_TooLong) "__init__" = some (some (.ref g_TooLong)))
    (fi_TooLong : PySem.W.isFn K (.ref g_TooLong) = true)
    (li_TooLong : K.lookup g_TooLong = some ⟨oc_TooLong, od_TooLong, .func (PySem.W.fnOf "__init__" "TooLong.__init__" (defArgs s_i_TooLong) (defBody s_i_TooLong) (defScope s_i_TooLong) .none kV_TooLong dc_TooLong pm_TooLong an_TooLong cd_TooLong ct_TooLong), sl_TooLong⟩)
    (ci_TooLong : PySem.W.codeIn K cd_TooLong "TooLong.__init__" = true)
    (ki_TooLong : PySem.W.keepIn K (.ref g_TooLong) = true)
    (n_TooLong_name : PySem.W.findIn K (.ref c_TooLong) "name" = some none)
    (xbr : PySem.W.readsIn K c_MeetError (.type "type") = true)
    (xbg : PySem.W.specialIn K (.ref c_MeetError) "__getattribute__" = some (some (.builtin "type.__getattribute__")))
    (xbf : PySem.W.findCls K (.ref c_MeetError) (.type "type") "__init__" = some (.val (.builtin "ValueError.__init__")))
    (k_TooLong_TooLong : PySem.W.kitOne K (.ref c_TooLong) (.ref c_TooLong) = some true)
    (k_TooLong_NoName : PySem.W.kitOne K (.ref c_TooLong) (.ref c_NoName) = some false)
    (k_TooLong_NoRow : PySem.W.kitOne K (.ref c_TooLong) (.ref c_NoRow) = some false)
    (k_TooLong_NoText : PySem.W.kitOne K (.ref c_TooLong) (.ref c_NoText) = some false)
    (k_TooLong_Twice : PySem.W.kitOne K (.ref c_TooLong) (.ref c_Twice) = some false)
    (k_TooLong_ValueError : PySem.W.kitOne K (.ref c_TooLong) (.type "ValueError") = some true)
    (g_LONGEST : PySem.W.nsIn K mainGlobals "LONGEST" = some (some (.int 60 tc_LONGEST)))
    (z_ValueError : PySem.W.nsIn K mainGlobals "ValueError" = some none)
    (z_int : PySem.W.nsIn K mainGlobals "int" = some none)
    (z_isinstance : PySem.W.nsIn K mainGlobals "isinstance" = some none)
    (z_len : PySem.W.nsIn K mainGlobals "len" = some none)
    (z_list : PySem.W.nsIn K mainGlobals "list" = some none)
    (z_max : PySem.W.nsIn K mainGlobals "max" = some none)
    (z_min : PySem.W.nsIn K mainGlobals "min" = some none)
    (z_range : PySem.W.nsIn K mainGlobals "range" = some none)
    (z_reversed : PySem.W.nsIn K mainGlobals "reversed" = some none)
    (z_tuple : PySem.W.nsIn K mainGlobals "tuple" = some none) :
    ∃ fd : FuncData, (∀ (s : Shared) (v : Value), BindsTo s fd ⟨[v], []⟩ [("_law_script", v)]) ∧ ∀ base : Heap, K.In base → base.Ns mainGlobals mg → FnOk l.prog w K mg base CX0 16 fa fd ["_law_script"] (sp_law K) := by
  have e := hfa.symm.trans (PySem.W.mg_of X G a18)
  cases e
  have F0 := fun_mk (st := s_contrary) l0 c0 k0
  have b0 := F0.binds (ps := ["letter"]) fun _ _ _ _ _ _ us hl => match us, hl with | [_], _ => rfl
  have F1 := fun_mk (st := s_turned) l1 c1 k1
  have b1 := F1.binds (ps := ["word"]) fun _ _ _ _ _ _ us hl => match us, hl with | [_], _ => rfl
  have F2 := fun_mk (st := s_shortened) l2 c2 k2
  have b2 := F2.binds (ps := ["word"]) fun _ _ _ _ _ _ us hl => match us, hl with | [_], _ => rfl
  have F3 := fun_mk (st := s_terms_in) l3 c3 k3
  have b3 := F3.binds (ps := ["term"]) fun _ _ _ _ _ _ us hl => match us, hl with | [_], _ => rfl
  have F4 := fun_mk (st := s_put_for) l4 c4 k4
  have b4 := F4.binds (ps := ["letter", "word", "other"]) fun _ _ _ _ _ _ us hl => match us, hl with | [_, _, _], _ => rfl
  have F5 := fun_mk (st := s_made_of) l5 c5 k5
  have b5 := F5.binds (ps := ["term", "words", "known"]) fun _ _ _ _ _ _ us hl => match us, hl with | [_, _, _], _ => rfl
  have F6 := fun_mk (st := s_word_of) l6 c6 k6
  have b6 := F6.binds (ps := ["name", "term", "known"]) fun _ _ _ _ _ _ us hl => match us, hl with | [_, _, _], _ => rfl
  have F7 := fun_mk (st := s_worked) l7 c7 k7
  have b7 := F7.binds (ps := ["program"]) fun _ _ _ _ _ _ us hl => match us, hl with | [_], _ => rfl
  have F8 := fun_mk (st := s_Lbox) l8 c8 k8
  have b8 := F8.binds (ps := ["_law_script", "_law_k"]) fun _ _ _ _ _ _ us hl => match us, hl with | [_, _], _ => rfl
  have F9 := fun_mk (st := s_Ltake) l9 c9 k9
  have b9 := F9.binds (ps := ["_law_box_here", "_law_many"]) fun _ _ _ _ _ _ us hl => match us, hl with | [_, _], _ => rfl
  have F10 := fun_mk (st := s_Lother) l10 c10 k10
  have b10 := F10.binds (ps := ["_law_letter"]) fun _ _ _ _ _ _ us hl => match us, hl with | [_], _ => rfl
  have F11 := fun_mk (st := s_Lnames) l11 c11 k11
  have b11 := F11.binds (ps := ["_law_box_here", "_law_many"]) fun _ _ _ _ _ _ us hl => match us, hl with | [_, _], _ => rfl
  have F12 := fun_mk (st := s_Lshortened) l12 c12 k12
  have b12 := F12.binds (ps := ["_law_word"]) fun _ _ _ _ _ _ us hl => match us, hl with | [_], _ => rfl
  have F13 := fun_mk (st := s_Lvalue) l13 c13 k13
  have b13 := F13.binds (ps := ["_law_term", "_law_known"]) fun _ _ _ _ _ _ us hl => match us, hl with | [_, _], _ => rfl
  have F14 := fun_mk (st := s_Ldue) l14 c14 k14
  have b14 := F14.binds (ps := ["_law_program"]) fun _ _ _ _ _ _ us hl => match us, hl with | [_], _ => rfl
  have F15 := fun_mk (st := s_Ltold) l15 c15 k15
  have b15 := F15.binds (ps := ["_law_program"]) fun _ _ _ _ _ _ us hl => match us, hl with | [_], _ => rfl
  have F16 := fun_mk (st := s_Lgreat) l16 c16 k16
  have b16 := F16.binds (ps := ["_law_box_here", "_law_known", "_law_letter"]) fun _ _ _ _ _ _ us hl => match us, hl with | [_, _, _], _ => rfl
  have F17 := fun_mk (st := s_Lrow) l17 c17 k17
  have b17 := F17.binds (ps := ["_law_box_here", "_law_known", "_law_letter"]) fun _ _ _ _ _ _ us hl => match us, hl with | [_, _, _], _ => rfl
  have F18 := fun_mk (st := s_law) l18 c18 k18
  have b18 := F18.binds (ps := ["_law_script"]) fun _ _ _ _ _ _ us hl => match us, hl with | [_], _ => rfl
  have FI_TooLong := fun_mk (st := s_i_TooLong) li_TooLong ci_TooLong ki_TooLong
  have bI_TooLong := FI_TooLong.binds (ps := ["self", "name"]) fun _ _ _ _ _ _ us hl => match us, hl with | [_, _], _ => rfl
  have T : Txt K mg _ _ _ _ _ _ _ _ _ _ _ _ _ _ _ _ _ _ _ _ _ _ _ _ _ _ _ _ _ _ _ _ _ _ _ _ _ _ _ _ _ _ _ _ _ _ := ⟨⟨F0, PySem.W.mg_of X G a0, b0⟩, ⟨F1, PySem.W.mg_of X G a1, b1⟩, ⟨F2, PySem.W.mg_of X G a2, b2⟩, ⟨F3, PySem.W.mg_of X G a3, b3⟩, ⟨F4, PySem.W.mg_of X G a4, b4⟩, ⟨F5, PySem.W.mg_of X G a5, b5⟩, ⟨F6, PySem.W.mg_of X G a6, b6⟩, ⟨F7, PySem.W.mg_of X G a7, b7⟩, ⟨F8, PySem.W.mg_of X G a8, b8⟩, ⟨F9, PySem.W.mg_of X G a9, b9⟩, ⟨F10, PySem.W.mg_of X G a10, b10⟩, ⟨F11, PySem.W.mg_of X G a11, b11⟩, ⟨F12, PySem.W.mg_of X G a12, b12⟩, ⟨F13, PySem.W.mg_of X G a13, b13⟩, ⟨F14, PySem.W.mg_of X G a14, b14⟩, ⟨F15, PySem.W.mg_of X G a15, b15⟩, ⟨F16, PySem.W.mg_of X G a16, b16⟩, ⟨F17, PySem.W.mg_of X G a17, b17⟩, ⟨F18, PySem.W.mg_of X G a18, b18⟩, PySem.W.mg_of X G q_TooLong, PySem.W.mg_of X G q_MeetError, PySem.W.mg_of X G q_NoName, PySem.W.mg_of X G q_NoRow, PySem.W.mg_of X G q_NoText, PySem.W.mg_of X G q_Twice, ⟨xis_TooLong, xga_TooLong, xgh_TooLong, xsa_TooLong, xcl_TooLong, xcg_TooLong, xct_TooLong, xob_TooLong, xkp_TooLong⟩, r_TooLong, ⟨xis_MeetError, xga_MeetError, xgh_MeetError, xsa_MeetError, xcl_MeetError, xcg_MeetError, xct_MeetError, xob_MeetError, xkp_MeetError⟩, ⟨⟨xis_TooLong, xga_TooLong, xgh_TooLong, xsa_TooLong, xcl_TooLong, xcg_TooLong, xct_TooLong, xob_TooLong, xkp_TooLong⟩, qi_TooLong, fi_TooLong⟩, FI_TooLong, bI_TooLong, n_TooLong_name, ⟨xbr, xbg, xbf⟩, k_TooLong_TooLong, k_TooLong_NoName, k_TooLong_NoRow, k_TooLong_NoText, k_TooLong_Twice, k_TooLong_ValueError, PySem.W.mg_none_of X G z_ValueError, PySem.W.mg_none_of X G z_int, PySem.W.mg_none_of X G z_isinstance, PySem.W.mg_none_of X G z_len, PySem.W.mg_none_of X G z_list, PySem.W.mg_none_of X G z_max, PySem.W.mg_none_of X G z_min, PySem.W.mg_none_of X G z_range, PySem.W.mg_none_of X G z_reversed, PySem.W.mg_none_of X G z_tuple, ⟨_, PySem.W.mg_of X G g_LONGEST⟩⟩
  exact ⟨_, fun s v => .of_eq rfl, fun base _ _ => ok_law T⟩
theorem walk {l : PySem.W.OpenLaw} {q : Program} {loose : List Str} {XP : (Str → Option Value) → Heap → Prop} {YP : World → Heap → Prop} {d : DefRec} {K : Params → PySem.W.Frag} (hn : l.most = some 63) (hdf : d.params.defaults = [])
    (hY : ∀ (w : World) (h : Heap), YP w h → (K w.params).In h)
    (F : ∀ (w : World) (mg : Str → Option Value) (fa : Addr) (h : Heap), (K w.params).In h → h.Ns mainGlobals mg → mg d.name = some (.ref fa) →
      ∃ fd : FuncData, (∀ (s : Shared) (u : Value), BindsTo s fd ⟨[u], []⟩ [("_law_script", u)]) ∧ ∀ base : Heap, (K w.params).In base → base.Ns mainGlobals mg → FnOk l.prog w (K w.params) mg base CX0 16 fa fd ["_law_script"] (sp_law (K w.params))) :
    PySem.W.WalkO q loose XP YP l.row.toRowW d [] (fun f vs => PySem.call f vs) :=
  L2.walk_of (n := 63) (k := 16) (x := "_law_script") (CX := fun _ => CX0) (sp := fun w => sp_law (K w.params)) hn (by decide) hdf ⟨rfl, by decide, by decide, rfl⟩ hY F (fun _ _ a ns hl _ hS => ⟨a, ns, rfl, hS, hl, fun _ => rfl⟩) fun _ _ _ _ _ z => z
end My
open PySem PySem.W PyProof.Rows
set_option maxRecDepth 100000 in
set_option maxHeartbeats 0 in
theorem PySem.Challenge.cw_mustmeet_k59_rows_too_long_holds : PySem.Challenge.rw_mustmeet_k59_rows_too_long.Holds := by
  w_on; o_law; k_head; (case hw => w_witness2)
  k_fill
  refine My.walk (l := PySem.Challenge.rw_mustmeet_k59_rows_too_long) rfl rfl (fun w h Y => PySem.W.kIn_of Y) ?F
  case F =>
    intro w mg fa h KX G hmg
    refine' My.all_mk KX G hmg ?a0 ?l0 ?c0 ?k0 ?a1 ?l1 ?c1 ?k1 ?a2 ?l2 ?c2 ?k2 ?a3 ?l3 ?c3 ?k3 ?a4 ?l4 ?c4 ?k4 ?a5 ?l5 ?c5 ?k5 ?a6 ?l6 ?c6 ?k6 ?a7 ?l7 ?c7 ?k7 ?a8 ?l8 ?c8 ?k8 ?a9 ?l9 ?c9 ?k9 ?a10 ?l10 ?c10 ?k10 ?a11 ?l11 ?c11 ?k11 ?a12 ?l12 ?c12 ?k12 ?a13 ?l13 ?c13 ?k13 ?a14 ?l14 ?c14 ?k14 ?a15 ?l15 ?c15 ?k15 ?a16 ?l16 ?c16 ?k16 ?a17 ?l17 ?c17 ?k17 ?a18 ?l18 ?c18 ?k18 ?q_TooLong ?q_MeetError ?q_NoName ?q_NoRow ?q_NoText ?q_Twice ?xis_TooLong ?xga_TooLong ?xgh_TooLong ?xsa_TooLong ?xcl_TooLong ?xcg_TooLong ?xct_TooLong ?xob_TooLong ?xkp_TooLong ?r_TooLong ?xis_MeetError ?xga_MeetError ?xgh_MeetError ?xsa_MeetError ?xcl_MeetError ?xcg_MeetError ?xct_MeetError ?xob_MeetError ?xkp_MeetError ?qi_TooLong ?fi_TooLong ?li_TooLong ?ci_TooLong ?ki_TooLong ?n_TooLong_name ?xbr ?xbg ?xbf ?k_TooLong_TooLong ?k_TooLong_NoName ?k_TooLong_NoRow ?k_TooLong_NoText ?k_TooLong_Twice ?k_TooLong_ValueError ?g_LONGEST ?z_ValueError ?z_int ?z_isinstance ?z_len ?z_list ?z_max ?z_min ?z_range ?z_reversed ?z_tuple
    (case a0 => k_is)
    (case l0 => k_is)
    (case c0 => k_is)
    (case k0 => k_is)
    (case a1 => k_is)
    (case l1 => k_is)
    (case c1 => k_is)
    (case k1 => k_is)
    (case a2 => k_is)
    (case l2 => k_is)
    (case c2 => k_is)
    (case k2 => k_is)
    (case a3 => k_is)
    (case l3 => k_is)
    (case c3 => k_is)
    (case k3 => k_is)
    (case a4 => k_is)
    (case l4 => k_is)
    (case c4 => k_is)
    (case k4 => k_is)
    (case a5 => k_is)
    (case l5 => k_is)
    (case c5 => k_is)
    (case k5 => k_is)
    (case a6 => k_is)
    (case l6 => k_is)
    (case c6 => k_is)
    (case k6 => k_is)
    (case a7 => k_is)
    (case l7 => k_is)
    (case c7 => k_is)
    (case k7 => k_is)
    (case a8 => k_is)
    (case l8 => k_is)
    (case c8 => k_is)
    (case k8 => k_is)
    (case a9 => k_is)
    (case l9 => k_is)
    (case c9 => k_is)
    (case k9 => k_is)
    (case a10 => k_is)
    (case l10 => k_is)
    (case c10 => k_is)
    (case k10 => k_is)
    (case a11 => k_is)
    (case l11 => k_is)
    (case c11 => k_is)
    (case k11 => k_is)
    (case a12 => k_is)
    (case l12 => k_is)
    (case c12 => k_is)
    (case k12 => k_is)
    (case a13 => k_is)
    (case l13 => k_is)
    (case c13 => k_is)
    (case k13 => k_is)
    (case a14 => k_is)
    (case l14 => k_is)
    (case c14 => k_is)
    (case k14 => k_is)
    (case a15 => k_is)
    (case l15 => k_is)
    (case c15 => k_is)
    (case k15 => k_is)
    (case a16 => k_is)
    (case l16 => k_is)
    (case c16 => k_is)
    (case k16 => k_is)
    (case a17 => k_is)
    (case l17 => k_is)
    (case c17 => k_is)
    (case k17 => k_is)
    (case a18 => k_is)
    (case l18 => k_is)
    (case c18 => k_is)
    (case k18 => k_is)
    (case q_TooLong => k_is)
    (case q_MeetError => k_is)
    (case q_NoName => k_is)
    (case q_NoRow => k_is)
    (case q_NoText => k_is)
    (case q_Twice => k_is)
    (case xis_TooLong => kernel_rfl)
    (case xga_TooLong => k_is)
    (case xgh_TooLong => k_is)
    (case xsa_TooLong => k_is)
    (case xcl_TooLong => k_is)
    (case xcg_TooLong => k_is)
    (case xct_TooLong => k_is)
    (case xob_TooLong => k_is)
    (case xkp_TooLong => k_is)
    (case r_TooLong => k_is)
    (case xis_MeetError => kernel_rfl)
    (case xga_MeetError => k_is)
    (case xgh_MeetError => k_is)
    (case xsa_MeetError => k_is)
    (case xcl_MeetError => k_is)
    (case xcg_MeetError => k_is)
    (case xct_MeetError => k_is)
    (case xob_MeetError => k_is)
    (case xkp_MeetError => k_is)
    (case qi_TooLong => k_is)
    (case fi_TooLong => k_is)
    (case li_TooLong => k_is)
    (case ci_TooLong => k_is)
    (case ki_TooLong => k_is)
    (case n_TooLong_name => k_is)
    (case xbr => k_is)
    (case xbg => k_is)
    (case xbf => k_is)
    (case k_TooLong_TooLong => kernel_rfl)
    (case k_TooLong_NoName => kernel_rfl)
    (case k_TooLong_NoRow => kernel_rfl)
    (case k_TooLong_NoText => kernel_rfl)
    (case k_TooLong_Twice => kernel_rfl)
    (case k_TooLong_ValueError => kernel_rfl)
    (case g_LONGEST => k_is)
    (case z_ValueError => k_is)
    (case z_int => k_is)
    (case z_isinstance => k_is)
    (case z_len => k_is)
    (case z_list => k_is)
    (case z_max => k_is)
    (case z_min => k_is)
    (case z_range => k_is)
    (case z_reversed => k_is)
    (case z_tuple => k_is)
