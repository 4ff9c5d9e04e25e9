import PyProof.Rows.All
import Wide.All
import OpenK.AllK
import Wide.FinOn
import Lean
import PyProof.EqAt
import PyProof.EqKinds
import PyProof.TupleCall
import PySem.Challenge.RW_mustmeet_k17_drawings_as_texts
set_option Elab.async false
set_option linter.all false
set_option maxRecDepth 100000
/-! THE HAND LAYER, for ints, bools, texts, own classes, LISTS and tuples (index, slices, in, append, pop ..), calls, loops. Paste it whole ahead of your own text; what your proof does not reach may be deleted. -/
namespace L2
open PySem PySem.Spec PyProof.Rows

/-- a key: an int or a str -/
abbrev Key := Sum Int Str
def keyIs : Key → Value → Bool
  | .inl k, v => Value.isInt k v
  | .inr x, v => Value.isStrOf x v
def keyH (w : World) : Key → Int
  | .inl k => hashInt k
  | .inr x => hashStr w x
theorem keyIs_shape : ∀ {k : Key} {v : Value}, keyIs k v = true → (∃ i t, k = Sum.inl i ∧ v = Value.int i t) ∨ (∃ x t, k = Sum.inr x ∧ v = Value.str x t)
  | .inl i, v, h => by
    obtain ⟨t, e⟩ := Value.isInt_shape (k := i) (v := v) h
    exact .inl ⟨i, t, rfl, e⟩
  | .inr x, v, h => by
    obtain ⟨t, e⟩ := Value.isStrOf_shape (x := x) (v := v) h
    exact .inr ⟨x, t, rfl, e⟩
theorem keyIs_int (i : Int) (t : Tok) : keyIs (.inl i) (.int i t) = true := by simp [keyIs, Value.isInt]
theorem keyIs_str (x : Str) (t : Tok) : keyIs (.inr x) (.str x t) = true := by simp [keyIs, Value.isStrOf]
theorem key_ll (a b : Int) : decide ((Sum.inl a : Key) = Sum.inl b) = (a == b) := by
  by_cases e : a = b
  · subst e; simp
  · have h : ¬ (Sum.inl a : Key) = Sum.inl b := fun q => e (Sum.inl.inj q)
    rw [decide_eq_false h]
    exact (beq_eq_false_iff_ne.mpr e).symm
theorem key_rr (a b : Str) : decide ((Sum.inr a : Key) = Sum.inr b) = decide (a = b) := by
  by_cases e : a = b
  · subst e; simp
  · have h : ¬ (Sum.inr a : Key) = Sum.inr b := fun q => e (Sum.inr.inj q)
    rw [decide_eq_false h, decide_eq_false e]
theorem key_lr (a : Int) (b : Str) : decide ((Sum.inl a : Key) = Sum.inr b) = false := decide_eq_false (fun q => nomatch q)
theorem key_rl (a : Str) (b : Int) : decide ((Sum.inr a : Key) = Sum.inl b) = false := decide_eq_false (fun q => nomatch q)

def mixKind (prog : Program) (w : World) : PySem.KeyKind prog w Key where
  is := keyIs
  hash := keyH w
  inj := fun v a b ha hb => by
    rcases keyIs_shape ha with ⟨i, t, rfl, rfl⟩ | ⟨x, t, rfl, rfl⟩
    · rcases keyIs_shape hb with ⟨j, u, rfl, e⟩ | ⟨y, u, rfl, e⟩
      · injection e with e1 _; rw [e1]
      · exact nomatch e
    · rcases keyIs_shape hb with ⟨j, u, rfl, e⟩ | ⟨y, u, rfl, e⟩
      · exact nomatch e
      · injection e with e1 _; rw [e1]
  byValue := fun k v h => by
    rcases keyIs_shape h with ⟨i, t, rfl, rfl⟩ | ⟨x, t, rfl, rfl⟩ <;> rfl
  pyHash := fun hv h => by
    rcases keyIs_shape hv with ⟨i, t, rfl, rfl⟩ | ⟨x, t, rfl, rfl⟩
    · exact wpAny_pyHash_int h
    · exact wpAny_pyHash_str h
  eqBool := fun hu hv h => by
    rcases keyIs_shape hu with ⟨i, t, rfl, rfl⟩ | ⟨x, t, rfl, rfl⟩
    · rcases keyIs_shape hv with ⟨j, u, rfl, rfl⟩ | ⟨y, u, rfl, rfl⟩
      · rw [key_ll] at h; exact wpAny_eqBool_int h
      · rw [key_lr] at h; exact SeqAt.EqAt.int_str i t y u _ _ _ _ h
    · rcases keyIs_shape hv with ⟨j, u, rfl, rfl⟩ | ⟨y, u, rfl, rfl⟩
      · rw [key_rl] at h; exact SeqAt.EqAt.str_int x t j u _ _ _ _ h
      · rw [key_rr] at h; exact wpAny_eqBool_str h
  «strs» := fun k x t v h => by
    rcases keyIs_shape h with ⟨i, u, rfl, e⟩ | ⟨y, u, rfl, e⟩
    · exact nomatch e
    · injection e with e1 _
      subst e1
      cases v <;> rfl

theorem mixKind_int (prog : Program) (w : World) (i : Int) (t : Tok) : (mixKind prog w).is (.inl i) (.int i t) = true := keyIs_int i t
theorem mixKind_str (prog : Program) (w : World) (x : Str) (t : Tok) : (mixKind prog w).is (.inr x) (.str x t) = true := keyIs_str x t
end L2

namespace L2
open PySem PySem.Spec PyProof.Rows

/-- a value, without the heap -/
inductive V where
  | non | bl (b : Bool) | int (i : Int) | str (x : Str) | byt (b : Array UInt8) | flt (b : UInt64) | ref (a : Addr) | ty (n : String)
  deriving DecidableEq

def RelV : V → Value → Prop
  | .non, u => u = Value.none
  | .bl b, u => u = Value.bool b
  | .int i, u => ∃ t, u = Value.int i t
  | .str x, u => ∃ t, u = Value.str x t
  | .byt b, u => ∃ t, u = Value.bytes b t
  | .flt b, u => ∃ t, u = Value.float b t
  | .ref a, u => u = Value.ref a
  | .ty n, u => u = Value.type n

abbrev Vals : List V → List Value → Prop := Paired RelV
theorem Vals.length {xs : List V} {us : List Value} (r : Vals xs us) : xs.length = us.length := Paired.length r
theorem Vals.get : ∀ {xs : List V} {us : List Value} {i : Nat} {x : V}, Vals xs us → xs[i]? = some x → ∃ u, us[i]? = some u ∧ RelV x u
  | _, _, _, _, .nil, e => by simp at e
  | _, _, 0, _, .cons r _, e => by simp at e; subst e; exact ⟨_, rfl, r⟩
  | _, _, i + 1, x, .cons _ t, e => by
    obtain ⟨u, h1, h2⟩ := Vals.get (i := i) (x := x) t (by simpa using e)
    exact ⟨u, by simpa using h1, h2⟩
theorem Vals.set {x : V} {u : Value} (r : RelV x u) : ∀ {xs : List V} {us : List Value} (i : Nat), Vals xs us → Vals (xs.set i x) (us.set i u)
  | _, _, _, .nil => .nil
  | _, _, 0, .cons _ t => .cons r t
  | _, _, i + 1, .cons q t => .cons q (Vals.set r i t)
theorem Vals.append : ∀ {xs ys : List V} {us ws : List Value}, Vals xs us → Vals ys ws → Vals (xs ++ ys) (us ++ ws)
  | _, _, _, _, .nil, s => s
  | _, _, _, _, .cons r t, s => .cons r (Vals.append t s)
theorem Vals.take : ∀ {xs : List V} {us : List Value} (n : Nat), Vals xs us → Vals (xs.take n) (us.take n)
  | _, _, 0, _ => .nil
  | _, _, _ + 1, .nil => .nil
  | _, _, n + 1, .cons r t => .cons r (Vals.take n t)
theorem Vals.drop : ∀ {xs : List V} {us : List Value} (n : Nat), Vals xs us → Vals (xs.drop n) (us.drop n)
  | _, _, 0, r => r
  | _, _, _ + 1, .nil => .nil
  | _, _, n + 1, .cons _ t => Vals.drop n t
def RelO : Option V → Option Value → Prop
  | some v, some u => RelV v u
  | none, none => True
  | _, _ => False
def KV {κ : Type} : List (κ × V) → List (κ × Value) → Prop := Paired fun (p : κ × V) (q : κ × Value) => p.1 = q.1 ∧ RelV p.2 q.2

/-- a key of a dict (00_mix): an int or a text -/
def kV : Key → V
  | .inl i => .int i
  | .inr x => .str x

/-- what stands at a tracked address -/
inductive HO where
  /-- a list -/
  | lst (xs : List V)
  /-- a tuple (never changes) -/
  | tup (xs : List V)
  /-- a dict whose keys are ints and texts; one whose keys are tuples of ints and texts (the empty one is both) -/
  | dK (kvs : List (Key × V)) | dT (kvs : List (List Key × V))
  /-- a set of ints: its members, its size -/
  | set (S : Int → Bool) (n : Nat)
  /-- an instance of the class at C, its dict at dx, its attributes -/
  | ins (C dx : Addr) (fs : List (Str × V))
  /-- the dict of the instance at x -/
  | own (x : Addr)
  /-- the dict of an exception -/
  | xd (fs : List (Str × V))
  /-- a bound method, f of x -/
  | met (f x : Addr)
  /-- a range object lo, lo + 1, .. below hi -/
  | rng (lo hi : Int)
  /-- a thing that is known to the object (the script; a dict while a loop walks it): read, never written while it is so -/
  | frz (o : Obj) (u : HO)
  /-- a code object's table -/
  | tbl (ps : Array Value)
  /-- any other thing, by what is true of its one object (a def of one's own: SetO a S n := HO.ext fun h => ..) -/
  | ext (φ : Heap → Prop)

abbrev Hp := Addr → Option HO
def upd (H : Hp) (a : Addr) (o : HO) : Hp := fun b => if b = a then some o else H b
theorem upd_same {H : Hp} {a : Addr} {o : HO} : upd H a o a = some o := by unfold upd; rw [if_pos rfl]
theorem upd_ne {H : Hp} {a b : Addr} {o : HO} (h : b ≠ a) : upd H a o b = H b := by unfold upd; rw [if_neg h]
/-- two objects of different content stand apart -/
theorem ne_of {H : Hp} {a b : Addr} {o u : HO} (h : H a = some o) (h' : H b = some u) (d : o ≠ u) : a ≠ b := by
  intro e; subst e; rw [h] at h'; exact d (Option.some.inj h')
theorem ne_of_none {H : Hp} {a b : Addr} {o : HO} (h : H a = some o) (h' : H b = none) : a ≠ b := by
  intro e; subst e; rw [h] at h'; cases h'

section
variable (P : Program) (w : World)
def ObjOk (H : Hp) (h : Heap) (a : Addr) : HO → Prop
  | .lst xs => xs.length ≤ sizeLine ∧ ∃ (its : List Value) (n : Nat), Vals xs its ∧ h.get? a = some { cls := .type "list", data := .seq its.toArray n }
  | .tup xs => xs.length ≤ sizeLine ∧ ∃ its : List Value, Vals xs its ∧ IsTup h a its.toArray
  | .dK kvs => kvs.length ≤ sizeLine ∧ (a == sysModules) = false ∧ ∃ vs, KV kvs vs ∧ h.DictOf (mixKind P w) a vs
  | .dT kvs => kvs.length ≤ sizeLine ∧ (a == sysModules) = false ∧ ∃ xs : List (List Key × Addr × Value),
      Paired (fun (p : List Key × V) (q : List Key × Addr × Value) => p.1 = q.1 ∧ H q.2.1 = some (.tup (p.1.map kV)) ∧ RelV p.2 q.2.2) kvs xs ∧
      ∃ o es ep, h.get? a = some o ∧ o.ExactDict ∧ o.data = .dict es ep ∧ es.toList = xs.map (entryOfKey (tupleKind (mixKind P w))) ∧ (xs.map (·.1)).Nodup
  | .set S n => h.SetOf (intKind P w) a S n
  | .ins C dx fs => H dx = some (.own a) ∧ fs.length ≤ 1000 ∧ dx ≠ a ∧ h.get? a = some (PySem.W.instObj C dx) ∧
      ∃ mA, h.Ns1 dx mA ∧ (∀ f, RelO (fs.lookup f) (mA f)) ∧ PySem.Within mA (fs.map (·.1))
  | .own _ => ∃ o, h.get? a = some o
  | .xd fs => ∃ mA, h.Ns1 a mA ∧ ∀ f, RelO (fs.lookup f) (mA f)
  | .rng lo hi => ∃ t u v, h.get? a = some { cls := .type "range", data := .fields #[.int lo t, .int hi u, .int 1 v] }
  | .frz o u => h.get? a = some o ∧ ObjOk H h a u
  | .tbl ps => h.get? a = some { cls := .none, data := .fields ps }
  | .met f x => h.get? a = some (PySem.W.methodObj (.ref f) (.ref x))
  | .ext φ => φ h ∧ (∃ o, h.get? a = some o) ∧ ∀ h1 h2 : Heap, φ h1 → (∀ o, h1.get? a = some o → h2.get? a = some o) → φ h2
/-- the abstract heap is held -/
def HOk (H : Hp) (h : Heap) : Prop := ∀ a o, H a = some o → ObjOk P w H h a o
end

section
variable {P : Program} {w : World} {H H' : Hp} {h h' : Heap} {a : Addr} {o : HO}
theorem ObjOk.lt (x : ObjOk P w H h a o) : a < h.objs.size := by
  cases o with
  | lst xs => obtain ⟨_, _, _, _, e⟩ := x; exact Heap.lt_size e
  | tup xs => obtain ⟨_, _, _, p⟩ := x; exact p.lt
  | dK kvs => obtain ⟨_, _, _, _, o, _, _, e, _⟩ := x; exact Heap.lt_size e
  | dT kvs => obtain ⟨_, _, _, _, o, _, _, e, _⟩ := x; exact Heap.lt_size e
  | set S n => obtain ⟨o, _, _, _, e, _⟩ := x; exact Heap.lt_size e
  | ins C dx fs => obtain ⟨_, _, _, e, _⟩ := x; exact Heap.lt_size e
  | own y => obtain ⟨_, e⟩ := x; exact Heap.lt_size e
  | xd fs => obtain ⟨_, ⟨_, _, _, e, _⟩, _⟩ := x; exact Heap.lt_size e
  | rng lo hi => obtain ⟨_, _, _, e⟩ := x; exact Heap.lt_size e
  | frz ob u => obtain ⟨e, _⟩ := x; exact Heap.lt_size e
  | tbl ps => exact Heap.lt_size (show h.get? a = some _ from x)
  | met f y => exact Heap.lt_size (show h.get? a = some _ from x)
  | ext φ => obtain ⟨_, ⟨_, e⟩, _⟩ := x; exact Heap.lt_size e
theorem Paired.mapP {α β : Type} {F G : α → β → Prop} : ∀ {l₁ : List α} {l₂ : List β}, Paired F l₁ l₂ → (∀ a b, F a b → G a b) → Paired G l₁ l₂
  | _, _, .nil, _ => .nil
  | _, _, .cons r t, f => .cons (f _ _ r) (Paired.mapP t f)
/-- what an object's description leans on: its own object, its own dict, the tuples -/
theorem ObjOk.stay (x : ObjOk P w H h a o) (k : ∀ b u, (b = a ∨ H b = some (.own a)) → h.get? b = some u → h'.get? b = some u)
    (ho : ∀ b, H b = some (.own a) → H' b = some (.own a)) (ht : ∀ b xs, H b = some (.tup xs) → H' b = some (.tup xs)) : ObjOk P w H' h' a o := by
  induction o with
  | lst xs => obtain ⟨z, its, n, r, e⟩ := x; exact ⟨z, its, n, r, k _ _ (.inl rfl) e⟩
  | tup xs => obtain ⟨z, its, r, ob, e, c⟩ := x; exact ⟨z, its, r, ob, k _ _ (.inl rfl) e, c⟩
  | dK kvs => obtain ⟨z, y, vs, r, ob, es, ep, e, c⟩ := x; exact ⟨z, y, vs, r, ob, es, ep, k _ _ (.inl rfl) e, c⟩
  | dT kvs =>
    obtain ⟨z, y, xs, r, ob, es, ep, e, c⟩ := x
    exact ⟨z, y, xs, Paired.mapP r fun p q z => ⟨z.1, ht _ _ z.2.1, z.2.2⟩, ob, es, ep, k _ _ (.inl rfl) e, c⟩
  | set S n => obtain ⟨ob, es, ep, t, e, c⟩ := x; exact ⟨ob, es, ep, t, k _ _ (.inl rfl) e, c⟩
  | ins C dx fs =>
    obtain ⟨d, z, ne, e, mA, ⟨od, es, ep, e2, c⟩, r⟩ := x
    exact ⟨ho _ d, z, ne, k _ _ (.inl rfl) e, mA, ⟨od, es, ep, k _ _ (.inr d) e2, c⟩, r⟩
  | own y => obtain ⟨ob, e⟩ := x; exact ⟨ob, k _ _ (.inl rfl) e⟩
  | xd fs => obtain ⟨mA, ⟨od, es, ep, e, c⟩, r⟩ := x; exact ⟨mA, ⟨od, es, ep, k _ _ (.inl rfl) e, c⟩, r⟩
  | rng lo hi => obtain ⟨t, u, v, e⟩ := x; exact ⟨t, u, v, k _ _ (.inl rfl) e⟩
  | frz ob u ih => obtain ⟨e, q⟩ := x; exact ⟨k _ _ (.inl rfl) e, ih q⟩
  | tbl ps =>
    have e : h.get? a = some { cls := .none, data := .fields ps } := x
    show h'.get? a = some { cls := .none, data := .fields ps }
    exact k a _ (.inl rfl) e
  | met f y =>
    have e : h.get? a = some (PySem.W.methodObj (.ref f) (.ref y)) := x
    show h'.get? a = some (PySem.W.methodObj (.ref f) (.ref y))
    exact k a _ (.inl rfl) e
  | ext φ => obtain ⟨p, ⟨o, e⟩, st⟩ := x; exact ⟨st _ _ p fun o q => k _ _ (.inl rfl) q, ⟨o, k _ _ (.inl rfl) e⟩, st⟩
theorem HOk.lt (x : HOk P w H h) (e : H a = some o) : a < h.objs.size := (x a o e).lt
theorem HOk.fresh (x : HOk P w H h) (e : h.objs.size ≤ a) : H a = none := by
  cases q : H a with
  | none => rfl
  | some u => exact absurd (Nat.lt_of_lt_of_le (x.lt q) e) (Nat.lt_irrefl _)
/-- every object of the heap is kept -/
theorem HOk.kept (x : HOk P w H h) (k : ∀ b u, h.get? b = some u → h'.get? b = some u) : HOk P w H h' := fun a o e =>
  (x a o e).stay (fun b u _ q => k b u q) (fun _ q => q) fun _ _ q => q
/-- a new object is laid and tracked -/
theorem HOk.laid (x : HOk P w H h) (k : ∀ b u, h.get? b = some u → h'.get? b = some u) (hp : h.objs.size ≤ a) (new : ObjOk P w (upd H a o) h' a o) : HOk P w (upd H a o) h' := fun b u e => by
  have hn := x.fresh hp
  by_cases hb : b = a
  · subst hb; rw [upd_same] at e; cases e; exact new
  · rw [upd_ne hb] at e
    exact (x b u e).stay (fun c v _ q => k c v q) (fun c q => by rw [upd_ne (ne_of_none q hn)]; exact q) fun c xs q => by rw [upd_ne (ne_of_none q hn)]; exact q
end

/-- what may be read as u: it is u, or a known u -/
def Rd (H : Hp) (a : Addr) (u : HO) : Prop := H a = some u ∨ ∃ o, H a = some (.frz o u)
theorem Rd.of {H : Hp} {a : Addr} {u : HO} (h : H a = some u) : Rd H a u := .inl h
theorem Rd.ok {P : Program} {w : World} {H : Hp} {h : Heap} {a : Addr} {u : HO} (r : Rd H a u) (x : HOk P w H h) : ObjOk P w H h a u := by
  rcases r with r | ⟨o, r⟩
  · exact x a u r
  · obtain ⟨_, q⟩ := x a _ r
    exact q
/-- what may be written -/
def Mut : Option HO → Prop
  | some (.lst _) => True
  | some (.dK _) => True
  | some (.dT _) => True
  | some (.set _ _) => True
  | some (.ins _ _ _) => True
  | some (.ext _) => True
  | _ => False
section
variable {P : Program} {w : World} {H : Hp} {h h' : Heap} {x e : Addr} {o' : HO}
/-- the object at e is changed: x itself, or the dict of the instance x -/
theorem HOk.write (ok : HOk P w H h) (mu : Mut (H x)) (he : e = x ∨ H e = some (.own x)) (k : ∀ b u, b ≠ e → h.get? b = some u → h'.get? b = some u) (heo : ∃ u, h'.get? e = some u)
    (new : ObjOk P w (upd H x o') h' x o') : HOk P w (upd H x o') h' := fun b u q => by
  have nown : ∀ c y, H c = some (.own y) → c ≠ x := fun c y r z => by subst z; rw [r] at mu; exact mu
  have ntup : ∀ c xs, H c = some (.tup xs) → c ≠ x := fun c xs r z => by subst z; rw [r] at mu; exact mu
  by_cases hb : b = x
  · subst hb; rw [upd_same] at q; cases q; exact new
  · rw [upd_ne hb] at q
    by_cases hbe : b = e
    · have q' : H b = some (.own x) := by
        rcases he with z | z
        · exact absurd (hbe.trans z) hb
        · rw [hbe]; exact z
      rw [q] at q'; cases q'
      obtain ⟨v, hv⟩ := heo
      exact ⟨v, by rw [hbe]; exact hv⟩
    · refine (ok b u q).stay (fun c v hc r => k c v ?_ r) (fun c r => by rw [upd_ne (nown c b r)]; exact r) fun c xs r => by rw [upd_ne (ntup c xs r)]; exact r
      rcases hc with rfl | hc
      · exact hbe
      · rintro rfl
        rcases he with z | z
        · exact nown c b hc z
        · rw [hc] at z; cases z; exact hb rfl
end

/-! ### kept unless tracked; of the frames at fs (the callers') the slots may change (an exception that passes writes there); of the records at ex (iterators) nothing is said -/
structure Un (fs ex : List Addr) (H H' : Hp) (h h' : Heap) : Prop where
  keep : ∀ b o, h.get? b = some o → H b = none → b ∉ fs → b ∉ ex → h'.get? b = some o
  slot : ∀ b o, h.get? b = some o → H b = none → b ∈ fs → b ∉ ex → ∃ sl, h'.get? b = some { o with slots := sl }
  free : ∀ b o, h.get? b = some o → H b = none → b ∉ ex → H' b = none
  there : ∀ b o, h.get? b = some o → b ∉ ex → ∃ o', h'.get? b = some o'
  tups : ∀ b xs, H b = some (.tup xs) → H' b = some (.tup xs)
  frzs : ∀ b o u, H b = some (.frz o u) → H' b = some (.frz o u)
  tbls : ∀ b ps, H b = some (.tbl ps) → ∃ more, H' b = some (.tbl (ps ++ more))
section
variable {fs fs' ex ex' : List Addr} {H H1 H2 : Hp} {h h1 h2 h' : Heap} {a x e : Addr} {o : HO}
theorem Un.any (u : Un fs ex H H1 h h1) {b : Addr} {ob : Obj} (q : h.get? b = some ob) (n : H b = none) (hx : b ∉ ex) : ∃ sl, h1.get? b = some { ob with slots := sl } := by
  by_cases hb : b ∈ fs
  · exact u.slot b ob q n hb hx
  · exact ⟨ob.slots, u.keep b ob q n hb hx⟩
theorem Un.trans (a : Un fs ex H H1 h h1) (b : Un fs ex H1 H2 h1 h2) : Un fs ex H H2 h h2 where
  keep := fun c ob q n hc hx => b.keep c ob (a.keep c ob q n hc hx) (a.free c ob q n hx) hc hx
  slot := fun c ob q n hc hx => by
    obtain ⟨sl, e1⟩ := a.slot c ob q n hc hx
    obtain ⟨sl', e2⟩ := b.slot c _ e1 (a.free c ob q n hx) hc hx
    exact ⟨sl', e2⟩
  free := fun c ob q n hx => by
    obtain ⟨o', e1⟩ := a.there c ob q hx
    exact b.free c o' e1 (a.free c ob q n hx) hx
  there := fun c ob q hx => by
    obtain ⟨o', e1⟩ := a.there c ob q hx
    exact b.there c o' e1 hx
  tups := fun c xs q => b.tups c xs (a.tups c xs q)
  frzs := fun c ob xs q => b.frzs c ob xs (a.frzs c ob xs q)
  tbls := fun c ps q => by
    obtain ⟨m1, e1⟩ := a.tbls c ps q
    obtain ⟨m2, e2⟩ := b.tbls c _ e1
    exact ⟨m1 ++ m2, by rw [e2, Array.append_assoc]⟩
theorem Un.kept (k : ∀ b u, h.get? b = some u → h'.get? b = some u) : Un fs ex H H h h' :=
  ⟨fun b ob q _ _ _ => k b ob q, fun b ob q _ _ _ => ⟨ob.slots, k b ob q⟩, fun _ _ _ n _ => n, fun b ob q _ => ⟨ob, k b ob q⟩, fun _ _ q => q, fun _ _ _ q => q, fun _ ps q => ⟨#[], by rw [q]; simp⟩⟩
theorem Un.refl : Un fs ex H H h h := Un.kept fun _ _ q => q
theorem Un.laid (k : ∀ b u, h.get? b = some u → h'.get? b = some u) (hp : h.objs.size ≤ a) (hn : H a = none) : Un fs ex H (upd H a o) h h' where
  keep := fun b u q _ _ _ => k b u q
  slot := fun b u q _ _ _ => ⟨u.slots, k b u q⟩
  free := fun b u q n _ => by rw [upd_ne (Nat.ne_of_lt (Nat.lt_of_lt_of_le (Heap.lt_size q) hp))]; exact n
  there := fun b u q _ => ⟨u, k b u q⟩
  tups := fun b xs q => by rw [upd_ne (ne_of_none q hn)]; exact q
  frzs := fun b u xs q => by rw [upd_ne (ne_of_none q hn)]; exact q
  tbls := fun b ps q => ⟨#[], by rw [upd_ne (ne_of_none q hn), q]; simp⟩
theorem Un.write (mu : Mut (H x)) (he : e = x ∨ H e = some (.own x)) (k : ∀ b u, b ≠ e → h.get? b = some u → h'.get? b = some u) (heo : ∃ u, h'.get? e = some u) : Un fs ex H (upd H x o) h h' := by
  have hx : ∀ b, H b = none → b ≠ x := fun b n z => by subst z; rw [n] at mu; exact mu
  have hb : ∀ b, H b = none → b ≠ e := fun b n z => by
    subst z
    rcases he with r | r
    · exact hx b n r
    · rw [n] at r; cases r
  have hm : ∀ b u, H b = some u → ¬ Mut (some u) → b ≠ x := fun b u q nm z => by subst z; rw [q] at mu; exact nm mu
  refine ⟨fun b u q n _ _ => k b u (hb b n) q, fun b u q n _ _ => ⟨u.slots, k b u (hb b n) q⟩, fun b u q n _ => by rw [upd_ne (hx b n)]; exact n, fun b u q _ => ?_,
    fun b xs q => by rw [upd_ne (hm b _ q fun z => z)]; exact q, fun b u xs q => by rw [upd_ne (hm b _ q fun z => z)]; exact q, fun b ps q => ⟨#[], by rw [upd_ne (hm b _ q fun z => z), q]; simp⟩⟩
  by_cases hbe : b = e
  · subst hbe; exact heo
  · exact ⟨u, k b u hbe q⟩
theorem Un.mono (u : Un fs ex H H1 h h1) (hs : ∀ b ∈ fs, b ∈ fs') (hx : ∀ b ∈ ex, b ∈ ex') : Un fs' ex' H H1 h h1 :=
  ⟨fun b ob q n hb he => u.keep b ob q n (fun z => hb (hs b z)) fun z => he (hx b z), fun _ _ q n _ he => u.any q n fun z => he (hx _ z), fun b ob q n he => u.free b ob q n fun z => he (hx b z), fun b ob q he => u.there b ob q fun z => he (hx b z), u.tups, u.frzs, u.tbls⟩
end

/-! ### the heap without what is tracked -/
def trk (h : Heap) (H : Hp) : List Addr := (List.range h.objs.size).filter fun a => (H a).isSome
def hidT (h : Heap) (H : Hp) : Heap := PySem.W.hideAll h (trk h H)
theorem hidT_size (h : Heap) (H : Hp) : (hidT h H).objs.size = h.objs.size := PySem.W.hideAll_size _ _
theorem hidT_get {h : Heap} {H : Hp} {b : Addr} {o : Obj} (e : h.get? b = some o) (n : H b = none) : (hidT h H).get? b = some o :=
  PySem.W.hideAll_get _ e fun hm => by
    have q : (H b).isSome = true := (List.mem_filter.mp hm).2
    rw [n] at q; simp at q
theorem of_hidT {h : Heap} {H : Hp} {b : Addr} {o : Obj} (e : (hidT h H).get? b = some o) : h.get? b = some o ∧ H b = none := by
  have e' : h.get? b = some o := PySem.W.of_hideAll (trk h H) e
  refine ⟨e', ?_⟩
  cases q : H b with
  | none => rfl
  | some x =>
    have hm : b ∈ trk h H := List.mem_filter.mpr ⟨List.mem_range.mpr (Heap.lt_size e'), by simp [q]⟩
    have z : (hidT h H).get? b = none := PySem.W.hideAll_none (trk h H) hm
    rw [z] at e; cases e

/-! ### OpenK's ledger, filled with every new object but one -/
def allNews (g h : Heap) (L : Addr) : List (Addr × Obj) := (List.range h.objs.size).filterMap fun a => if a = L ∨ (g.get? a).isSome = true then none else (h.get? a).map fun o => (a, o)
def rest (g h : Heap) (L d : Addr) : List (Addr × Obj) := (allNews g h L).filter fun p => decide (p.1 ≠ d)
end L2

namespace L2
open PySem PySem.Spec PyProof.Rows

/-- the module's facts, over the base: the heap at the law's entry without what is tracked there -/
structure Mod (K : PySem.W.Frag) (mg : Str → Option Value) (base : Heap) : Prop where
  kin : K.In base
  glob : base.Ns mainGlobals mg
  blt : ∃ mb, base.Ns builtinsNs mb ∧ ∀ x : Str, x ≠ "__name__" → mb x = bootBuiltins x
  nolimit : base.NoLimit

/-- the context: a def's body (or a comprehension's block) running. base: fixed through the whole law; s₀, H₀: the entry; outer: the frames whose slots others may change (a def's callers); stack: all frames that run;
   ex: iterators that were made ahead of the entry and are walked here (a comprehension's); fn: the names whose cells were made at the entry (a def: all; a comprehension's block: its own); calm: not within an except suite; pn: pins that every state bears; xe: what is wanted of an exception that leaves the code -/
structure Cx where
  prog : Program
  w : World
  K : PySem.W.Frag
  mg : Str → Option Value
  base : Heap
  A : Around
  N : List Str
  s₀ : Shared
  H₀ : Hp
  env : Env
  outer : List Env
  stack : List Env
  ex : List Addr
  fn : Str → Bool
  calm : Bool
  pn : List (Addr × Obj)
  xe : Value → Shared → Prop
/-- the callers' frames -/
def frs (l : List Env) : List Addr := l.filterMap (·.frame)
abbrev Cx.fs (X : Cx) : List Addr := frs X.outer

def Vis (sc : Scope) (x : Str) : Prop := sc.names.lookup x = some .local ∨ sc.names.lookup x = some .cell ∨ sc.names.lookup x = some .free
def Loc (sc : Scope) (x : Str) : Prop := sc.names.lookup x = some .local ∨ sc.names.lookup x = some .cell
def Look (env : Env) (h : Heap) (m : Str → Option Value) (x : Str) (u : Value) : Prop :=
  (env.kindOf x = some .local ∧ m x = some u) ∨ ((env.kindOf x = some .cell ∨ env.kindOf x = some .free) ∧ ∃ c, env.cells.lookup x = some c ∧ h.IsCell c (some u))

structure Cx.Ok (X : Cx) : Prop where
  mod : Mod X.K X.mg X.base
  kind : X.env.scope.kind = .function
  glob : X.env.globals = mainGlobals
  blt : X.env.builtins = builtinsNs
  above : X.s₀.heap.objs.size ≤ X.env.locals
  inj : ∀ x y c, X.env.cells.lookup x = some c → X.env.cells.lookup y = some c → x = y
  has : ∀ x, (X.env.kindOf x = some .cell ∨ X.env.kindOf x = some .free) → ∃ c, X.env.cells.lookup x = some c
  cab : ∀ x c, X.fn x = true → X.env.cells.lookup x = some c → X.s₀.heap.objs.size ≤ c
  hd : X.calm = true → X.A.handled = none
  frames : X.A.frames = some X.stack
  stk : X.stack = X.outer ∨ (X.stack = X.env :: X.outer ∧ X.env.frame = some X.env.locals)
  exf : ∀ b ∈ X.ex, b ≠ X.env.locals ∧ ∀ x c, X.env.cells.lookup x = some c → c ≠ b
  bs : ∀ b o, X.base.get? b = some o → X.s₀.heap.get? b = some o ∧ X.H₀ b = none
  bsz : X.base.objs.size ≤ X.s₀.heap.objs.size
  noex : ∀ b o, X.base.get? b = some o → b ∉ X.ex
  exfs : ∀ b ∈ X.ex, b ∉ X.fs
  funs : X.s₀.heap.FunFrames X.base X.outer
  frf : ∀ b ∈ X.fs, X.H₀ b = none

structure Inv (X : Cx) (pins : List (Addr × Obj)) (σ : List (Option V)) (H : Hp) (s : Shared) : Prop where
  ok : X.Ok
  os : s.os = X.s₀.os
  bare : AllBare s.gens
  base : Un X.fs X.ex X.H₀ H X.s₀.heap s.heap
  loc : ∃ m, s.heap.Ns X.env.locals m ∧ ∀ (i : Nat) (x : Str) (v : V), X.N[i]? = some x → σ[i]? = some (some v) → Vis X.env.scope x → ∃ u, RelV v u ∧ Look X.env s.heap m x u
  cell : ∀ x c, X.env.cells.lookup x = some c → ∃ v, s.heap.IsCell c v
  free : H X.env.locals = none
  freeC : ∀ x c, X.env.cells.lookup x = some c → H c = none
  pin : ∀ p ∈ X.pn ++ pins, s.heap.get? p.1 = some p.2 ∧ H p.1 = none ∧ p.1 ≠ X.env.locals ∧ p.1 ∉ X.fs ∧ ∀ v, p.2.data ≠ .cell v
  hok : HOk X.prog X.w H s.heap
  len : σ.length = X.N.length

section
variable {X : Cx} {pins : List (Addr × Obj)} {σ : List (Option V)} {H H' : Hp} {s : Shared} {h' : Heap}

theorem Cx.Ok.nofr (ok : X.Ok) {b : Addr} {o : Obj} (e : X.base.get? b = some o) : b ∉ X.fs := fun hb => by
  have := (ok.funs.mem hb).1
  rw [e] at this; cases this
theorem Inv.bs (I : Inv X pins σ H s) : ∀ b o, X.base.get? b = some o → s.heap.get? b = some o ∧ H b = none := fun b o e =>
  ⟨I.base.keep b o (I.ok.bs b o e).1 (I.ok.bs b o e).2 (I.ok.nofr e) (I.ok.noex b o e), I.base.free b o (I.ok.bs b o e).1 (I.ok.bs b o e).2 (I.ok.noex b o e)⟩
theorem Inv.bk (I : Inv X pins σ H s) : ∀ b o, X.base.get? b = some o → s.heap.get? b = some o := fun b o e => (I.bs b o e).1
theorem Inv.mod (I : Inv X pins σ H s) : Mod X.K X.mg X.base := I.ok.mod
theorem Inv.kIn (I : Inv X pins σ H s) : X.K.In s.heap := I.ok.mod.kin.keeps I.bk
theorem Inv.nolimit (I : Inv X pins σ H s) : s.heap.NoLimit := I.ok.mod.nolimit.keeps I.bk
theorem Inv.lt (I : Inv X pins σ H s) : X.env.locals < s.heap.objs.size := let ⟨_, hn, _⟩ := I.loc; hn.lt
theorem Inv.sz (I : Inv X pins σ H s) : X.s₀.heap.objs.size ≤ s.heap.objs.size := Nat.le_trans I.ok.above (Nat.le_of_lt I.lt)
theorem Inv.nofs (I : Inv X pins σ H s) {a : Addr} (h : s.heap.objs.size ≤ a) : a ∉ X.fs := fun hb => by
  obtain ⟨_, o, ho, _⟩ := I.ok.funs.mem hb
  exact absurd (Nat.lt_of_lt_of_le (Heap.lt_size ho) (Nat.le_trans I.sz h)) (Nat.lt_irrefl _)
theorem Inv.cne (I : Inv X pins σ H s) : ∀ x c, X.env.cells.lookup x = some c → c ≠ X.env.locals := fun x c e z => by
  obtain ⟨v, o, ho, hd⟩ := I.cell x c e
  obtain ⟨m, ⟨o', es, ep, ho', hd', _⟩, _⟩ := I.loc
  rw [z, ho'] at ho; cases ho; rw [hd'] at hd; cases hd
theorem Inv.funs (I : Inv X pins σ H s) : s.heap.FunFrames X.base X.outer := by
  have all : ∀ (l : List Env), (∀ b ∈ frs l, b ∈ X.fs) → X.s₀.heap.FunFrames X.base l → s.heap.FunFrames X.base l := by
    intro l
    induction l with
    | nil => intro _ _; trivial
    | cons env r ih =>
      intro hs hl
      obtain ⟨hk, ⟨L, o, hf, hn, ho, hd⟩, hr⟩ := hl
      have hL : L ∈ X.fs := hs L (by unfold frs; rw [List.filterMap_cons, hf]; exact List.mem_cons_self)
      obtain ⟨sl, e⟩ := I.base.slot L o ho (I.ok.frf L hL) hL fun z => I.ok.exfs L z hL
      exact ⟨hk, ⟨L, _, hf, hn, e, hd⟩, ih (fun b hb => hs b (by unfold frs; rw [List.filterMap_cons, hf]; exact List.mem_cons_of_mem _ hb)) hr⟩
  exact all X.outer (fun _ hb => hb) I.ok.funs

/-- the frames that run, for a call -/
theorem Inv.stack (I : Inv X pins σ H s) : s.heap.FunFrames X.base X.stack := by
  rcases I.ok.stk with e | ⟨e, hf⟩
  · rw [e]; exact I.funs
  · rw [e]
    obtain ⟨m, hn, _⟩ := I.loc
    refine .cons (by rw [I.ok.kind]; decide) hf hn ?_ I.funs
    exact Heap.get?_none_of_le (Nat.le_trans I.ok.bsz I.ok.above)
theorem Inv.stkSub (I : Inv X pins σ H s) : ∀ b ∈ frs X.stack, b ∈ X.env.locals :: X.fs := fun b hb => by
  rcases I.ok.stk with e | ⟨e, hf⟩
  · rw [e] at hb; exact List.mem_cons_of_mem _ hb
  · rw [e] at hb
    unfold frs at hb
    rw [List.filterMap_cons, hf] at hb
    exact hb
theorem Inv.stkFree (I : Inv X pins σ H s) : ∀ b ∈ frs X.stack, H b = none := fun b hb => by
  rcases List.mem_cons.mp (I.stkSub b hb) with e | hb
  · rw [e]; exact I.free
  · obtain ⟨_, o, ho, _⟩ := I.ok.funs.mem hb
    exact I.base.free b o ho (I.ok.frf b hb) fun z => I.ok.exfs b z hb

/-- THE STEP: the untracked objects but the frame and the records at ch are kept (the callers' frames up to slots), the frame's map is kept, the new abstract heap is held -/
theorem Inv.step {g' : Array GenState} {t' : Nat} {d' : Drawn} {ch : List Addr} (I : Inv X pins σ H s)
    (hch : ∀ b ∈ ch, (b ∈ X.ex ∨ X.s₀.heap.objs.size ≤ b) ∧ b ≠ X.env.locals ∧ (∀ x c, X.env.cells.lookup x = some c → c ≠ b) ∧ ∀ p ∈ X.pn ++ pins, p.1 ≠ b)
    (keep : ∀ b o, b ≠ X.env.locals → b ∉ X.fs → b ∉ ch → s.heap.get? b = some o → H b = none → h'.get? b = some o)
    (slot : ∀ b o, b ≠ X.env.locals → b ∈ X.fs → b ∉ ch → s.heap.get? b = some o → H b = none → ∃ sl, h'.get? b = some { o with slots := sl }) (free : ∀ b o, b ∉ ch → s.heap.get? b = some o → H b = none → H' b = none)
    (there : ∀ b o, b ∉ ch → s.heap.get? b = some o → ∃ o', h'.get? b = some o')
    (tups : ∀ b xs, H b = some (.tup xs) → H' b = some (.tup xs)) (frzs : ∀ b o u, H b = some (.frz o u) → H' b = some (.frz o u)) (tbls : ∀ b ps, H b = some (.tbl ps) → ∃ more, H' b = some (.tbl (ps ++ more)))
    (ns : ∀ m, s.heap.Ns X.env.locals m → h'.Ns X.env.locals m) (hok : HOk X.prog X.w H' h') (hg : AllBare g') :
    Inv X pins σ H' { s with heap := h', gens := g', drawn := d', toks := t' } := by
  have neL : ∀ b o, X.s₀.heap.get? b = some o → b ≠ X.env.locals := fun b o e => Nat.ne_of_lt (Nat.lt_of_lt_of_le (Heap.lt_size e) I.ok.above)
  have neC : ∀ b o, X.s₀.heap.get? b = some o → b ∉ X.ex → b ∉ ch := fun b o e hx hb => by
    rcases (hch b hb).1 with z | z
    · exact hx z
    · exact absurd (Nat.lt_of_lt_of_le (Heap.lt_size e) z) (Nat.lt_irrefl _)
  have cellK : ∀ x c, X.env.cells.lookup x = some c → ∀ v, s.heap.IsCell c v → h'.IsCell c v := fun x c e v ⟨o, ho, hd⟩ => by
    have nch : c ∉ ch := fun z => (hch c z).2.2.1 x c e rfl
    by_cases hc : c ∈ X.fs
    · obtain ⟨sl, q⟩ := slot c o (I.cne x c e) hc nch ho (I.freeC x c e)
      exact ⟨_, q, hd⟩
    · exact ⟨o, keep c o (I.cne x c e) hc nch ho (I.freeC x c e), hd⟩
  refine ⟨I.ok, I.os, hg, ⟨fun b o e n hb hx => ?_, fun b o e n hb hx => ?_, fun b o e n hx => ?_, fun b o e hx => ?_, fun b xs e => tups b xs (I.base.tups b xs e), fun b o xs e => frzs b o xs (I.base.frzs b o xs e), fun b ps e => ?_⟩, ?_, fun x c e => ?_, ?_, fun x c e => ?_, fun p hp => ?_, hok, I.len⟩
  · exact keep b o (neL b o e) hb (neC b o e hx) (I.base.keep b o e n hb hx) (I.base.free b o e n hx)
  · obtain ⟨sl, e1⟩ := I.base.slot b o e n hb hx
    obtain ⟨sl', e2⟩ := slot b _ (neL b o e) hb (neC b o e hx) e1 (I.base.free b o e n hx)
    exact ⟨sl', e2⟩
  · obtain ⟨o', e1⟩ := I.base.there b o e hx
    exact free b o' (neC b o e hx) e1 (I.base.free b o e n hx)
  · obtain ⟨o', e1⟩ := I.base.there b o e hx
    exact there b o' (neC b o e hx) e1
  · obtain ⟨m1, e1⟩ := I.base.tbls b ps e
    obtain ⟨m2, e2⟩ := tbls b _ e1
    exact ⟨m1 ++ m2, by rw [e2, Array.append_assoc]⟩
  · obtain ⟨m, hn, hl⟩ := I.loc
    refine ⟨m, ns m hn, fun i x v e1 e2 e3 => ?_⟩
    obtain ⟨u, r, l⟩ := hl i x v e1 e2 e3
    refine ⟨u, r, ?_⟩
    rcases l with l | ⟨k, c, e, z⟩
    · exact .inl l
    · exact .inr ⟨k, c, e, cellK x c e _ z⟩
  · obtain ⟨v, z⟩ := I.cell x c e
    exact ⟨v, cellK x c e v z⟩
  · obtain ⟨m, ⟨o, _, _, ho, _⟩, _⟩ := I.loc
    exact free _ o (fun z => (hch _ z).2.1 rfl) ho I.free
  · obtain ⟨v, o, ho, hd⟩ := I.cell x c e
    exact free c o (fun z => (hch c z).2.2.1 x c e rfl) ho (I.freeC x c e)
  · obtain ⟨e, n, ne, nf, d⟩ := I.pin p hp
    have nch : p.1 ∉ ch := fun z => (hch p.1 z).2.2.2 p hp rfl
    exact ⟨keep p.1 p.2 ne nf nch e n, free p.1 p.2 nch e n, ne, nf, d⟩
/-- .. where the frame's own object is kept too -/
theorem Inv.un {t' : Nat} (I : Inv X pins σ H s) (u : Un X.fs [] H H' s.heap h') (hok : HOk X.prog X.w H' h') : Inv X pins σ H' { s with heap := h', toks := t' } := by
  obtain ⟨m, ⟨o, es, ep, ho, r⟩, _⟩ := id I.loc
  obtain ⟨sl, hL⟩ := u.any ho I.free (by simp)
  exact I.step (g' := s.gens) (d' := s.drawn) (ch := []) (fun _ z => nomatch z) (fun b o _ hb _ e n => u.keep b o e n hb (by simp)) (fun b o _ hb _ e n => u.slot b o e n hb (by simp)) (fun b o _ e n => u.free b o e n (by simp)) (fun b o _ e => u.there b o e (by simp)) u.tups u.frzs u.tbls (fun m' hm => by
    obtain ⟨o', es', ep', ho', r'⟩ := hm
    rw [ho] at ho'; cases ho'
    exact ⟨_, es', ep', hL, r'⟩) hok I.bare
/-- behind a call (or a comprehension's block): the slots of this frame may have changed too, the records at ch may have turned -/
theorem Inv.call {g' : Array GenState} {t' : Nat} {d' : Drawn} {ch : List Addr} (I : Inv X pins σ H s) (u : Un (frs X.stack) ch H H' s.heap h') (hok : HOk X.prog X.w H' h') (hg : AllBare g')
    (hch : ∀ b ∈ ch, (b ∈ X.ex ∨ X.s₀.heap.objs.size ≤ b) ∧ b ≠ X.env.locals ∧ (∀ x c, X.env.cells.lookup x = some c → c ≠ b) ∧ ∀ p ∈ X.pn ++ pins, p.1 ≠ b) :
    Inv X pins σ H' { s with heap := h', gens := g', drawn := d', toks := t' } := by
  obtain ⟨m, ⟨o, es, ep, ho, r⟩, _⟩ := id I.loc
  obtain ⟨sl, hL⟩ := u.any ho I.free fun z => (hch _ z).2.1 rfl
  exact I.step (ch := ch) hch (fun b o hL hb hc e n => u.keep b o e n (fun z => (List.mem_cons.mp (I.stkSub b z)).elim hL hb) hc) (fun b o _ _ hc e n => u.any e n hc) (fun b o hc e n => u.free b o e n hc) (fun b o hc e => u.there b o e hc) u.tups u.frzs u.tbls (fun m' hm => by
    obtain ⟨o', es', ep', ho', r'⟩ := hm
    rw [ho] at ho'; cases ho'
    exact ⟨_, es', ep', hL, r'⟩) hok hg
/-- an untracked record of ours (an iterator) has turned -/
theorem Inv.turned {t' : Nat} {it : Addr} (I : Inv X pins σ H s) (k : ∀ b o, b ≠ it → s.heap.get? b = some o → h'.get? b = some o) (hn : H it = none) (hL : it ≠ X.env.locals)
    (h1 : it ∈ X.ex ∨ X.s₀.heap.objs.size ≤ it) (h2 : ∀ x c, X.env.cells.lookup x = some c → c ≠ it) (h3 : ∀ p ∈ X.pn ++ pins, p.1 ≠ it) : Inv X pins σ H { s with heap := h', toks := t' } := by
  have nit : ∀ b u, H b = some u → b ≠ it := fun b u e z => by rw [z, hn] at e; cases e
  refine I.step (g' := s.gens) (d' := s.drawn) (ch := [it]) (fun b hb => ?_) (fun b o _ _ hc e _ => k b o (fun z => hc (by simp [z])) e) (fun b o _ _ hc e _ => ⟨o.slots, k b o (fun z => hc (by simp [z])) e⟩) (fun _ _ _ _ n => n)
    (fun b o hc e => ⟨o, k b o (fun z => hc (by simp [z])) e⟩) (fun _ _ e => e) (fun _ _ _ e => e) (fun b ps e => ⟨#[], by rw [e]; simp⟩) (fun m hm => ?_) (fun b u e => ?_) I.bare
  · have e : b = it := by simpa using hb
    subst e
    exact ⟨h1, hL, h2, h3⟩
  · obtain ⟨o, es, ep, ho, r⟩ := hm
    exact ⟨o, es, ep, k _ o (Ne.symm hL) ho, r⟩
  · refine (I.hok b u e).stay (fun c v hc q => k c v ?_ q) (fun _ q => q) fun _ _ q => q
    rcases hc with z | z
    · rw [z]; exact nit b u e
    · exact nit c _ z
theorem Inv.tok (I : Inv X pins σ H s) (t : Nat) : Inv X pins σ H { s with toks := t } := I.un (h' := s.heap) (t' := t) Un.refl I.hok
/-- all objects kept -/
theorem Inv.kept {t' : Nat} (I : Inv X pins σ H s) (k : ∀ b u, s.heap.get? b = some u → h'.get? b = some u) : Inv X pins σ H { s with heap := h', toks := t' } := I.un (Un.kept k) (I.hok.kept k)
/-- a new object laid and tracked -/
theorem Inv.laid {a : Addr} {o : HO} {t' : Nat} (I : Inv X pins σ H s) (k : ∀ b u, s.heap.get? b = some u → h'.get? b = some u) (hp : s.heap.objs.size ≤ a) (new : ObjOk X.prog X.w (upd H a o) h' a o) :
    Inv X pins σ (upd H a o) { s with heap := h', toks := t' } := I.un (Un.laid k hp (I.hok.fresh hp)) (I.hok.laid k hp new)
/-- an object written -/
theorem Inv.write {x e : Addr} {o : HO} {t' : Nat} (I : Inv X pins σ H s) (mu : Mut (H x)) (he : e = x ∨ H e = some (.own x)) (k : ∀ b u, b ≠ e → s.heap.get? b = some u → h'.get? b = some u) (heo : ∃ u, h'.get? e = some u)
    (new : ObjOk X.prog X.w (upd H x o) h' x o) : Inv X pins σ (upd H x o) { s with heap := h', toks := t' } := I.un (Un.write mu he k heo) (I.hok.write mu he k heo new)
/-- forgetting slots, pins -/
theorem Inv.weak {σ' : List (Option V)} (I : Inv X pins σ H s) (hl : σ'.length = σ.length) (w : ∀ (i : Nat) v, σ'[i]? = some (some v) → σ[i]? = some (some v)) : Inv X pins σ' H s :=
  ⟨I.ok, I.os, I.bare, I.base, let ⟨m, hn, hl'⟩ := I.loc; ⟨m, hn, fun i x v e1 e2 e3 => hl' i x v e1 (w i v e2) e3⟩, I.cell, I.free, I.freeC, I.pin, I.hok, hl.trans I.len⟩
theorem Inv.pins_of {pins' : List (Addr × Obj)} (I : Inv X pins σ H s) (h : ∀ p ∈ pins', s.heap.get? p.1 = some p.2 ∧ H p.1 = none ∧ p.1 ≠ X.env.locals ∧ p.1 ∉ X.fs ∧ ∀ v, p.2.data ≠ .cell v) : Inv X pins' σ H s :=
  ⟨I.ok, I.os, I.bare, I.base, I.loc, I.cell, I.free, I.freeC, fun p hp => (List.mem_append.mp hp).elim (fun z => I.pin p (List.mem_append_left _ z)) (h p), I.hok, I.len⟩

theorem nodup_ix {N : List Str} (hN : N.Nodup) {i j : Nat} {x : Str} (a : N[i]? = some x) (b : N[j]? = some x) : i = j := by
  obtain ⟨h1, e1⟩ := List.getElem?_eq_some_iff.mp a
  obtain ⟨h2, e2⟩ := List.getElem?_eq_some_iff.mp b
  exact (List.getElem_inj hN).mp (e1.trans e2.symm)

/-- a name is stored; what changed -/
theorem store_ok2 {M : Model} {A : Around} {E : Value → Shared → Prop} {i : Nat} {x : Str} {v : V} {u : Value} {Q : Unit → Shared → Prop} (I : Inv X pins σ H s) (hN : X.N.Nodup) (hi : X.N[i]? = some x) (hx : Loc X.env.scope x) (r : RelV v u)
    (h : ∀ s', Inv X pins (σ.set i (some v)) H s' → (∃ a, Heap.SameBut a s.heap s'.heap ∧ (a = X.env.locals ∨ X.env.cells.lookup x = some a)) → Q () s') (hf : X.fn x = true ∨ X.env.scope.names.lookup x = some .local := by first | exact .inl rfl | exact .inr rfl | assumption) : wpAny M A (storeName X.env x u) Q E s := by
  obtain ⟨m, hn, hl⟩ := id I.loc
  have hcls : (X.env.scope.kind == .class || (X.env.scope.kind == .module && X.env.locals != X.env.globals)) = false := by rw [I.ok.kind]; rfl
  have hiσ : i < σ.length := by rw [I.len]; exact (List.getElem?_eq_some_iff.mp hi).1
  have cne := I.cne
  have tracked : ∀ {a : Addr} {h' : Heap}, (∃ o, s.heap.get? a = some o ∧ H a = none) → Heap.SameBut a s.heap h' → HOk X.prog X.w H h' := fun {a h'} ha hs b ob e => by
    obtain ⟨_, _, hfree⟩ := ha
    refine (I.hok b ob e).stay (fun c w' hc q => (hs.2 c ?_).trans q) (fun _ q => q) fun _ _ q => q
    rintro rfl
    rcases hc with rfl | hc
    · rw [hfree] at e; cases e
    · rw [hfree] at hc; cases hc
  rcases hx with hk | hk
  · refine wpAny_storeName_local hk hn (fun h' hn' hs => ?_) hcls
    obtain ⟨oL, _, _, hoL, _⟩ := id hn
    refine h _ ⟨I.ok, I.os, I.bare, ⟨fun b o e n hb hx => ?_, fun b o e n hb hx => ?_, I.base.free, fun b o e hx => ?_, I.base.tups, I.base.frzs, I.base.tbls⟩, ⟨_, hn', fun j y v' e1 e2 e3 => ?_⟩, fun y c e => ?_, I.free, I.freeC, fun p hp => ?_, tracked ⟨oL, hoL, I.free⟩ hs, by simpa using I.len⟩ ⟨_, hs, .inl rfl⟩
    · exact (hs.2 b (Nat.ne_of_lt (Nat.lt_of_lt_of_le (Heap.lt_size e) I.ok.above))).trans (I.base.keep b o e n hb hx)
    · obtain ⟨sl, e1⟩ := I.base.slot b o e n hb hx
      exact ⟨sl, (hs.2 b (Nat.ne_of_lt (Nat.lt_of_lt_of_le (Heap.lt_size e) I.ok.above))).trans e1⟩
    · obtain ⟨o', e1⟩ := I.base.there b o e hx
      exact ⟨o', (hs.2 b (Nat.ne_of_lt (Nat.lt_of_lt_of_le (Heap.lt_size e) I.ok.above))).trans e1⟩
    · by_cases hj : j = i
      · subst hj
        rw [hi] at e1; cases e1
        rw [List.getElem?_set_self hiσ] at e2
        cases e2
        exact ⟨u, r, .inl ⟨hk, by simp⟩⟩
      · rw [List.getElem?_set_ne (Ne.symm hj)] at e2
        obtain ⟨u', r', q⟩ := hl j y v' e1 e2 e3
        refine ⟨u', r', ?_⟩
        rcases q with ⟨k, e⟩ | ⟨k, c, e, z⟩
        · refine .inl ⟨k, ?_⟩
          have : y ≠ x := fun e => hj (nodup_ix hN e1 (e ▸ hi))
          simp [this, e]
        · exact .inr ⟨k, c, e, z.sameBut hs (cne y c e)⟩
    · obtain ⟨w', z⟩ := I.cell y c e
      exact ⟨w', z.sameBut hs (cne y c e)⟩
    · obtain ⟨e, n, ne, nf, d⟩ := I.pin p hp
      exact ⟨(hs.2 p.1 ne).trans e, n, ne, nf, d⟩
  · have hfn : X.fn x = true := by
      rcases hf with z | z
      · exact z
      · rw [z] at hk; cases hk
    obtain ⟨c, hc⟩ := I.ok.has x (.inl hk)
    obtain ⟨w', z⟩ := I.cell x c hc
    refine wpAny_storeName_cell I.ok.kind hk hc z (fun h' hc' hs => ?_)
    obtain ⟨oc, hoc, hocd⟩ := id z
    refine h { s with heap := h' } ⟨I.ok, I.os, I.bare, ⟨fun b o e n hb hx => ?_, fun b o e n hb hx => ?_, I.base.free, fun b o e hx => ?_, I.base.tups, I.base.frzs, I.base.tbls⟩, ⟨m, hn.sameBut hs (Ne.symm (cne x c hc)), fun j y v' e1 e2 e3 => ?_⟩, fun y c' e => ?_, I.free, I.freeC, fun p hp => ?_, tracked ⟨oc, hoc, I.freeC x c hc⟩ hs, by simpa using I.len⟩ ⟨c, hs, .inr hc⟩
    · exact (hs.2 b (Nat.ne_of_lt (Nat.lt_of_lt_of_le (Heap.lt_size e) (I.ok.cab x c hfn hc)))).trans (I.base.keep b o e n hb hx)
    · obtain ⟨sl, e1⟩ := I.base.slot b o e n hb hx
      exact ⟨sl, (hs.2 b (Nat.ne_of_lt (Nat.lt_of_lt_of_le (Heap.lt_size e) (I.ok.cab x c hfn hc)))).trans e1⟩
    · obtain ⟨o', e1⟩ := I.base.there b o e hx
      exact ⟨o', (hs.2 b (Nat.ne_of_lt (Nat.lt_of_lt_of_le (Heap.lt_size e) (I.ok.cab x c hfn hc)))).trans e1⟩
    · by_cases hj : j = i
      · subst hj
        rw [hi] at e1; cases e1
        rw [List.getElem?_set_self hiσ] at e2
        cases e2
        exact ⟨u, r, .inr ⟨.inl hk, c, hc, hc'⟩⟩
      · rw [List.getElem?_set_ne (Ne.symm hj)] at e2
        obtain ⟨u', r', q⟩ := hl j y v' e1 e2 e3
        refine ⟨u', r', ?_⟩
        rcases q with q | ⟨k, c', e, z'⟩
        · exact .inl q
        · refine .inr ⟨k, c', e, z'.sameBut hs ?_⟩
          rintro rfl
          exact hj (nodup_ix hN e1 (I.ok.inj _ _ _ e hc ▸ hi))
    · by_cases hcc : c' = c
      · subst hcc; exact ⟨_, hc'⟩
      · obtain ⟨w2, z2⟩ := I.cell y c' e
        exact ⟨w2, z2.sameBut hs hcc⟩
    · obtain ⟨e, n, ne, nf, d⟩ := I.pin p hp
      refine ⟨(hs.2 p.1 ?_).trans e, n, ne, nf, d⟩
      intro q
      rw [q, hoc] at e
      have q' : oc = p.2 := Option.some.inj e
      exact d w' (by rw [← q']; exact hocd)
theorem store_ok {M : Model} {A : Around} {E : Value → Shared → Prop} {i : Nat} {x : Str} {v : V} {u : Value} {Q : Unit → Shared → Prop} (I : Inv X pins σ H s) (hN : X.N.Nodup) (hi : X.N[i]? = some x) (hx : Loc X.env.scope x) (r : RelV v u)
    (h : ∀ s', Inv X pins (σ.set i (some v)) H s' → Q () s') (hf : X.fn x = true ∨ X.env.scope.names.lookup x = some .local := by first | exact .inl rfl | exact .inr rfl | assumption) : wpAny M A (storeName X.env x u) Q E s :=
  store_ok2 I hN hi hx r (fun s' I' _ => h s' I') hf
/-- behind a call or a block, the state as it is -/
theorem Inv.call' {s' : Shared} {ch : List Addr} (I : Inv X pins σ H s) (ho : s'.os = s.os) (u : Un (frs X.stack) ch H H' s.heap s'.heap) (hok : HOk X.prog X.w H' s'.heap) (hg : AllBare s'.gens)
    (hch : ∀ b ∈ ch, (b ∈ X.ex ∨ X.s₀.heap.objs.size ≤ b) ∧ b ≠ X.env.locals ∧ (∀ x c, X.env.cells.lookup x = some c → c ≠ b) ∧ ∀ p ∈ X.pn ++ pins, p.1 ≠ b) : Inv X pins σ H' s' := by
  obtain ⟨h', g', d', t', o'⟩ := s'
  have e : o' = s.os := ho
  subst e
  exact I.call (g' := g') (t' := t') (d' := d') u hok hg hch
end

/-! ### the judgements -/
/-- an exception: its class, its own dict's address (where it has one), the abstract heap behind it -/
abbrev XK := Value → Option Addr → Hp → Prop
abbrev St := List (Option V)
abbrev VK := V → Hp → Prop
/-- an expression's reading; a test's; an argument list's -/
abbrev TE := St → Hp → VK → Prop
abbrev TT := St → Hp → (Bool → Hp → Prop) → Prop
abbrev TA := St → Hp → (List V → Hp → Prop) → Prop
/-- what is wanted behind a statement -/
structure Ends where
  nx : St → Hp → Prop
  rt : VK
  bk : St → Hp → Prop := fun _ _ => False
  ct : St → Hp → Prop := fun _ _ => False
abbrev TS := Ends → St → Hp → Prop

def EP (X : Cx) (pins : List (Addr × Obj)) (σ : St) (Q : VK) (u : Value) (s' : Shared) : Prop := ∃ v H', Inv X pins σ H' s' ∧ RelV v u ∧ Q v H'
def TP (X : Cx) (pins : List (Addr × Obj)) (σ : St) (Q : Bool → Hp → Prop) (b : Bool) (s' : Shared) : Prop := ∃ H', Inv X pins σ H' s' ∧ Q b H'
def AP (X : Cx) (pins : List (Addr × Obj)) (σ : St) (Q : List V → Hp → Prop) (us : List Value) (s' : Shared) : Prop := ∃ vs H', Inv X pins σ H' s' ∧ Vals vs us ∧ Q vs H'
def SP (X : Cx) (pins : List (Addr × Obj)) (D : Ends) (f : Flow) (s' : Shared) : Prop :=
  match f with
  | .next => ∃ σ' H', Inv X pins σ' H' s' ∧ D.nx σ' H'
  | .brk => ∃ σ' H', Inv X pins σ' H' s' ∧ D.bk σ' H'
  | .cont => ∃ σ' H', Inv X pins σ' H' s' ∧ D.ct σ' H'
  | .ret u => ∃ v σ' H', Inv X pins σ' H' s' ∧ RelV v u ∧ D.rt v H'

def PE (X : Cx) (e : Expr) (t : TE) : Prop :=
  ∀ (pins : List (Addr × Obj)) (s : Shared) (σ : St) (H : Hp) (Q : VK), Inv X pins σ H s → t σ H Q → wpAny (model X.prog X.w) X.A (eval e X.env) (EP X pins σ Q) X.xe s
def PT (X : Cx) (e : Expr) (t : TT) : Prop :=
  ∀ (pins : List (Addr × Obj)) (s : Shared) (σ : St) (H : Hp) (Q : Bool → Hp → Prop), Inv X pins σ H s → t σ H Q → wpAny (model X.prog X.w) X.A (isTrue e X.env (eval e X.env)) (TP X pins σ Q) X.xe s
/-- a test whatever its 'whole' is (and, or) -/
def PW (X : Cx) (e : Expr) (t : TT) : Prop :=
  ∀ (whole : Sem Value) (pins : List (Addr × Obj)) (s : Shared) (σ : St) (H : Hp) (Q : Bool → Hp → Prop), Inv X pins σ H s → t σ H Q → wpAny (model X.prog X.w) X.A (isTrue e X.env whole) (TP X pins σ Q) X.xe s
theorem PW.pt {X : Cx} {e : Expr} {t : TT} (h : PW X e t) : PT X e t := h _
/-- an argument list (no star), from the left -/
def PA (X : Cx) (es : List Expr) (t : TA) : Prop :=
  ∀ (pos : Pos) (pins : List (Addr × Obj)) (s : Shared) (σ : St) (H : Hp) (Q : List V → Hp → Prop), Inv X pins σ H s → t σ H Q → wpAny (model X.prog X.w) X.A (spliced (backTo pos (starEach es X.env))) (AP X pins σ Q) X.xe s
def PS (X : Cx) (st : Stmt) (t : TS) : Prop :=
  ∀ (pins : List (Addr × Obj)) (s : Shared) (σ : St) (H : Hp) (D : Ends), Inv X pins σ H s → t D σ H → wpAny (model X.prog X.w) X.A (exec st X.env) (SP X pins D) X.xe s
def PSs (X : Cx) (st : List Stmt) (t : TS) : Prop :=
  ∀ (pins : List (Addr × Obj)) (s : Shared) (σ : St) (H : Hp) (D : Ends), Inv X pins σ H s → t D σ H → wpAny (model X.prog X.w) X.A (execs st X.env) (SP X pins D) X.xe s
/-- weaken the end -/
theorem thn {α : Type} {t : Sem α} {Q Q' : α → Shared → Prop} {M : Model} {A : Around} {E : Value → Shared → Prop} {s : Shared} (h : wpAny M A t Q E s) (hQ : ∀ a s, Q a s → Q' a s) : wpAny M A t Q' E s := wpAny_mono h hQ fun _ _ x => x
end L2

namespace L2
open PySem PySem.Spec PyProof.Rows
section
variable {X : Cx}

/-! ### names and constants -/
def tVar (i : Nat) : TE := fun σ H Q => ∃ v, σ[i]? = some (some v) ∧ Q v H
def tC (v : V) : TE := fun _ H Q => Q v H
theorem pe_var {i : Nat} {x : Str} {pos : Pos} (hN : X.N[i]? = some x) (hv : Vis X.env.scope x) (hd : (x == ("__debug__" : Str)) = false := by decide) (hcd : (x == ("__classdict__" : Str)) = false := by decide) : PE X (.Name x pos) (tVar i) := by
  intro pins s σ H Q I h
  obtain ⟨v, e, h⟩ := h
  obtain ⟨m, hn, hl⟩ := I.loc
  obtain ⟨u, r, l⟩ := hl i x v hN e hv
  have fin : EP X pins σ Q u s := ⟨v, H, I, r, h⟩
  rcases l with ⟨hk, hm⟩ | ⟨hk, c, hc, hcell⟩
  · exact wpAny_Name (wpAny_loadName_local I.ok.kind hk hn hm fin) hd
  · rcases hk with hk | hk
    · exact wpAny_Name (wpAny_loadName_cell I.ok.kind hk hc hcell fin) hd
    · exact wpAny_Name (wpAny_loadName_free I.ok.kind hk hc hcell fin hcd) hd
theorem pe_int {i j pos} : PE X (.Constant (.int i) j pos) (tC (.int i)) := fun _ _ _ H _ I h => wpAny_Constant_int ⟨.int i, H, I.tok _, ⟨_, rfl⟩, h⟩
theorem pe_bl {b j pos} : PE X (.Constant (.bool b) j pos) (tC (.bl b)) := fun _ _ _ H _ I h => Constant_bool ⟨.bl b, H, I, rfl, h⟩
theorem pe_non {j pos} : PE X (.Constant .none j pos) (tC .non) := fun _ _ _ H _ I h => Constant_none ⟨.non, H, I, rfl, h⟩
theorem pe_str {x j pos} : PE X (.Constant (.str x) j pos) (tC (.str x)) := fun _ _ _ H _ I h => Calls.Constant_str ⟨.str x, H, I.tok _, ⟨_, rfl⟩, h⟩

/-- a global name of the def -/
def Gl (X : Cx) (x : Str) : Prop := X.env.kindOf x = some .globalImplicit
theorem ld_glob {E : Value → Shared → Prop} {pins : List (Addr × Obj)} {s : Shared} {σ : St} {H : Hp} {x : Str} {u : Value} {pos : Pos} {Q : Value → Shared → Prop} (I : Inv X pins σ H s) (hg : Gl X x) (hm : X.mg x = some u) (h : Q u s)
    (hd : (x == ("__debug__" : Str)) = false := by decide) : wpAny (model X.prog X.w) X.A (eval (.Name x pos) X.env) Q E s :=
  Calls.Name_function_global I.ok.kind hg (Calls.loadGlobal_global (by rw [I.ok.glob]; exact I.mod.glob.keeps I.bk) hm h) hd
theorem ld_blt {E : Value → Shared → Prop} {pins : List (Addr × Obj)} {s : Shared} {σ : St} {H : Hp} {x : Str} {u : Value} {pos : Pos} {Q : Value → Shared → Prop} (I : Inv X pins σ H s) (hg : Gl X x) (hm : X.mg x = none) (hv : bootBuiltins x = some u) (h : Q u s)
    (hn : x ≠ "__name__" := by decide) (hd : (x == ("__debug__" : Str)) = false := by decide) : wpAny (model X.prog X.w) X.A (eval (.Name x pos) X.env) Q E s := by
  obtain ⟨mb, h1, h2⟩ := I.mod.blt
  exact Calls.Name_function_global I.ok.kind hg (Calls.loadGlobal_builtin (by rw [I.ok.glob]; exact I.mod.glob.keeps I.bk) hm (by rw [I.ok.blt]; exact h1.keeps I.bk) ((h2 x hn).trans hv) h) hd
/-- a module's constant, a class, a function, as a value -/
theorem pe_glob {x : Str} {v : V} {u : Value} {pos : Pos} (hg : Gl X x) (hm : X.mg x = some u) (r : RelV v u) (hd : (x == ("__debug__" : Str)) = false := by decide) : PE X (.Name x pos) (tC v) :=
  fun _ _ _ H _ I h => ld_glob I hg hm ⟨v, H, I, r, h⟩ hd
/-! ### arithmetic -/
variable {a b : Expr} {ta tb : TE} {pos : Pos}
/-! ### comparisons -/
/-- a comparison as a value, as a test -/
def tB (t : TE) : TT := fun σ H Q => t σ H fun x H1 => ∃ c, x = .bl c ∧ Q c H1
/-- an expression whose value is a bool, as a test -/
theorem pt_val {e : Expr} {t : TE} (h : PE X e t) (he : ∀ whole, isTrue e X.env whole = (do let v ← whole; standAt e.pos; holding [v] (truthy v)) := by intro _; rfl) : PT X e (tB t) := by
  intro pins s σ H Q I hw
  refine isTrue_plain (thn (h pins s σ H _ I hw) fun v s1 ⟨x, H1, I1, r1, q1⟩ => ?_) (he _)
  obtain ⟨d, rfl, q⟩ := q1
  cases r1
  exact wpAny_truthy_bool ⟨H1, I1, q⟩

/-! ### and, or, not -/
variable {tA tB' : TT} {rest : List Expr}
def tOr (t u : TT) : TT := fun σ H Q => t σ H fun c H1 => if c = true then Q true H1 else u σ H1 Q
theorem pw_or1 (ha : PT X a tA) : PW X (.BoolOp .Or [a] pos) tA := by
  intro wh pins s σ H Q I h
  refine isTrue_or (thn (ha pins s σ H Q I h) fun c s1 e => ?_)
  cases c with
  | false => exact isTrue_or_nil e
  | true => exact e
theorem pw_or (ha : PT X a tA) (hb : PW X (.BoolOp .Or (b :: rest) pos) tB') : PW X (.BoolOp .Or (a :: b :: rest) pos) (tOr tA tB') := by
  intro wh pins s σ H Q I h
  refine isTrue_or (thn (ha pins s σ H _ I h) fun c s1 ⟨H1, I1, q1⟩ => ?_)
  cases c with
  | true => exact ⟨H1, I1, q1⟩
  | false => exact hb wh pins s1 σ H1 Q I1 q1
/-- a if t else b -/
def tIf (t : TT) (ta tb : TE) : TE := fun σ H Q => t σ H fun c H1 => if c = true then ta σ H1 Q else tb σ H1 Q
theorem pe_ifExp {c : Expr} (hc : PT X c tA) (ha : PE X a ta) (hb : PE X b tb) : PE X (.IfExp c a b pos) (tIf tA ta tb) := by
  intro pins s σ H Q I h
  refine wpAny_IfExp (thn (hc pins s σ H _ I h) fun d s1 ⟨H1, I1, q1⟩ => ?_)
  cases d with
  | true => exact ha pins s1 σ H1 Q I1 q1
  | false => exact hb pins s1 σ H1 Q I1 q1
end
end L2

namespace L2
open PySem PySem.Spec PyProof.Rows

/-! ### a list, a tuple that is read: tracked, frozen, or an object of the module -/
def SqL (K : PySem.W.Frag) (H : Hp) (a : Addr) (xs : List V) : Prop :=
  Rd H a (.lst xs) ∨
    ∃ (o : Obj) (its : Array Value) (n : Nat), K.lookup a = some o ∧ o.cls = .type "list" ∧ o.dict = none ∧ o.data = .seq its n ∧ its.size ≤ sizeLine ∧ Vals xs its.toList
def SqT (K : PySem.W.Frag) (H : Hp) (a : Addr) (xs : List V) : Prop :=
  Rd H a (.tup xs) ∨
    ∃ (o : Obj) (its : Array Value) (n : Nat), K.lookup a = some o ∧ o.cls = .type "tuple" ∧ o.data = .seq its n ∧ its.size ≤ sizeLine ∧ Vals xs its.toList
def absV : Value → Option V
  | .none => some .non
  | .bool b => some (.bl b)
  | .int i _ => some (.int i)
  | .str x _ => some (.str x)
  | .bytes b _ => some (.byt b)
  | .float b _ => some (.flt b)
  | .ref a => some (.ref a)
  | .type n => some (.ty n)
  | _ => none
theorem RelV.abs {x : V} {u : Value} (r : RelV x u) : absV u = some x := by
  cases x with
  | non => cases r; rfl
  | bl _ => cases r; rfl
  | int _ => obtain ⟨t, rfl⟩ := r; rfl
  | str _ => obtain ⟨t, rfl⟩ := r; rfl
  | byt _ => obtain ⟨t, rfl⟩ := r; rfl
  | flt _ => obtain ⟨t, rfl⟩ := r; rfl
  | ref _ => cases r; rfl
  | ty _ => cases r; rfl
theorem RelV.inj {x y : V} {u : Value} (r : RelV x u) (q : RelV y u) : x = y := Option.some.inj (r.abs.symm.trans q.abs)
theorem Vals.inj : ∀ {xs ys : List V} {us : List Value}, Vals xs us → Vals ys us → xs = ys
  | _, _, _, .nil, .nil => rfl
  | _, _, _, .cons r t, .cons r' t' => by rw [r.inj r', Vals.inj t t']
section
variable {X : Cx} {pins : List (Addr × Obj)} {σ : St} {H : Hp} {s : Shared} {a : Addr} {xs ys : List V}
theorem SqL.of {K : PySem.W.Frag} (h : H a = some (.lst xs)) : SqL K H a xs := .inl (.inl h)
theorem SqT.of {K : PySem.W.Frag} (h : H a = some (.tup xs)) : SqT K H a xs := .inl (.inl h)
theorem Inv.list (I : Inv X pins σ H s) (h : SqL X.K H a xs) : ∃ its : List Value, Vals xs its ∧ PlainL s.heap a its.toArray ∧ xs.length ≤ sizeLine := by
  rcases h with h | ⟨o, its, n, hk, hc, hd, hs, hz, r⟩
  · obtain ⟨z, its, n, r, e⟩ := h.ok I.hok
    exact ⟨its, r, ⟨_, n, e, rfl, rfl, rfl⟩, z⟩
  · refine ⟨its.toList, r, ⟨o, n, I.kIn a o hk, hc, hd, by simpa using hs⟩, ?_⟩
    have e := r.length
    simp only [Array.length_toList] at e
    omega
theorem Inv.tuple (I : Inv X pins σ H s) (h : SqT X.K H a xs) : ∃ its : List Value, Vals xs its ∧ IsTup s.heap a its.toArray ∧ xs.length ≤ sizeLine := by
  rcases h with h | ⟨o, its, n, hk, hc, hs, hz, r⟩
  · obtain ⟨z, its, r, p⟩ := h.ok I.hok
    exact ⟨its, r, p, z⟩
  · refine ⟨its.toList, r, ⟨o, I.kIn a o hk, hc, n, by simpa using hs⟩, ?_⟩
    have e := r.length
    simp only [Array.length_toList] at e
    omega
theorem Inv.list_inj (I : Inv X pins σ H s) (h : SqL X.K H a xs) (h' : SqL X.K H a ys) : xs = ys := by
  obtain ⟨its, r, ⟨o, n, e, _, _, d⟩, _⟩ := I.list h
  obtain ⟨its', r', ⟨o', n', e', _, _, d'⟩, _⟩ := I.list h'
  rw [e] at e'; cases e'
  rw [d] at d'
  injection d' with d1 _
  have : its = its' := by simpa using congrArg Array.toList d1
  subst this
  exact r.inj r'
theorem Inv.tuple_inj (I : Inv X pins σ H s) (h : SqT X.K H a xs) (h' : SqT X.K H a ys) : xs = ys := by
  obtain ⟨its, r, ⟨o, e, _, n, d⟩, _⟩ := I.tuple h
  obtain ⟨its', r', ⟨o', e', _, n', d'⟩, _⟩ := I.tuple h'
  rw [e] at e'; cases e'
  rw [d] at d'
  injection d' with d1 _
  have : its = its' := by simpa using congrArg Array.toList d1
  subst this
  exact r.inj r'
end

/-! ### another wish about exceptions -/
abbrev Cx.wish (X : Cx) (E : Value → Shared → Prop) : Cx := { X with xe := E }
/-- no exception leaves -/
abbrev Cx.nox (X : Cx) : Cx := X.wish fun _ _ => False
theorem Cx.Ok.wish {X : Cx} (ok : X.Ok) (E : Value → Shared → Prop) : (X.wish E).Ok :=
  ⟨ok.mod, ok.kind, ok.glob, ok.blt, ok.above, ok.inj, ok.has, ok.cab, ok.hd, ok.frames, ok.stk, ok.exf, ok.bs, ok.bsz, ok.noex, ok.exfs, ok.funs, ok.frf⟩
theorem Cx.Ok.unwish {X : Cx} {E : Value → Shared → Prop} (ok : (X.wish E).Ok) : X.Ok :=
  ⟨ok.mod, ok.kind, ok.glob, ok.blt, ok.above, ok.inj, ok.has, ok.cab, ok.hd, ok.frames, ok.stk, ok.exf, ok.bs, ok.bsz, ok.noex, ok.exfs, ok.funs, ok.frf⟩
section
variable {X : Cx} {pins : List (Addr × Obj)} {σ : St} {H : Hp} {s : Shared} {E : Value → Shared → Prop}
theorem Inv.wish (I : Inv X pins σ H s) (E : Value → Shared → Prop) : Inv (X.wish E) pins σ H s := ⟨I.ok.wish E, I.os, I.bare, I.base, I.loc, I.cell, I.free, I.freeC, I.pin, I.hok, I.len⟩
theorem Inv.unwish (I : Inv (X.wish E) pins σ H s) : Inv X pins σ H s := ⟨I.ok.unwish, I.os, I.bare, I.base, I.loc, I.cell, I.free, I.freeC, I.pin, I.hok, I.len⟩
theorem SP.unwish {D : Ends} {f : Flow} {s' : Shared} (h : SP (X.wish E) pins D f s') : SP X pins D f s' := by
  cases f with
  | next => obtain ⟨σ', H', I, q⟩ := h; exact ⟨σ', H', I.unwish, q⟩
  | brk => obtain ⟨σ', H', I, q⟩ := h; exact ⟨σ', H', I.unwish, q⟩
  | cont => obtain ⟨σ', H', I, q⟩ := h; exact ⟨σ', H', I.unwish, q⟩
  | ret u => obtain ⟨v, σ', H', I, r, q⟩ := h; exact ⟨v, σ', H', I.unwish, r, q⟩
theorem PE.nox {e : Expr} {t : TE} (h : PE X.nox e t) : PE X e t := fun pins s σ H Q I hw =>
  wpAny_mono (h pins s σ H Q (I.wish _) hw) (fun _ _ ⟨v, H', I', r, q⟩ => ⟨v, H', I'.unwish, r, q⟩) fun _ _ z => False.elim z
theorem PT.nox {e : Expr} {t : TT} (h : PT X.nox e t) : PT X e t := fun pins s σ H Q I hw =>
  wpAny_mono (h pins s σ H Q (I.wish _) hw) (fun _ _ ⟨H', I', q⟩ => ⟨H', I'.unwish, q⟩) fun _ _ z => False.elim z
theorem PSs.nox {st : List Stmt} {t : TS} (h : PSs X.nox st t) : PSs X st t := fun pins s σ H D I hw =>
  wpAny_mono (h pins s σ H D (I.wish _) hw) (fun _ _ q => q.unwish) fun _ _ z => False.elim z
end

/-! ### blocks and small statements -/
section
variable {X : Cx} {st : Stmt} {rest : List Stmt} {t u : TS} {e : Expr} {te : TE} {pos : Pos}
def tNext : TS := fun D σ H => D.nx σ H
def tSeq (t u : TS) : TS := fun D σ H => t { D with nx := u D } σ H
theorem pss_nil : PSs X [] tNext := fun _ _ σ H _ I h => wpAny_execs_nil ⟨σ, H, I, h⟩
theorem pss_cons (h1 : PS X st t) (h2 : PSs X rest u) : PSs X (st :: rest) (tSeq t u) := by
  intro pins s σ H D I h
  refine wpAny_execs_cons (thn (h1 pins s σ H { D with nx := u D } I h) fun f s1 q => ?_)
  cases f with
  | next =>
    obtain ⟨σ', H', I', q⟩ := q
    exact h2 pins s1 σ' H' D I' q
  | ret v => exact q
  | brk => exact q
  | cont => exact q
theorem pss_one (h1 : PS X st t) : PSs X [st] t := by
  intro pins s σ H D I h
  refine wpAny_execs_cons (thn (h1 pins s σ H D I h) fun f s1 q => ?_)
  cases f with
  | next => exact wpAny_execs_nil q
  | ret v => exact q
  | brk => exact q
  | cont => exact q
def tBreak : TS := fun D σ H => D.bk σ H
theorem ps_break : PS X (.Break pos) tBreak := fun _ _ σ H _ I h => wpAny_Break ⟨σ, H, I, h⟩
/-- in a def's body nothing is shown -/
theorem Inv.quiet {pins : List (Addr × Obj)} {σ : St} {H : Hp} {s : Shared} (I : Inv X pins σ H s) : interactive X.env = false := by simp [interactive, I.ok.kind]
/-- an expression whose value is dropped -/
def tDrop (te : TE) : TS := fun D σ H => te σ H fun _ H1 => D.nx σ H1
theorem ps_expr (he : PE X e te) (hs : swapsWith e none pos.line X.env = pure false := by rfl) : PS X (.Expr e pos) (tDrop te) := by
  intro pins s σ H D I h
  exact wpAny_Expr_any (thn (he pins s σ H _ I h) fun v s1 ⟨x, H1, I1, r1, q1⟩ => ⟨σ, H1, I1, q1⟩) I.quiet hs
def tRet (te : TE) : TS := fun D σ H => te σ H D.rt
theorem ps_ret (he : PE X e te) : PS X (.Return (some e) pos) (tRet te) := by
  intro pins s σ H D I h
  exact wpAny_Return_some (thn (he pins s σ H _ I h) fun v s1 ⟨x, H1, I1, r1, q1⟩ => ⟨x, σ, H1, I1, r1, q1⟩)
def tIfS (c : TT) (t u : TS) : TS := fun D σ H => c σ H fun b H1 => if b = true then t D σ H1 else u D σ H1
theorem ps_if {c : Expr} {a b : List Stmt} {tc : TT} (hc : PT X c tc) (ha : PSs X a t) (hb : PSs X b u) : PS X (.If c a b pos) (tIfS tc t u) := by
  intro pins s σ H D I h
  refine wpAny_If (thn (hc pins s σ H _ I h) fun d s1 ⟨H1, I1, q1⟩ => ?_)
  cases d with
  | true => exact ha pins s1 σ H1 D I1 q1
  | false => exact hb pins s1 σ H1 D I1 q1
/-- code that the proof never comes to -/
def tNever : TS := fun _ _ _ => False
theorem ps_never : PS X st tNever := fun _ _ _ _ _ _ h => h.elim
end

/-! ### targets -/
abbrev TG := V → St → Hp → (St → Hp → Prop) → Prop
abbrev TGs := List V → St → Hp → (St → Hp → Prop) → Prop
def PG (X : Cx) (target : Expr) (t : TG) : Prop :=
  ∀ (pins : List (Addr × Obj)) (s : Shared) (σ : St) (H : Hp) (v : V) (u : Value) (Q : St → Hp → Prop), Inv X pins σ H s → RelV v u → t v σ H Q →
    wpAny (model X.prog X.w) X.A (assign target X.env u) (fun _ s' => ∃ σ' H', Inv X pins σ' H' s' ∧ Q σ' H') X.xe s
/-- several targets, one after another -/
def PGs (X : Cx) (ts : List Expr) (t : TGs) : Prop :=
  ∀ (pins : List (Addr × Obj)) (s : Shared) (σ : St) (H : Hp) (vs : List V) (us : List Value) (Q : St → Hp → Prop), Inv X pins σ H s → Vals vs us → t vs σ H Q →
    wpAny (model X.prog X.w) X.A (assignInOrder ((assignEach ts X.env).map (·.2)) us) (fun _ s' => ∃ σ' H', Inv X pins σ' H' s' ∧ Q σ' H') X.xe s
/-- o[i] = v, by values -/
abbrev TSet := V → V → V → Hp → (Hp → Prop) → Prop
def PSet (X : Cx) (t : TSet) : Prop :=
  ∀ (pins : List (Addr × Obj)) (s : Shared) (σ : St) (H : Hp) (o i v : V) (ov iv u : Value) (Q : Hp → Prop), Inv X pins σ H s → RelV o ov → RelV i iv → RelV v u → t o i v H Q →
    wpAny (model X.prog X.w) X.A (setItem ov iv u) (fun _ s' => ∃ H', Inv X pins σ H' s' ∧ Q H') X.xe s
/-- a op= b, by values -/
abbrev TIp := V → V → Hp → VK → Prop
def PIp (X : Cx) (op : Operator) (t : TIp) : Prop :=
  ∀ (pins : List (Addr × Obj)) (s : Shared) (σ : St) (H : Hp) (x y : V) (v u : Value) (Q : VK), Inv X pins σ H s → RelV x v → RelV y u → t x y H Q →
    wpAny (model X.prog X.w) X.A (inplaceOp op v u) (EP X pins σ Q) X.xe s
section
variable {X : Cx} {pos : Pos}
def gName (i : Nat) : TG := fun v σ H Q => Q (σ.set i (some v)) H
theorem pg_name {i : Nat} {x : Str} (hN : X.N.Nodup) (hi : X.N[i]? = some x) (hx : Loc X.env.scope x) (hf : X.fn x = true ∨ X.env.scope.names.lookup x = some .local := by first | exact .inl rfl | exact .inr rfl | assumption) : PG X (.Name x pos) (gName i) := by
  intro pins s σ H v u Q I r h
  exact wpAny_assign_Name (store_ok I hN hi hx r (fun s' I' => ⟨_, H, I', h⟩) hf)
def gNil : TGs := fun vs σ H Q => vs = [] ∧ Q σ H
def gCons (t : TG) (u : TGs) : TGs := fun vs σ H Q => ∃ v r, vs = v :: r ∧ t v σ H fun σ' H' => u r σ' H' Q
theorem pgs_nil : PGs X [] gNil := by
  intro pins s σ H vs us Q I r h
  obtain ⟨e, h⟩ := h
  subst e
  cases r
  exact assignInOrder_nil ⟨σ, H, I, h⟩
theorem pgs_cons {e : Expr} {es : List Expr} {t : TG} {u : TGs} (h1 : PG X e t) (h2 : PGs X es u)
    (hs : (assignEach (e :: es) X.env).map (·.2) = assign e X.env :: (assignEach es X.env).map (·.2) := by rfl) : PGs X (e :: es) (gCons t u) := by
  intro pins s σ H vs us Q I r h
  obtain ⟨v, vr, e1, h⟩ := h
  subst e1
  cases r with
  | cons r rr =>
    rw [hs]
    refine assignInOrder_cons (thn (h1 pins s σ H _ _ _ I r h) fun _ s1 ⟨σ1, H1, I1, q1⟩ => ?_)
    exact h2 pins s1 σ1 H1 _ _ Q I1 rr q1
/-- (a, b, ..) = a tuple of that length -/
def gTup (K : PySem.W.Frag) (n : Nat) (t : TGs) : TG := fun v σ H Q => ∃ a xs, v = .ref a ∧ SqT K H a xs ∧ xs.length = n ∧ t xs σ H Q
theorem pg_tup {es : List Expr} {k : Nat} {t : TGs} {n : Nat} (hc : X.calm = true) (h : PGs X es t)
    (hn : (assignEach es X.env).length = n := by rfl) (hst : (assignEach es X.env).findIdx? (·.1) = none := by rfl) : PG X (.Tuple es k pos) (gTup X.K n t) := by
  intro pins s σ H v u Q I r hw
  obtain ⟨a, xs, e1, hq, hl, hw⟩ := hw
  subst e1
  cases r
  obtain ⟨its, rv, ht, hz⟩ := I.tuple hq
  refine assign_Tuple_tuple (I.ok.hd hc) ht (by simp [hn, ← hl, rv.length]) hst fun h' hx => ?_
  have I1 : Inv X pins σ H { s with heap := h' } := I.kept (t' := s.toks) fun b o e => hx b o (Nat.ne_of_lt (Heap.lt_size e)) e
  exact h pins _ σ H xs _ Q I1 (by simpa using rv) hw
/-- o[i] = .. -/
def gSub (to ti : TE) (t : TSet) : TG := fun v σ H Q => to σ H fun o H1 => ti σ H1 fun i H2 => t o i v H2 fun H3 => Q σ H3
theorem pg_sub {o i : Expr} {to ti : TE} {t : TSet} (ho : PE X o to) (hi : PE X i ti) (hs : PSet X t)
    (ha : ∀ v, assign (.Subscript o i pos) X.env v = (do
      let ov ← holding [v] (eval o X.env)
      let iv ← holding [v, ov] (eval i X.env)
      standAt pos
      holding [v, ov, iv] (setItem ov iv v)
      release [v, ov, iv] []) := by intro _; rfl) : PG X (.Subscript o i pos) (gSub to ti t) := by
  intro pins s σ H v u Q I r h
  rw [ha]
  refine wpAny_bind (wpAny_holding (thn (ho pins s σ H _ I h) fun ov s1 ⟨x, H1, I1, r1, q1⟩ => ?_))
  refine wpAny_bind (wpAny_holding (thn (hi pins s1 σ H1 _ I1 q1) fun iv s2 ⟨y, H2, I2, r2, q2⟩ => ?_))
  refine wpAny_bind (wpAny_standAt (wpAny_bind (wpAny_holding (thn (hs pins s2 σ H2 x y v ov iv u _ I2 r1 r2 r q2) fun _ s3 ⟨H3, I3, q3⟩ => ?_))))
  exact wpAny_release ⟨σ, H3, I3, q3⟩
/-- target = value -/
def tAsg (te : TE) (g : TG) : TS := fun D σ H => te σ H fun x H1 => g x σ H1 D.nx
theorem ps_asg {tg e : Expr} {te : TE} {g : TG} (he : PE X e te) (hg : PG X tg g) (hs : swapsWithSole [tg] e pos.line X.env = pure false := by rfl) (hw : swappedStores [tg] e X.env = pure none := by rfl)
    (h1 : (assignEach [tg] X.env).map (·.2) = [assign tg X.env] := by rfl) : PS X (.Assign [tg] e pos) (tAsg te g) := by
  intro pins s σ H D I h
  refine wpAny_Assign_stores (thn (he pins s σ H _ I h) fun v s1 ⟨x, H1, I1, r1, q1⟩ => ?_) hs hw
  rw [h1]
  exact thn (hg pins s1 σ H1 x v _ I1 r1 q1) fun _ s2 q => q
/-- name = value -/
theorem ps_set {i : Nat} {x : Str} {e : Expr} {te : TE} {pos' : Pos} (hN : X.N.Nodup) (hi : X.N[i]? = some x) (hx : Loc X.env.scope x) (he : PE X e te) (hs : swapsWith e (some (.Name x pos')) pos.line X.env = pure false := by rfl) (hf : X.fn x = true ∨ X.env.scope.names.lookup x = some .local := by first | exact .inl rfl | exact .inr rfl | assumption) :
    PS X (.Assign [.Name x pos'] e pos) (tAsg te (gName i)) := by
  intro pins s σ H D I h
  refine wpAny_Assign_Name (thn (he pins s σ H _ I h) fun v s1 ⟨y, H1, I1, r1, q1⟩ => ?_) hs
  exact store_ok I1 hN hi hx r1 (fun s2 I2 => ⟨_, H1, I2, q1⟩) hf
/-- name op= e -/
def tAug (i : Nat) (te : TE) (ti : TIp) : TS := fun D σ H => ∃ x, σ[i]? = some (some x) ∧ te σ H fun y H1 => ti x y H1 fun z H2 => D.nx (σ.set i (some z)) H2
theorem ps_aug {i : Nat} {x : Str} {e : Expr} {te : TE} {op : Operator} {ti : TIp} {pos' : Pos} (hN : X.N.Nodup) (hi : X.N[i]? = some x) (hx : Loc X.env.scope x) (he : PE X e te) (ho : PIp X op ti) (hf : X.fn x = true ∨ X.env.scope.names.lookup x = some .local := by first | exact .inl rfl | exact .inr rfl | assumption) :
    PS X (.AugAssign (.Name x pos') op e pos) (tAug i te ti) := by
  intro pins s σ H D I h
  obtain ⟨v, e1, h⟩ := h
  obtain ⟨m, hn, hl⟩ := I.loc
  have vis : Vis X.env.scope x := by rcases hx with k | k; exact .inl k; exact .inr (.inl k)
  obtain ⟨u, r, l⟩ := hl i x v hi e1 vis
  refine wpAny_AugAssign_Name ?_
  have go : wpAny (model X.prog X.w) X.A (eval e X.env) (fun w s₂ => wpAny (model X.prog X.w) X.A (inplaceOp op u w) (fun r s₃ => wpAny (model X.prog X.w) X.A (storeName X.env x r) (fun _ => SP X pins D .next) X.xe s₃) X.xe s₂) X.xe s := by
    refine thn (he pins s σ H _ I h) fun w s1 ⟨y, H1, I1, r1, q1⟩ => ?_
    refine thn (ho pins s1 σ H1 v y u w _ I1 r r1 q1) fun z s2 ⟨zv, H2, I2, r2, q2⟩ => ?_
    exact store_ok I2 hN hi hx r2 (fun s3 I3 => ⟨_, H2, I3, q2⟩) hf
  rcases l with ⟨hk, hm⟩ | ⟨hk, c, hc, hcell⟩
  · exact wpAny_loadName_local I.ok.kind hk hn hm go
  · rcases hk with hk | hk
    · exact wpAny_loadName_cell I.ok.kind hk hc hcell go
    · rcases hx with k | k
      · have : X.env.scope.names.lookup x = some .free := hk
        rw [k] at this; cases this
      · have : X.env.scope.names.lookup x = some .free := hk
        rw [k] at this; cases this
/-- ints -/
def ipI (f : Int → Int → Int) : TIp := fun x y H Q => ∃ i j, x = .int i ∧ y = .int j ∧ Q (.int (f i j)) H
theorem ip_add : PIp X .Add (ipI fun i j => i + j) := by
  intro pins s σ H x y v u Q I r1 r2 h
  obtain ⟨i, j, e1, e2, q⟩ := h
  subst e1; subst e2
  obtain ⟨t, rfl⟩ := r1
  obtain ⟨t', rfl⟩ := r2
  exact iadd_int ⟨.int _, H, I.tok _, ⟨_, rfl⟩, q⟩
end

/-! ### while -/
section
variable {X : Cx} {pos : Pos}
end

/-! ### what a loop or a comprehension walks -/
/-- at turn i: it yields x (the heap may grow), or it stops -/
structure It where
  go : Nat → Hp → Prop
  yld : Nat → Hp → V → Hp → Prop
  stop : Nat → Hp → Prop
/-- the iterator's own objects may turn: they are not the frame's, not pinned, younger than the entry (or a comprehension's own) -/
def FpOk (X : Cx) (pins : List (Addr × Obj)) (H : Hp) (b : Addr) : Prop :=
  H b = none ∧ b ≠ X.env.locals ∧ b ∉ X.fs ∧ (b ∈ X.ex ∨ X.s₀.heap.objs.size ≤ b) ∧ (∀ x c, X.env.cells.lookup x = some c → c ≠ b) ∧ ∀ p ∈ X.pn ++ pins, p.1 ≠ b
theorem Inv.fpOk {X : Cx} {pins : List (Addr × Obj)} {σ : St} {H H' : Hp} {s : Shared} {b : Addr} (I : Inv X pins σ H s) (hb : s.heap.objs.size ≤ b) (hn : H' b = none) : FpOk X pins H' b := by
  refine ⟨hn, Nat.ne_of_gt (Nat.lt_of_lt_of_le I.lt hb), I.nofs hb, .inr (Nat.le_trans I.sz hb), fun x c e z => ?_, fun p hp z => ?_⟩
  · obtain ⟨v, q⟩ := I.cell x c e
    exact absurd (Nat.lt_of_lt_of_le q.lt (by rw [z]; exact hb)) (Nat.lt_irrefl _)
  · exact absurd (Nat.lt_of_lt_of_le (Heap.lt_size (I.pin p hp).1) (by rw [z]; exact hb)) (Nat.lt_irrefl _)
structure Turn (P : Program) (w : World) (K : PySem.W.Frag) (tg : Expr) (J : It) (fp : List Addr) (it : Addr) (tn : Nat → Heap → Prop) : Prop where
  mem : it ∈ fp
  obj : ∀ i h, tn i h → ∀ b ∈ fp, ∃ o, h.get? b = some o ∧ ∀ v, o.data ≠ .cell v
  keep : ∀ i h h', tn i h → (∀ b ∈ fp, ∀ o, h.get? b = some o → h'.get? b = some o) → tn i h'
  item : ∀ (X : Cx), X.prog = P → X.w = w → X.K = K → X.calm = true → ∀ (i : Nat) (pins : List (Addr × Obj)) (s : Shared) (σ : St) (H : Hp) (E : Value → Shared → Prop), Inv X pins σ H s → (∀ b ∈ fp, FpOk X pins H b) → tn i s.heap → J.go i H →
    wpAny (model P w) X.A (pyNext (.ref it)) (fun r s1 => ∃ u, r = some u ∧
      wpAny (model P w) X.A (letOwnedTupleGo tg (.ref it) u) (fun _ s2 => ∃ x H', Inv X pins σ H' s2 ∧ RelV x u ∧ J.yld i H x H' ∧ tn (i + 1) s2.heap ∧ ∀ b ∈ fp, H' b = none) E s1) E s
  done : ∀ (X : Cx), X.prog = P → X.w = w → X.K = K → X.calm = true → ∀ (i : Nat) (pins : List (Addr × Obj)) (s : Shared) (σ : St) (H : Hp) (E : Value → Shared → Prop), Inv X pins σ H s → (∀ b ∈ fp, FpOk X pins H b) → tn i s.heap → J.stop i H →
    wpAny (model P w) X.A (pyNext (.ref it)) (fun r s1 => r = none ∧ Inv X pins σ H s1) E s
  self : ∀ (A : Around) (i : Nat) (s : Shared) (Q : Value → Shared → Prop) (E : Value → Shared → Prop), tn i s.heap → Q (.ref it) s → wpAny (model P w) A (pyIter (.ref it)) Q E s
abbrev TI := St → Hp → (It → Hp → Prop) → Prop
/-- an iterator has come -/
def PIE (X : Cx) (pins : List (Addr × Obj)) (σ : St) (tg : Expr) (R : It → Hp → Prop) (itv : Value) (s2 : Shared) : Prop :=
  ∃ (it : Addr) (fp : List Addr) (tn : Nat → Heap → Prop) (J : It) (H' : Hp), itv = .ref it ∧ Inv X pins σ H' s2 ∧ Turn X.prog X.w X.K tg J fp it tn ∧ tn 0 s2.heap ∧ (∀ b ∈ fp, FpOk X pins H' b) ∧ R J H'
def PI (X : Cx) (tg iter : Expr) (wi : TI) : Prop :=
  ∀ (pins : List (Addr × Obj)) (s : Shared) (σ : St) (H : Hp) (R : It → Hp → Prop), Inv X pins σ H s → wi σ H R →
    wpAny (model X.prog X.w) X.A (eval iter X.env) (fun v s1 => wpAny (model X.prog X.w) X.A (pyIter v) (PIE X pins σ tg R) X.xe s1) X.xe s

/-- the step ahead of the store is nothing for an iterator that keeps no tuple -/
theorem go_of {M : Model} {A : Around} {E : Value → Shared → Prop} {s : Shared} {tg : Expr} {it : Addr} {u : Value} {o : Obj} {n : String} {vs : Array Value} {Q : Unit → Shared → Prop} (ho : s.heap.get? it = some o) (hc : o.cls = .type n) (hd : o.data = .fields vs)
    (hn : ["enumerate", "zip", "dict_itemiterator", "dict_reverseitemiterator", "odict_iterator", "itertools.zip_longest", "itertools.pairwise"].contains n = false) (hQ : Q () s) : wpAny M A (letOwnedTupleGo tg (.ref it) u) Q E s := by
  unfold letOwnedTupleGo
  cases tg <;> first
    | exact wpAny_pure hQ
    | (cases u <;> first
        | exact wpAny_pure hQ
        | (refine wpAny_bind (wpAny_load ho ?_)
           rw [hc, hd]
           show wpAny M A (if (["enumerate", "zip", "dict_itemiterator", "dict_reverseitemiterator", "odict_iterator", "itertools.zip_longest", "itertools.pairwise"].contains n && vs[0]? == some (rawInt _)) = true then _ else _) Q E s
           rw [if_neg (by intro h; rw [hn, Bool.false_and] at h; cases h)]
           exact wpAny_pure hQ))

/-- the list at a, as it stands at each turn (a loop may append to it) -/
def Itl (K : PySem.W.Frag) (a : Addr) : It :=
  ⟨fun i H => ∃ xs x, SqL K H a xs ∧ xs[i]? = some x, fun i H x H' => H' = H ∧ ∀ xs, SqL K H a xs → xs[i]? = some x, fun i H => ∃ xs, SqL K H a xs ∧ xs.length ≤ i⟩
def Itt (K : PySem.W.Frag) (a : Addr) : It :=
  ⟨fun i H => ∃ xs x, SqT K H a xs ∧ xs[i]? = some x, fun i H x H' => H' = H ∧ ∀ xs, SqT K H a xs → xs[i]? = some x, fun i H => ∃ xs, SqT K H a xs ∧ xs.length ≤ i⟩
/-- lo, lo + 1, .. (n of them) -/
def Itr (lo : Int) (n : Nat) : It := ⟨fun i _ => i < n, fun i H x H' => H' = H ∧ x = .int (lo + i), fun i _ => n ≤ i⟩
theorem turn_list {P : Program} {w : World} {K : PySem.W.Frag} {tg : Expr} (a it : Addr) : Turn P w K tg (Itl K a) [it] it (fun i h => h.IsListIter it a i) where
  mem := by simp
  obj := fun i h st b hb => by
    have e : b = it := by simpa using hb
    subst e
    obtain ⟨o, e, c, d⟩ := st
    exact ⟨o, e, fun v z => by rw [d] at z; cases z⟩
  keep := fun i h h' st k => st.at fun o e => k it (by simp) o e
  item := by
    intro X hP hw hK hc i pins s σ H E I hf st hg
    subst hP hw hK
    obtain ⟨xs, x, hq, hx⟩ := hg
    obtain ⟨its, rv, p, hz⟩ := I.list hq
    obtain ⟨u, hu, ru⟩ := rv.get hx
    obtain ⟨f0, f1, f2, f3, f4, f5⟩ := hf it (by simp)
    refine wpAny_pyNext_list_item st p.isList (x := u) (by simpa using hu) fun h' st' sb => ?_
    have I1 : Inv X pins σ H { s with heap := h' } := I.turned (t' := s.toks) (fun b o hb e => (sb.2 b hb).trans e) f0 f1 f3 f4 f5
    obtain ⟨o, e, c, d⟩ := id st'
    exact ⟨u, rfl, go_of (s := { s with heap := h' }) e c d (by decide) ⟨x, H, I1, ru, ⟨rfl, fun ys hy => by rw [I.list_inj hy hq]; exact hx⟩, st', fun b hb => (hf b hb).1⟩⟩
  done := by
    intro X hP hw hK hc i pins s σ H E I hf st hg
    subst hP hw hK
    obtain ⟨xs, hq, hx⟩ := hg
    obtain ⟨its, rv, p, hz⟩ := I.list hq
    obtain ⟨f0, f1, f2, f3, f4, f5⟩ := hf it (by simp)
    have hl := rv.length
    exact wpAny_pyNext_list_end (I.ok.hd hc) st p.isList (by simp; omega) fun h' eb => ⟨rfl, I.turned (t' := s.toks) (fun b o hb e => eb b o hb e) f0 f1 f3 f4 f5⟩
  self := fun _ _ _ _ _ st h => wpAny_pyIter_listiter st h
theorem turn_tuple {P : Program} {w : World} {K : PySem.W.Frag} {tg : Expr} (a it : Addr) : Turn P w K tg (Itt K a) [it] it (fun i h => h.IsTupleIter it a i) where
  mem := by simp
  obj := fun i h st b hb => by
    have e : b = it := by simpa using hb
    subst e
    obtain ⟨o, e, c, d⟩ := st
    exact ⟨o, e, fun v z => by rw [d] at z; cases z⟩
  keep := fun i h h' st k => st.at fun o e => k it (by simp) o e
  item := by
    intro X hP hw hK hc i pins s σ H E I hf st hg
    subst hP hw hK
    obtain ⟨xs, x, hq, hx⟩ := hg
    obtain ⟨its, rv, p, hz⟩ := I.tuple hq
    obtain ⟨u, hu, ru⟩ := rv.get hx
    obtain ⟨f0, f1, f2, f3, f4, f5⟩ := hf it (by simp)
    refine wpAny_pyNext_tuple_item st (show s.heap.IsTuple a its.toArray from p) (x := u) (by simpa using hu) fun h' st' sb => ?_
    have I1 : Inv X pins σ H { s with heap := h' } := I.turned (t' := s.toks) (fun b o hb e => (sb.2 b hb).trans e) f0 f1 f3 f4 f5
    obtain ⟨o, e, c, d⟩ := id st'
    exact ⟨u, rfl, go_of (s := { s with heap := h' }) e c d (by decide) ⟨x, H, I1, ru, ⟨rfl, fun ys hy => by rw [I.tuple_inj hy hq]; exact hx⟩, st', fun b hb => (hf b hb).1⟩⟩
  done := by
    intro X hP hw hK hc i pins s σ H E I hf st hg
    subst hP hw hK
    obtain ⟨xs, hq, hx⟩ := hg
    obtain ⟨its, rv, p, hz⟩ := I.tuple hq
    obtain ⟨f0, f1, f2, f3, f4, f5⟩ := hf it (by simp)
    have hl := rv.length
    exact wpAny_pyNext_tuple_end (I.ok.hd hc) st (show s.heap.IsTuple a its.toArray from p) (by simp; omega) fun h' eb => ⟨rfl, I.turned (t' := s.toks) (fun b o hb e => eb b o hb e) f0 f1 f3 f4 f5⟩
  self := fun _ _ _ _ _ st h => wpAny_pyIter_tupleiter st h
theorem turn_range {P : Program} {w : World} {K : PySem.W.Frag} {tg : Expr} (it : Addr) (lo : Int) (n : Nat) : Turn P w K tg (Itr lo n) [it] it (fun i h => IsRangeIter h it (lo + (i : Nat) * 1) ((n : Int) - (i : Nat)) 1) where
  mem := by simp
  obj := fun i h st b hb => by
    have e : b = it := by simpa using hb
    subst e
    exact ⟨_, st, fun v z => by
      have z' : Data.fields _ = Data.cell v := z
      cases z'⟩
  keep := fun i h h' st k => k it (by simp) _ st
  item := by
    intro X hP hw hK hc i pins s σ H E I hf st hg
    subst hP hw hK
    obtain ⟨f0, f1, f2, f3, f4, f5⟩ := hf it (by simp)
    have W := Walks.range (prog := X.prog) (w := X.w) (I.ok.hd hc) it lo 1 n
    refine W.item i s _ _ hg st fun v h' tk hv st' kk => ?_
    obtain ⟨t, rfl⟩ := hv
    have I1 : Inv X pins σ H { s with heap := h', toks := tk } := I.turned (fun b o hb e => kk b o (by simpa using hb) e) f0 f1 f3 f4 f5
    refine ⟨_, rfl, go_of (s := { s with heap := h', toks := tk }) (n := "range_iterator") st' rfl rfl (by decide) ⟨.int (lo + i), H, I1, ⟨t, ?_⟩, ⟨rfl, rfl⟩, st', fun b hb => (hf b hb).1⟩⟩
    rw [Int.mul_one]
  done := by
    intro X hP hw hK hc i pins s σ H E I hf st hg
    subst hP hw hK
    obtain ⟨f0, f1, f2, f3, f4, f5⟩ := hf it (by simp)
    exact wpAny_pyNext_range_end (I.ok.hd hc) st (by have : n ≤ i := hg; omega) fun h' eb => ⟨rfl, I.turned (t' := s.toks) (fun b o hb e => eb b o hb e) f0 f1 f3 f4 f5⟩
  self := fun _ _ _ _ _ st h => wpAny_pyIter_rangeiter st h
end L2

namespace L2
open PySem PySem.Spec PyProof.Rows
section
variable {X : Cx} {tg : Expr}
def iList (K : PySem.W.Frag) (tl : TE) : TI := fun σ H R => tl σ H fun x H1 => ∃ a, x = .ref a ∧ (∃ xs, SqL K H1 a xs) ∧ R (Itl K a) H1
def iTup (K : PySem.W.Frag) (tl : TE) : TI := fun σ H R => tl σ H fun x H1 => ∃ a, x = .ref a ∧ (∃ xs, SqT K H1 a xs) ∧ R (Itt K a) H1
theorem pi_list {l : Expr} {tl : TE} (hl : PE X l tl) : PI X tg l (iList X.K tl) := by
  intro pins s σ H R I h
  refine thn (hl pins s σ H _ I h) fun v s1 ⟨x, H1, I1, r1, q1⟩ => ?_
  obtain ⟨a, e, ⟨xs, hq⟩, q⟩ := q1
  subst e
  cases r1
  obtain ⟨its, rv, p, hz⟩ := I1.list hq
  refine wpAny_pyIter_list p.isList ?_
  refine ⟨s1.heap.objs.size, [s1.heap.objs.size], _, _, H1, rfl, I1.kept (t' := s1.toks) fun b o e => Heap.get?_push_of_some _ e, turn_list a _, ⟨_, Heap.get?_push_size _ rfl, rfl, rfl⟩, fun b hb => ?_, q⟩
  have e : b = s1.heap.objs.size := by simpa using hb
  subst e
  exact I1.fpOk (Nat.le_refl _) (I1.hok.fresh (Nat.le_refl _))
theorem pi_tup {l : Expr} {tl : TE} (hl : PE X l tl) : PI X tg l (iTup X.K tl) := by
  intro pins s σ H R I h
  refine thn (hl pins s σ H _ I h) fun v s1 ⟨x, H1, I1, r1, q1⟩ => ?_
  obtain ⟨a, e, ⟨xs, hq⟩, q⟩ := q1
  subst e
  cases r1
  obtain ⟨its, rv, p, hz⟩ := I1.tuple hq
  refine wpAny_pyIter_tuple (show s1.heap.IsTuple a its.toArray from p) ?_
  refine ⟨s1.heap.objs.size, [s1.heap.objs.size], _, _, H1, rfl, I1.kept (t' := s1.toks) fun b o e => Heap.get?_push_of_some _ e, turn_tuple a _, ⟨_, Heap.get?_push_size _ rfl, rfl, rfl⟩, fun b hb => ?_, q⟩
  have e : b = s1.heap.objs.size := by simpa using hb
  subst e
  exact I1.fpOk (Nat.le_refl _) (I1.hok.fresh (Nat.le_refl _))
/-- a range object just made, walked -/
theorem range_it {pins : List (Addr × Obj)} {σ : St} {H : Hp} {s : Shared} {R : It → Hp → Prop} {E : Value → Shared → Prop} {lo hi : Int} {t u v : Tok} {tk : Nat} (I : Inv X pins σ H s) (h1 : -(2 ^ 62) ≤ lo) (h2 : lo < 2 ^ 62) (h3 : -(2 ^ 62) ≤ hi) (h4 : hi < 2 ^ 62)
    (q : R (Itr lo (hi - lo).toNat) H) : wpAny (model X.prog X.w) X.A (pyIter (.ref s.heap.objs.size)) (PIE X pins σ tg R) E { s with heap := s.heap.push { cls := .type "range", data := .fields #[.int lo t, .int hi u, .int 1 v] }, toks := tk } := by
  refine wpAny_pyIter_range (IsRange.new ..) (small_one h1 h2 h3 h4) ?_
  have I1 : Inv X pins σ H { s with heap := s.heap.push { cls := .type "range", data := .fields #[.int lo t, .int hi u, .int 1 v] }, toks := tk } := I.kept fun b o e => Heap.get?_push_of_some _ e
  refine ⟨(s.heap.push { cls := .type "range", data := .fields #[.int lo t, .int hi u, .int 1 v] }).objs.size, [(s.heap.push { cls := .type "range", data := .fields #[.int lo t, .int hi u, .int 1 v] }).objs.size], _, _, H, rfl,
    I1.kept (t' := tk) fun b o e => Heap.get?_push_of_some _ e, turn_range _ lo (hi - lo).toNat, ?_, fun b hb => ?_, q⟩
  · have e1 : lo + ((0 : Nat) : Int) * 1 = lo := by simp
    have e2 : (((hi - lo).toNat : Nat) : Int) - ((0 : Nat) : Int) = Builtin.Range.rangeSize lo hi 1 := by rw [rangeSize_one]; split <;> omega
    show IsRangeIter _ _ (lo + ((0 : Nat) : Int) * 1) ((((hi - lo).toNat : Nat) : Int) - ((0 : Nat) : Int)) 1
    rw [e1, e2]
    exact Heap.get?_push_size _ rfl
  · have e : b = (s.heap.push { cls := .type "range", data := .fields #[.int lo t, .int hi u, .int 1 v] }).objs.size := by simpa using hb
    subst e
    exact I1.fpOk (Nat.le_refl _) (I1.hok.fresh (Nat.le_refl _))
def iRng1 (ta : TA) : TI := fun σ H R => ta σ H fun vs H1 => ∃ j : Int, vs = [.int j] ∧ -(2 ^ 62) ≤ j ∧ j < 2 ^ 62 ∧ R (Itr 0 j.toNat) H1
theorem pi_range1 {a : Expr} {ta : TA} {p pos : Pos} (hg : Gl X "range") (hm : X.mg "range" = none) (ha : PA X [a] ta) (hs : starEach [a] X.env = [(false, eval a X.env)] := by rfl) : PI X tg (.Call (.Name "range" p) [a] [] pos) (iRng1 ta) := by
  intro pins s σ H R I h
  refine Call_ (ld_blt I hg hm boot_range (PyProof.Rows.callWith_type1 (thn (ha pos pins s σ H _ I h) fun us s1 ⟨vs, H1, I1, r1, q1⟩ => ?_) hs rfl))
  obtain ⟨j, e, q1, q2, q⟩ := q1
  subst e
  cases r1 with
  | cons r rr =>
    cases rr
    obtain ⟨t, rfl⟩ := r
    exact call_range_1 (range_it I1 (by omega) (by omega) q1 q2 (by simpa using q))
/-! ### for -/
/-- W: the invariant by the turn and a measure; N: what the body is to reach -/
def tFor (wi : TI) (g : TG) (tb : TS) : TS := fun D σ H => wi σ H fun J H1 => ∃ W : Nat → Nat → St → Hp → Prop, (∃ m, W 0 m σ H1) ∧ ∀ i m σ H, W i m σ H →
  (J.stop i H ∧ D.nx σ H) ∨ (J.go i H ∧ ∃ N : St → Hp → Prop, (∀ σ' H', N σ' H' → ∃ m', m' < m ∧ W (i + 1) m' σ' H') ∧ ∀ x H', J.yld i H x H' → g x σ H' fun σ2 H2 => tb { D with nx := N, ct := N, bk := D.nx } σ2 H2)
/-- the records at fp as they stand -/
def pinsAt (fp : List Addr) (h : Heap) : List (Addr × Obj) := fp.filterMap fun b => (h.get? b).map fun o => (b, o)
theorem mem_pinsAt {fp : List Addr} {h : Heap} {b : Addr} {o : Obj} (hb : b ∈ fp) (e : h.get? b = some o) : (b, o) ∈ pinsAt fp h := List.mem_filterMap.mpr ⟨b, hb, by rw [e]; rfl⟩
theorem of_pinsAt {fp : List Addr} {h : Heap} {p : Addr × Obj} (hp : p ∈ pinsAt fp h) : p.1 ∈ fp ∧ h.get? p.1 = some p.2 := by
  obtain ⟨b, hb, e⟩ := List.mem_filterMap.mp hp
  cases q : h.get? b with
  | none => rw [q] at e; cases e
  | some o =>
    rw [q] at e
    have e' : (b, o) = p := Option.some.inj e
    subst e'
    exact ⟨hb, q⟩
theorem Inv.pinned {pins : List (Addr × Obj)} {σ : St} {H : Hp} {s : Shared} {fp : List Addr} (I : Inv X pins σ H s) (hf : ∀ b ∈ fp, FpOk X pins H b) (ho : ∀ b ∈ fp, ∃ o, s.heap.get? b = some o ∧ ∀ v, o.data ≠ .cell v) : Inv X (pins ++ pinsAt fp s.heap) σ H s :=
  I.pins_of fun p hp => (List.mem_append.mp hp).elim (fun z => I.pin p (List.mem_append_right _ z)) fun z => by
    obtain ⟨hb, e⟩ := of_pinsAt z
    obtain ⟨f0, f1, f2, _⟩ := hf p.1 hb
    obtain ⟨o, e', d⟩ := ho p.1 hb
    rw [e] at e'; cases e'
    exact ⟨e, f0, f1, f2, d⟩
theorem Inv.unpinned {pins pl : List (Addr × Obj)} {σ : St} {H : Hp} {s : Shared} (I : Inv X (pins ++ pl) σ H s) : Inv X pins σ H s := I.pins_of fun p hp => I.pin p (List.mem_append_right _ (List.mem_append_left _ hp))
theorem ps_for {iter : Expr} {body : List Stmt} {wi : TI} {g : TG} {tb : TS} {pos : Pos} (hp : PassesOwn (model X.prog X.w) X.A X.env X.xe) (hc : X.calm = true) (hi : PI X tg iter wi) (hg : PG X tg g) (hb : PSs X body tb)
    (hs : ∀ x, foldedSetIterable iter X.env x = pure x := by intro _; rfl) : PS X (.For tg iter body [] pos) (tFor wi g tb) := by
  intro pins s σ H D I h
  refine wpAny_For (thn (hi pins s σ H _ I h) fun v s1 h1 => thn h1 fun itv s2 h2 => ?_) hs
  obtain ⟨it, fp, tn, J, H2, e, I2, T, st2, f2, W, ⟨m0, w0⟩, turn⟩ := h2
  subst e
  -- what stays true of the iterator's objects through the loop
  have stat : ∀ {H' : Hp}, (∀ b ∈ fp, H' b = none) → ∀ b ∈ fp, FpOk X pins H' b := fun hn b hb => ⟨hn b hb, (f2 b hb).2⟩
  refine codeAny_forLoop_any (fun n s' => ∃ i σ' H', Inv X pins σ' H' s' ∧ tn i s'.heap ∧ (∀ b ∈ fp, H' b = none) ∧ W i n σ' H') ?_ m0 ⟨0, σ, H2, I2, st2, fun b hb => (f2 b hb).1, w0⟩
  rintro n s3 ⟨i, σ3, H3, I3, st3, fr3, w3⟩
  rcases turn i n σ3 H3 w3 with ⟨stop, qn⟩ | ⟨go, N, hN, step⟩
  · refine wpAny_passesOwn hp (thn (T.done X rfl rfl rfl hc i pins s3 σ3 H3 X.xe I3 (stat fr3) st3 stop) fun r s4 ⟨hr, I4⟩ => ?_)
    subst hr
    exact wpAny_execs_nil ⟨σ3, H3, I4, qn⟩
  · refine wpAny_passesOwn hp (thn (T.item X rfl rfl rfl hc i pins s3 σ3 H3 X.xe I3 (stat fr3) st3 go) fun r s4 ⟨u, hr, h4⟩ => ?_)
    subst hr
    refine wpAny_passesOwn hp (thn h4 fun _ s5 ⟨x, H5, I5, r5, y5, st5, fr5⟩ => ?_)
    have I5' := I5.pinned (stat fr5) (T.obj _ _ st5)
    refine wpAny_passesOwn hp (thn (hg _ s5 σ3 H5 x u _ I5' r5 (step x H5 y5)) fun _ s6 ⟨σ6, H6, I6, q6⟩ => ?_)
    refine wpAny_passesOwn hp (thn (hb _ s6 σ6 H6 _ I6 q6) fun f s7 q7 => ?_)
    have again : ∀ {σ7 : St} {H7 : Hp}, Inv X (pins ++ pinsAt fp s5.heap) σ7 H7 s7 → N σ7 H7 → ∃ m, m < n ∧ ∃ i σ' H', Inv X pins σ' H' s7 ∧ tn i s7.heap ∧ (∀ b ∈ fp, H' b = none) ∧ W i m σ' H' := fun {σ7 H7} I7 n7 => by
      obtain ⟨m', hm, w7⟩ := hN σ7 H7 n7
      refine ⟨m', hm, i + 1, σ7, H7, I7.unpinned, T.keep _ _ _ st5 fun b hb o e => (I7.pin (b, o) (List.mem_append_right _ (List.mem_append_right _ (mem_pinsAt hb e)))).1, fun b hb => ?_, w7⟩
      obtain ⟨o, e, d⟩ := T.obj _ _ st5 b hb
      exact (I7.pin (b, o) (List.mem_append_right _ (List.mem_append_right _ (mem_pinsAt hb e)))).2.1
    cases f with
    | next => obtain ⟨σ7, H7, I7, n7⟩ := q7; exact again I7 n7
    | cont => obtain ⟨σ7, H7, I7, n7⟩ := q7; exact again I7 n7
    | brk => obtain ⟨σ7, H7, I7, q7⟩ := q7; exact ⟨σ7, H7, I7.unpinned, q7⟩
    | ret v => obtain ⟨x7, σ7, H7, I7, r7, q7⟩ := q7; exact ⟨x7, σ7, H7, I7.unpinned, r7, q7⟩
end

/-! ### the forms one uses -/
/-- over a list that the body leaves as it is -/
theorem for_list {K : PySem.W.Frag} {a : Addr} {xs : List V} {g : TG} {tb : TS} {D : Ends} {σ : St} {H : Hp} (Pv : Nat → St → Hp → Prop) (h0 : Pv 0 σ H) (hl : ∀ i σ H, i ≤ xs.length → Pv i σ H → SqL K H a xs)
    (hs : ∀ i x σ H, xs[i]? = some x → Pv i σ H → g x σ H fun σ2 H2 => tb { D with nx := Pv (i + 1), ct := Pv (i + 1), bk := D.nx } σ2 H2) (hd : ∀ σ H, Pv xs.length σ H → D.nx σ H) :
    ∃ W : Nat → Nat → St → Hp → Prop, (∃ m, W 0 m σ H) ∧ ∀ i m σ H, W i m σ H →
      ((Itl K a).stop i H ∧ D.nx σ H) ∨ ((Itl K a).go i H ∧ ∃ N : St → Hp → Prop, (∀ σ' H', N σ' H' → ∃ m', m' < m ∧ W (i + 1) m' σ' H') ∧ ∀ x H', (Itl K a).yld i H x H' → g x σ H' fun σ2 H2 => tb { D with nx := N, ct := N, bk := D.nx } σ2 H2) := by
  refine ⟨fun i m σ H => m = xs.length - i ∧ i ≤ xs.length ∧ Pv i σ H, ⟨xs.length, by simp, Nat.zero_le _, h0⟩, ?_⟩
  rintro i m σ H ⟨rfl, hi, p⟩
  have q := hl i σ H hi p
  by_cases hlt : i < xs.length
  · refine .inr ⟨⟨xs, xs[i], q, by simp [hlt]⟩, Pv (i + 1), fun σ' H' p' => ⟨xs.length - (i + 1), by omega, rfl, hlt, p'⟩, fun x H' y => ?_⟩
    obtain ⟨e, y⟩ := y
    subst e
    exact hs i x σ _ (y xs q) p
  · have e : i = xs.length := by omega
    subst e
    exact .inl ⟨⟨xs, q, Nat.le_refl _⟩, hd σ H p⟩
theorem for_tup {K : PySem.W.Frag} {a : Addr} {xs : List V} {g : TG} {tb : TS} {D : Ends} {σ : St} {H : Hp} (Pv : Nat → St → Hp → Prop) (h0 : Pv 0 σ H) (hl : ∀ i σ H, i ≤ xs.length → Pv i σ H → SqT K H a xs)
    (hs : ∀ i x σ H, xs[i]? = some x → Pv i σ H → g x σ H fun σ2 H2 => tb { D with nx := Pv (i + 1), ct := Pv (i + 1), bk := D.nx } σ2 H2) (hd : ∀ σ H, Pv xs.length σ H → D.nx σ H) :
    ∃ W : Nat → Nat → St → Hp → Prop, (∃ m, W 0 m σ H) ∧ ∀ i m σ H, W i m σ H →
      ((Itt K a).stop i H ∧ D.nx σ H) ∨ ((Itt K a).go i H ∧ ∃ N : St → Hp → Prop, (∀ σ' H', N σ' H' → ∃ m', m' < m ∧ W (i + 1) m' σ' H') ∧ ∀ x H', (Itt K a).yld i H x H' → g x σ H' fun σ2 H2 => tb { D with nx := N, ct := N, bk := D.nx } σ2 H2) := by
  refine ⟨fun i m σ H => m = xs.length - i ∧ i ≤ xs.length ∧ Pv i σ H, ⟨xs.length, by simp, Nat.zero_le _, h0⟩, ?_⟩
  rintro i m σ H ⟨rfl, hi, p⟩
  have q := hl i σ H hi p
  by_cases hlt : i < xs.length
  · refine .inr ⟨⟨xs, xs[i], q, by simp [hlt]⟩, Pv (i + 1), fun σ' H' p' => ⟨xs.length - (i + 1), by omega, rfl, hlt, p'⟩, fun x H' y => ?_⟩
    obtain ⟨e, y⟩ := y
    subst e
    exact hs i x σ _ (y xs q) p
  · have e : i = xs.length := by omega
    subst e
    exact .inl ⟨⟨xs, q, Nat.le_refl _⟩, hd σ H p⟩
theorem for_range {lo : Int} {n : Nat} {g : TG} {tb : TS} {D : Ends} {σ : St} {H : Hp} (Pv : Nat → St → Hp → Prop) (h0 : Pv 0 σ H)
    (hs : ∀ i σ H, i < n → Pv i σ H → g (.int (lo + i)) σ H fun σ2 H2 => tb { D with nx := Pv (i + 1), ct := Pv (i + 1), bk := D.nx } σ2 H2) (hd : ∀ σ H, Pv n σ H → D.nx σ H) :
    ∃ W : Nat → Nat → St → Hp → Prop, (∃ m, W 0 m σ H) ∧ ∀ i m σ H, W i m σ H →
      ((Itr lo n).stop i H ∧ D.nx σ H) ∨ ((Itr lo n).go i H ∧ ∃ N : St → Hp → Prop, (∀ σ' H', N σ' H' → ∃ m', m' < m ∧ W (i + 1) m' σ' H') ∧ ∀ x H', (Itr lo n).yld i H x H' → g x σ H' fun σ2 H2 => tb { D with nx := N, ct := N, bk := D.nx } σ2 H2) := by
  refine ⟨fun i m σ H => m = n - i ∧ i ≤ n ∧ Pv i σ H, ⟨n, by simp, Nat.zero_le _, h0⟩, ?_⟩
  rintro i m σ H ⟨rfl, hi, p⟩
  by_cases hlt : i < n
  · refine .inr ⟨hlt, Pv (i + 1), fun σ' H' p' => ⟨n - (i + 1), by omega, rfl, hlt, p'⟩, fun x H' y => ?_⟩
    obtain ⟨e, y⟩ := y
    subst e y
    exact hs i σ _ hlt p
  · have e : i = n := by omega
    subst e
    exact .inl ⟨Nat.le_refl _, hd σ H p⟩
end L2

namespace L2
open PySem PySem.Spec PyProof.Rows

abbrev R2 := V → V → Hp → VK → Prop
/-- a two-place operation on values: f is binaryOp op, inplaceOp op or compareOp op -/
def OpR (X : Cx) (f : Value → Value → Sem Value) (r : R2) : Prop :=
  ∀ (pins : List (Addr × Obj)) (s : Shared) (σ : St) (H : Hp) (x y : V) (v u : Value) (Q : VK), Inv X pins σ H s → RelV x v → RelV y u → r x y H Q →
    wpAny (model X.prog X.w) X.A (f v u) (EP X pins σ Q) X.xe s
/-- a call of a value that is known (a builtin, a type) with values -/
def CallR (X : Cx) (f : Value) (r : List V → Hp → VK → Prop) : Prop :=
  ∀ (pins : List (Addr × Obj)) (s : Shared) (σ : St) (H : Hp) (xs : List V) (us : List Value) (Q : VK), Inv X pins σ H s → Vals xs us → r xs H Q →
    wpAny (model X.prog X.w) X.A (call f us) (EP X pins σ Q) X.xe s
def tOp (r : R2) (ta tb : TE) : TE := fun σ H Q => ta σ H fun x H1 => tb σ H1 fun y H2 => r x y H2 Q
/-- ints in, under C, and a value out -/
def rI (C : Int → Int → Prop) (g : Int → Int → V) : R2 := fun x y H Q => ∃ i j, x = .int i ∧ y = .int j ∧ C i j ∧ Q (g i j) H
def rI0 (g : Int → Int → V) : R2 := fun x y H Q => ∃ i j, x = .int i ∧ y = .int j ∧ Q (g i j) H
section
variable {X : Cx} {a b c : Expr} {ta tb tc : TE} {pos : Pos}

theorem binT (ha : PE X a ta) (hb : PE X b tb) {pins : List (Addr × Obj)} {s : Shared} {σ : St} {H : Hp} {R : V → V → Hp → Prop} (I : Inv X pins σ H s)
    (h : ta σ H fun x H1 => tb σ H1 fun y H2 => R x y H2) {Q : Value → Shared → Prop} {f : Value → Value → Sem Value}
    (hf : ∀ v u s2 x y H2, Inv X pins σ H2 s2 → RelV x v → RelV y u → R x y H2 → wpAny (model X.prog X.w) X.A (f v u) Q X.xe s2) :
    wpAny (model X.prog X.w) X.A (eval a X.env) (fun v s₁ => wpAny (model X.prog X.w) X.A (eval b X.env) (fun u s₂ => wpAny (model X.prog X.w) X.A (f v u) Q X.xe s₂) X.xe s₁) X.xe s := by
  refine thn (ha pins s σ H _ I h) fun v s1 ⟨x, H1, I1, r1, q1⟩ => ?_
  refine thn (hb pins s1 σ H1 _ I1 q1) fun u s2 ⟨y, H2, I2, r2, q2⟩ => ?_
  exact hf v u s2 x y H2 I2 r1 r2 q2

theorem pe_op {op : Operator} {r : R2} (ho : OpR X (binaryOp op) r) (ha : PE X a ta) (hb : PE X b tb) : PE X (.BinOp a op b pos) (tOp r ta tb) := by
  intro pins s σ H Q I h
  exact wpAny_BinOp (binT ha hb I h fun v u s2 x y H2 I2 rx ry q => ho pins s2 σ H2 x y v u Q I2 rx ry q)
/-! ### ints -/
theorem opI {f : Value → Value → Sem Value} {C : Int → Int → Prop} {g : Int → Int → Int}
    (rule : ∀ (i j : Int) (t u : Tok) (s : Shared) (Q : Value → Shared → Prop) (E : Value → Shared → Prop), C i j → Q (.int (g i j) s.toks) { s with toks := s.toks + 1 } → wpAny (model X.prog X.w) X.A (f (.int i t) (.int j u)) Q E s) :
    OpR X f (rI C fun i j => .int (g i j)) := by
  intro pins s σ H x y v u Q I rx ry h
  obtain ⟨i, j, rfl, rfl, hc, q⟩ := h
  obtain ⟨t, rfl⟩ := rx
  obtain ⟨t', rfl⟩ := ry
  exact rule i j t t' s _ _ hc ⟨.int (g i j), H, I.tok _, ⟨_, rfl⟩, q⟩
theorem opI0 {f : Value → Value → Sem Value} {g : Int → Int → Int}
    (rule : ∀ (i j : Int) (t u : Tok) (s : Shared) (Q : Value → Shared → Prop) (E : Value → Shared → Prop), Q (.int (g i j) s.toks) { s with toks := s.toks + 1 } → wpAny (model X.prog X.w) X.A (f (.int i t) (.int j u)) Q E s) :
    OpR X f (rI0 fun i j => .int (g i j)) := by
  intro pins s σ H x y v u Q I rx ry h
  obtain ⟨i, j, rfl, rfl, q⟩ := h
  obtain ⟨t, rfl⟩ := rx
  obtain ⟨t', rfl⟩ := ry
  exact rule i j t t' s _ _ ⟨.int (g i j), H, I.tok _, ⟨_, rfl⟩, q⟩
theorem opB0 {f : Value → Value → Sem Value} {g : Int → Int → Bool}
    (rule : ∀ (i j : Int) (t u : Tok) (s : Shared) (Q : Value → Shared → Prop) (E : Value → Shared → Prop), Q (.bool (g i j)) s → wpAny (model X.prog X.w) X.A (f (.int i t) (.int j u)) Q E s) :
    OpR X f (rI0 fun i j => .bl (g i j)) := by
  intro pins s σ H x y v u Q I rx ry h
  obtain ⟨i, j, rfl, rfl, q⟩ := h
  obtain ⟨t, rfl⟩ := rx
  obtain ⟨t', rfl⟩ := ry
  exact rule i j t t' s _ _ ⟨.bl (g i j), H, I, rfl, q⟩

def CDiv (i j : Int) : Prop := 0 < j ∧ j < 1073741824
def CPow (i j : Int) : Prop := 0 ≤ j ∧ j ≤ 1000000 ∧ i.natAbs < 2 ^ 64
def CMul (i j : Int) : Prop := (-(2 ^ 64) < i ∧ i < 2 ^ 64) ∨ (-(2 ^ 64) < j ∧ j < 2 ^ 64)
theorem CMul.ok {i j : Int} (h : CMul i j) : IntMulOk i j := by
  rcases h with ⟨h1, h2⟩ | ⟨h1, h2⟩
  · exact .of_left (intBits_le_64 h1 h2)
  · exact .of_right (intBits_le_64 h1 h2)
theorem op_add : OpR X (binaryOp .Add) (rI0 fun i j => .int (i + j)) := opI0 fun _ _ _ _ _ _ _ q => add_int q
theorem op_sub : OpR X (binaryOp .Sub) (rI0 fun i j => .int (i - j)) := opI0 fun _ _ _ _ _ _ _ q => sub_int q
theorem op_mul : OpR X (binaryOp .Mult) (rI CMul fun i j => .int (i * j)) := opI fun _ _ _ _ _ _ _ hc q => mul_int q hc.ok
/-- // by a positive divisor -/
theorem op_fdiv : OpR X (binaryOp .FloorDiv) (rI CDiv fun i j => .int (i / j)) := opI fun i j _ _ _ _ _ hc q => by
  have h1 : (0 : Int) < j := hc.1
  have h2 : j < 1073741824 := hc.2
  exact floordiv_int (by omega) (by rw [Int.fdiv_eq_ediv_of_nonneg i (by omega)]; exact q) (.inl (PyProof.noPylong_small (by omega)))
/-- % by a positive divisor of any size -/
theorem op_mod : OpR X (binaryOp .Mod) (rI (fun _ j => 0 < j) fun i j => .int (i % j)) := opI fun i j _ _ _ _ _ hc q => by
  have h1 : (0 : Int) < j := hc
  exact mod_int' (by omega) (by rw [Int.fmod_eq_emod_of_nonneg i (by omega)]; exact q)
theorem op_pow : OpR X (binaryOp .Pow) (rI CPow fun i j => .int (i ^ j.toNat)) := opI fun _ _ _ _ _ _ _ hc q => pow_int_small hc.1 hc.2.1 hc.2.2 q
/-! ### bools among ints: n += (a < b) -/
end

/-! ### comparisons -/
/-- the scalars that == tells apart as data does -/
def scal : V → V → Bool
  | .non, .non => true | .non, .int _ => true | .int _, .non => true | .non, .bl _ => true | .bl _, .non => true | .non, .str _ => true | .str _, .non => true
  | .int _, .int _ => true | .bl _, .bl _ => true | .str _, .str _ => true | .byt _, .byt _ => true
  | .int _, .str _ => true | .str _, .int _ => true | .bl _, .str _ => true | .str _, .bl _ => true
  | _, _ => false
def rEq : R2 := fun x y H Q => scal x y = true ∧ Q (.bl (decide (x = y))) H
def rNe : R2 := fun x y H Q => scal x y = true ∧ Q (.bl (!decide (x = y))) H

theorem dec_int {i j : Int} : decide (V.int i = V.int j) = (i == j) := by
  rw [Bool.eq_iff_iff]
  simp
theorem dec_bl {i j : Bool} : decide (V.bl i = V.bl j) = (i == j) := by
  rw [Bool.eq_iff_iff]
  simp
theorem dec_str {i j : Str} : decide (V.str i = V.str j) = (i == j) := by
  rw [Bool.eq_iff_iff]
  simp
theorem dec_byt {i j : Array UInt8} : decide (V.byt i = V.byt j) = (i.toList == j.toList) := by
  rw [Bool.eq_iff_iff]
  cases i
  cases j
  simp

section
variable {X : Cx} {a b c : Expr} {ta tb tc : TE} {pos : Pos}
theorem fin_bl {pins : List (Addr × Obj)} {σ : St} {H : Hp} {s : Shared} {Q : VK} {k k' : Bool} (I : Inv X pins σ H s) (q : Q (.bl k) H) (e : k = k') : EP X pins σ Q (.bool k') s := by
  subst e
  exact ⟨.bl k, H, I, rfl, q⟩
theorem op_eq : OpR X (compareOp .Eq) rEq := by
  intro pins s σ H x y v u Q I rx ry h
  obtain ⟨hs, q⟩ := h
  cases x with
  | non =>
    cases rx
    cases y with
    | non => cases ry; exact PySem.EqNone.eq_none_none (fin_bl I q (by simp))
    | bl j => cases ry; exact PySem.EqNone.eq_none_bool (fin_bl I q (by simp))
    | int j => obtain ⟨t', rfl⟩ := ry; exact PySem.EqNone.eq_none_int (fin_bl I q (by simp))
    | str j => obtain ⟨t', rfl⟩ := ry; exact PySem.EqNone.eq_none_str (fin_bl I q (by simp))
    | _ => exact absurd (show false = true from hs) Bool.false_ne_true
  | bl i =>
    cases rx
    cases y with
    | non => cases ry; exact PySem.EqNone.eq_bool_none (fin_bl I q (by simp))
    | bl j => cases ry; exact eq_bool (fin_bl I q dec_bl)
    | str j => obtain ⟨t', rfl⟩ := ry; exact PySem.EqMixed.eq_bool_str (fin_bl I q (by simp))
    | _ => exact absurd (show false = true from hs) Bool.false_ne_true
  | int i =>
    obtain ⟨t, rfl⟩ := rx
    cases y with
    | non => cases ry; exact PySem.EqNone.eq_int_none (fin_bl I q (by simp))
    | int j => obtain ⟨t', rfl⟩ := ry; exact eq_int (fin_bl I q dec_int)
    | str j => obtain ⟨t', rfl⟩ := ry; exact PySem.EqMixed.eq_int_str (fin_bl I q (by simp))
    | _ => exact absurd (show false = true from hs) Bool.false_ne_true
  | str i =>
    obtain ⟨t, rfl⟩ := rx
    cases y with
    | non => cases ry; exact PySem.EqNone.eq_str_none (fin_bl I q (by simp))
    | bl j => cases ry; exact PySem.EqMixed.eq_str_bool (fin_bl I q (by simp))
    | int j => obtain ⟨t', rfl⟩ := ry; exact PySem.EqMixed.eq_str_int (fin_bl I q (by simp))
    | str j => obtain ⟨t', rfl⟩ := ry; exact eq_str (fin_bl I q dec_str)
    | _ => exact absurd (show false = true from hs) Bool.false_ne_true
  | byt i =>
    obtain ⟨t, rfl⟩ := rx
    cases y with
    | byt j => obtain ⟨t', rfl⟩ := ry; exact PySem.W.eq_bytes (fin_bl I q dec_byt)
    | _ => exact absurd (show false = true from hs) Bool.false_ne_true
  | _ => cases y <;> exact absurd (show false = true from hs) Bool.false_ne_true
theorem op_ne : OpR X (compareOp .NotEq) rNe := by
  intro pins s σ H x y v u Q I rx ry h
  obtain ⟨hs, q⟩ := h
  cases x with
  | non =>
    cases rx
    cases y with
    | non => cases ry; exact PySem.EqNone.ne_none_none (fin_bl I q (by simp))
    | bl j => cases ry; exact PySem.EqNone.ne_none_bool (fin_bl I q (by simp))
    | int j => obtain ⟨t', rfl⟩ := ry; exact PySem.EqNone.ne_none_int (fin_bl I q (by simp))
    | str j => obtain ⟨t', rfl⟩ := ry; exact PySem.EqNone.ne_none_str (fin_bl I q (by simp))
    | _ => exact absurd (show false = true from hs) Bool.false_ne_true
  | bl i =>
    cases rx
    cases y with
    | non => cases ry; exact PySem.EqNone.ne_bool_none (fin_bl I q (by simp))
    | bl j => cases ry; exact ne_bool (fin_bl I q (congrArg not dec_bl))
    | str j => obtain ⟨t', rfl⟩ := ry; exact PySem.EqMixed.ne_bool_str (fin_bl I q (by simp))
    | _ => exact absurd (show false = true from hs) Bool.false_ne_true
  | int i =>
    obtain ⟨t, rfl⟩ := rx
    cases y with
    | non => cases ry; exact PySem.EqNone.ne_int_none (fin_bl I q (by simp))
    | int j => obtain ⟨t', rfl⟩ := ry; exact ne_int (fin_bl I q (congrArg not dec_int))
    | str j => obtain ⟨t', rfl⟩ := ry; exact PySem.EqMixed.ne_int_str (fin_bl I q (by simp))
    | _ => exact absurd (show false = true from hs) Bool.false_ne_true
  | str i =>
    obtain ⟨t, rfl⟩ := rx
    cases y with
    | non => cases ry; exact PySem.EqNone.ne_str_none (fin_bl I q (by simp))
    | bl j => cases ry; exact PySem.EqMixed.ne_str_bool (fin_bl I q (by simp))
    | int j => obtain ⟨t', rfl⟩ := ry; exact PySem.EqMixed.ne_str_int (fin_bl I q (by simp))
    | str j => obtain ⟨t', rfl⟩ := ry; exact ne_str (fin_bl I q (congrArg not dec_str))
    | _ => exact absurd (show false = true from hs) Bool.false_ne_true
  | byt i =>
    obtain ⟨t, rfl⟩ := rx
    cases y with
    | byt j => obtain ⟨t', rfl⟩ := ry; exact PySem.W.ne_bytes (fin_bl I q (congrArg not dec_byt))
    | _ => exact absurd (show false = true from hs) Bool.false_ne_true
  | _ => cases y <;> exact absurd (show false = true from hs) Bool.false_ne_true

theorem op_lt : OpR X (compareOp .Lt) (rI0 fun i j => .bl (decide (i < j))) := opB0 fun _ _ _ _ _ _ _ q => lt_int q
theorem op_gt : OpR X (compareOp .Gt) (rI0 fun i j => .bl (decide (j < i))) := opB0 fun _ _ _ _ _ _ _ q => gt_int q
theorem op_ge : OpR X (compareOp .GtE) (rI0 fun i j => .bl (decide (j ≤ i))) := opB0 fun _ _ _ _ _ _ _ q => ge_int q
/-- the one string within the other -/
theorem op_in_str : OpR X (compareOp .In) (fun x y H Q => ∃ i j, x = .str i ∧ y = .str j ∧ Q (.bl (!(Builtin.Str.occurrences j i 0 j.length 1).isEmpty)) H) := by
  intro pins s σ H x y v u Q I rx ry h
  obtain ⟨i, j, rfl, rfl, q⟩ := h
  obtain ⟨t, rfl⟩ := rx
  obtain ⟨t', rfl⟩ := ry
  exact in_str (fin_bl I q rfl)

/-- is None, is not None: the right side a value none -/
theorem op_isN : OpR X (compareOp .Is) (fun x y H Q => y = .non ∧ Q (.bl (decide (x = .non))) H) := by
  intro pins s σ H x y v u Q I rx ry h
  obtain ⟨rfl, q⟩ := h
  cases ry
  refine is_none_gen (fin_bl I q ?_)
  cases x <;> first
    | (cases rx; rfl)
    | (obtain ⟨t, rfl⟩ := rx; rfl)
theorem op_notN : OpR X (compareOp .IsNot) (fun x y H Q => y = .non ∧ Q (.bl (!decide (x = .non))) H) := by
  intro pins s σ H x y v u Q I rx ry h
  obtain ⟨rfl, q⟩ := h
  cases ry
  refine isnot_none_gen (fin_bl I q ?_)
  cases x <;> first
    | (cases rx; rfl)
    | (obtain ⟨t, rfl⟩ := rx; rfl)

/-- two rules for one operation: by cases -/
theorem OpR.or {f : Value → Value → Sem Value} {r r' : R2} (h : OpR X f r) (h' : OpR X f r') : OpR X f (fun x y H Q => r x y H Q ∨ r' x y H Q) := by
  intro pins s σ H x y v u Q I rx ry q
  rcases q with q | q
  · exact h pins s σ H x y v u Q I rx ry q
  · exact h' pins s σ H x y v u Q I rx ry q

theorem nomark (b : Expr) {op : CmpOp} (h : op ≠ .In := by decide) (h2 : op ≠ .NotIn := by decide) : behindInMarks op b = false := by
  have e1 : (op == CmpOp.In) = false := by cases op <;> first | rfl | exact absurd rfl h
  have e2 : (op == CmpOp.NotIn) = false := by cases op <;> first | rfl | exact absurd rfl h2
  cases b <;> simp [behindInMarks, e1, e2]
/-- a comparison as a value; hm: nomark b, or (for in, not in) by with_unfolding_all rfl -/
theorem pe_cmpR {op : CmpOp} {r : R2} (ho : OpR X (compareOp op) r) (ha : PE X a ta) (hb : PE X b tb) (hm : behindInMarks op b = false) : PE X (.Compare a [op] [b] pos) (tOp r ta tb) := by
  intro pins s σ H Q I h
  exact wpAny_Compare1 (binT ha hb I h fun v u s2 x y H2 I2 rx ry q => ho pins s2 σ H2 x y v u Q I2 rx ry q) hm
/-- a reading of a value as a test -/
def tTest (t : TE) : TT := fun σ H Q => t σ H fun x H' => ∃ k, x = .bl k ∧ Q k H'
theorem pt_cmpR {op : CmpOp} {r : R2} (ho : OpR X (compareOp op) r) (ha : PE X a ta) (hb : PE X b tb) (hm : behindInMarks op b = false) : PT X (.Compare a [op] [b] pos) (tTest (tOp r ta tb)) := by
  intro pins s σ H Q I h
  refine wpAny_isTrue_Compare1 (thn (ha pins s σ H _ I h) fun v s1 ⟨x, H1, I1, r1, q1⟩ => thn (hb pins s1 σ H1 _ I1 q1) fun u s2 ⟨y, H2, I2, r2, q2⟩ =>
    thn (ho pins s2 σ H2 x y v u _ I2 r1 r2 q2) fun c s3 ⟨z, H3, I3, r3, k, e, q3⟩ => ?_) hm
  subst e
  cases r3
  exact wpAny_truthy_bool ⟨H3, I3, q3⟩
/-! ### truth -/
theorem line63 : (sizeLine : Nat) < 2 ^ 63 := by rw [sizeLine_eq]; decide
/-! ### strs and bytes -/
theorem op_add_str : OpR X (binaryOp .Add) (fun x y H Q => ∃ i j, x = .str i ∧ y = .str j ∧ i.length + j.length ≤ sizeLine ∧ Q (.str (i ++ j)) H) := by
  intro pins s σ H x y v u Q I rx ry h
  obtain ⟨i, j, rfl, rfl, hz, q⟩ := h
  obtain ⟨t, rfl⟩ := rx
  obtain ⟨t', rfl⟩ := ry
  exact add_str (fun t' tk => ⟨.str (i ++ j), H, I.tok _, ⟨_, rfl⟩, q⟩) hz
/-! ### scalar builtins, by CallR -/
theorem vals1 {x : V} {us : List Value} (r : Vals [x] us) : ∃ u, us = [u] ∧ RelV x u := by
  cases r with
  | cons r1 r2 => cases r2; exact ⟨_, rfl, r1⟩
theorem vals2 {x y : V} {us : List Value} (r : Vals [x, y] us) : ∃ u w', us = [u, w'] ∧ RelV x u ∧ RelV y w' := by
  cases r with
  | cons r1 r2 =>
    cases r2 with
    | cons r3 r4 => cases r4; exact ⟨_, _, rfl, r1, r3⟩
theorem call_min2 (hc : X.calm = true) : CallR X (.builtin "min") (fun xs H Q => ∃ i j, xs = [.int i, .int j] ∧ Q (.int (if j < i then j else i)) H) := by
  intro pins s σ H xs us Q I r h
  obtain ⟨i, j, rfl, q⟩ := h
  obtain ⟨u, w', rfl, ⟨t, rfl⟩, ⟨t', rfl⟩⟩ := vals2 r
  refine min_two_ints (I.ok.hd hc) fun h' tk k => ⟨_, H, I.kept k, ?_, q⟩
  by_cases hj : j < i
  · rw [if_pos hj, if_pos hj]; exact ⟨_, rfl⟩
  · rw [if_neg hj, if_neg hj]; exact ⟨_, rfl⟩
theorem call_int1 : CallR X (.type "int") (fun xs H Q => (∃ i, xs = [.int i] ∧ Q (.int i) H) ∨ ∃ k, xs = [.bl k] ∧ Q (.int (if k then 1 else 0)) H) := by
  intro pins s σ H xs us Q I r h
  rcases h with ⟨i, rfl, q⟩ | ⟨k, rfl, q⟩
  · obtain ⟨u, rfl, t, rfl⟩ := vals1 r
    exact call_int_int ⟨.int i, H, I, ⟨_, rfl⟩, q⟩
  · obtain ⟨u, rfl, r1⟩ := vals1 r
    cases r1
    exact call_int_bool ⟨.int (if k then 1 else 0), H, I.tok _, ⟨_, rfl⟩, q⟩
theorem call_str_int : CallR X (.type "str") (fun xs H Q => ∃ i, xs = [.int i] ∧ i.natAbs.log2 < 1920 ∧ Q (.str (toString i)) H) := by
  intro pins s σ H xs us Q I r h
  obtain ⟨i, rfl, hz, q⟩ := h
  obtain ⟨u, rfl, t, rfl⟩ := vals1 r
  exact PySem.P.str_of_int hz ⟨.str _, H, I.tok _, ⟨_, rfl⟩, q⟩
end
end L2

namespace L2
open PySem PySem.Spec PyProof.Rows

/-! ### an instance, its attributes a map -/
structure ObjM (h : Heap) (x dx C : Addr) (mA : Str → Option Value) : Prop where
  obj : h.get? x = some (PySem.W.instObj C dx)
  ns : h.Ns1 dx mA
  ne : dx ≠ x

section
variable {prog : Program} {w : World} {A : Around} {E : Value → Shared → Prop} {s : Shared} {K : PySem.W.Frag} {x dx C f : Addr} {mA : Str → Option Value} {name : Str} {v : Value}

end

/-! ### the attributes as a list of pairs -/
theorem RelO.some_of {v : V} {o : Option Value} (r : RelO (some v) o) : ∃ u, o = some u ∧ RelV v u := by
  cases o with
  | none => exact (show False from r).elim
  | some u => exact ⟨u, rfl, r⟩
section
variable {P : Program} {w : World} {H H' : Hp} {h h' : Heap} {a C dx : Addr} {fs fs' : List (Str × V)}
end

/-! ### what of the text a class must have -/
structure Cls (K : PySem.W.Frag) (C : Addr) : Prop where
  pg : PySem.W.plainGet K C Str.empty = true
  hd : PySem.W.hasDictIn K C = true
  po : PySem.W.plainOver K C = true
  sa : PySem.W.findIn K (.ref C) "__setattr__" = some (some (.builtin "object.__setattr__"))
theorem Cls.get {K : PySem.W.Frag} {C : Addr} (c : Cls K C) (f : Str) : PySem.W.plainGet K C f = true := c.pg
/-- a constant of the class -/
structure Con (K : PySem.W.Frag) (C : Addr) (f : Str) (v : V) (u : Value) : Prop where
  at_ : PySem.W.findIn K (.ref C) f = some (some u)
  rel : RelV v u
  get : PySem.W.specialIn K u "__get__" = some none
  cp : PySem.W.copiedNames.contains f = false
/-- a method: a plain def of the class or of one above it -/
structure Meth (K : PySem.W.Frag) (C : Addr) (m : Str) (f : Addr) : Prop where
  at_ : PySem.W.findIn K (.ref C) m = some (some (.ref f))
  fn : PySem.W.isFn K (.ref f) = true
  kp : PySem.W.keepIn K (.ref f) = true

section
variable {X : Cx} {pins : List (Addr × Obj)} {σ : St} {H : Hp} {s : Shared} {a C dx : Addr} {fs : List (Str × V)} {f : Str} {v : V} {A : Around} {E : Value → Shared → Prop}

/-- a new instance, tracked, without attributes -/
theorem Inv.made (I : Inv X pins σ H s) : Inv X pins σ (upd (upd H s.heap.objs.size (.own (s.heap.objs.size + 1))) (s.heap.objs.size + 1) (.ins C s.heap.objs.size []))
    { s with heap := (s.heap.push PySem.W.emptyDict).push (PySem.W.instObj C s.heap.objs.size) } := by
  have e1 : (s.heap.push PySem.W.emptyDict).get? s.heap.objs.size = some PySem.W.emptyDict := Heap.get?_push_size s.heap rfl
  have e2 : ((s.heap.push PySem.W.emptyDict).push (PySem.W.instObj C s.heap.objs.size)).get? (s.heap.objs.size + 1) = some (PySem.W.instObj C s.heap.objs.size) := by
    have := Heap.get?_push_size (s.heap.push PySem.W.emptyDict) (o := PySem.W.instObj C s.heap.objs.size) rfl
    rwa [Heap.size_push] at this
  have e3 : (s.heap.push PySem.W.emptyDict).Ns s.heap.objs.size (fun _ => none) := ⟨PySem.W.emptyDict, #[], _, e1, rfl, (fun e he => absurd he (by simp)), fun _ => rfl⟩
  have I1 := I.laid (a := s.heap.objs.size) (o := .own (s.heap.objs.size + 1)) (h' := s.heap.push PySem.W.emptyDict) (t' := s.toks) (fun b u q => Heap.get?_push_of_some _ q) (Nat.le_refl _) ⟨_, e1⟩
  refine I1.laid (a := s.heap.objs.size + 1) (o := .ins C s.heap.objs.size []) (t' := s.toks) (fun b u q => Heap.get?_push_of_some _ q) (Nat.le_of_eq (Heap.size_push _ _)) ?_
  have ne : s.heap.objs.size ≠ s.heap.objs.size + 1 := Nat.ne_of_lt (Nat.lt_succ_self _)
  refine ⟨by rw [upd_ne ne, upd_same], Nat.zero_le _, ne, e2, fun _ => none, (Heap.Ns1.of_empty e3).at fun o q => Heap.get?_push_of_some _ q, fun _ => True.intro, fun y hy => absurd rfl hy⟩

end

/-! ### readings and rules -/
section
variable {X : Cx} {o e value : Expr} {f : Str} {pos pos' tpos : Pos} {ta tv : TE}
end

/-! ### isinstance -/
section
variable {X : Cx} {pins : List (Addr × Obj)} {σ : St} {H : Hp} {s : Shared} {A : Around} {E : Value → Shared → Prop} {Q : Value → Shared → Prop} {c : Value} {b : Bool}
/-- the type of a value, as the fragment's deciders take it; for an instance its class -/
inductive TyOf (K : PySem.W.Frag) (H : Hp) : V → Value → Prop where
  | non : TyOf K H .non (.type "NoneType")
  | bl (x : Bool) : TyOf K H (.bl x) (.type "bool")
  | int (i : Int) : TyOf K H (.int i) (.type "int")
  | str (x : Str) : TyOf K H (.str x) (.type "str")
  | flt (x : UInt64) : TyOf K H (.flt x) (.type "float")
  | lst {a : Addr} {xs : List V} (e : H a = some (.lst xs)) : TyOf K H (.ref a) (.type "list")
  | frz {a : Addr} {o : Obj} {xs : List V} (e : H a = some (.frz o (.lst xs))) : TyOf K H (.ref a) (.type "list")
  | tup {a : Addr} {xs : List V} (e : H a = some (.tup xs)) : TyOf K H (.ref a) (.type "tuple")
  | dK {a : Addr} {kvs : List (Key × V)} (e : H a = some (.dK kvs)) : TyOf K H (.ref a) (.type "dict")
  | dT {a : Addr} {kvs : List (List Key × V)} (e : H a = some (.dT kvs)) : TyOf K H (.ref a) (.type "dict")
  | ins {a C dx : Addr} {fs : List (Str × V)} (e : H a = some (.ins C dx fs)) (cl : Cls K C) (ha : PySem.W.findIn K (.ref C) "__class__" = some (some (.builtin "object.__class__")))
      (hn : PySem.W.specialIn K (.builtin "object.__class__") "__get__" = some (some (.builtin "getset_descriptor.__get__"))) (htk : PySem.W.takesIn K (.builtin "object.__class__") = some true)
      (hm : PySem.W.mroIn K C (.type "object") = some true) : TyOf K H (.ref a) (.ref C)
end
end L2

namespace L2
open PySem PySem.Spec PyProof.Rows

/-! ### room -/
structure Room (k : Nat) (A : Around) : Prop where
  hd : A.handled = none
  dp : A.depth + 3 * k + 5 < recursionLimit
  un : A.units + 16 * k + 200 < cLine
  gd : A.guards = some []
theorem Room.mono {j k : Nat} {A : Around} (r : Room k A) (h : j ≤ k) : Room j A := ⟨r.hd, by have := r.dp; omega, by have := r.un; omega, r.gd⟩
theorem Room.deeper {k : Nat} {A : Around} (r : Room (k + 1) A) (env : Env) : Room k (A.deeper env) :=
  ⟨r.hd, by have := r.dp; show A.depth + 1 + 3 * k + 5 < _; omega, by have := r.un; show A.units + 3 + 16 * k + 200 < _; omega, r.gd⟩
theorem Room.in1 {k : Nat} {A : Around} (r : Room (k + 1) A) : Room k A.in1 :=
  ⟨r.hd, by have := r.dp; show A.depth + 3 * k + 5 < _; omega, by have := r.un; show A.units + 1 + 16 * k + 200 < _; omega, r.gd⟩
theorem Room.depth {k : Nat} {A : Around} (r : Room k A) : A.depth < recursionLimit := by have := r.dp; omega
theorem Room.units {k : Nat} {A : Around} (r : Room k A) : A.units + 64 < cLine := by have := r.un; omega
/-! ### argument lists and displays -/
def tNil : TA := fun _ H Q => Q [] H
def tCons (ta : TE) (tr : TA) : TA := fun σ H Q => ta σ H fun x H1 => tr σ H1 fun xs H2 => Q (x :: xs) H2
section
variable {X : Cx} {e : Expr} {es : List Expr} {te : TE} {t : TA} {pos : Pos}
theorem pa_nil : PA X [] tNil := fun _ _ _ _ H Q I h => Calls.spliced_nil ⟨[], H, I, .nil, h⟩
theorem pa_cons (ha : PE X e te) (hr : PA X es t) (hs : starEach (e :: es) X.env = (false, eval e X.env) :: starEach es X.env := by rfl) : PA X (e :: es) (tCons te t) := by
  intro pos pins s σ H Q I h
  rw [hs]
  show wpAny _ _ (spliced ((false, eval e X.env) :: backTo pos (starEach es X.env))) _ _ s
  refine Calls.spliced_cons (thn (ha pins s σ H _ I h) fun u s1 ⟨x, H1, I1, r1, q1⟩ => ?_)
  exact thn (hr pos pins s1 σ H1 _ I1 q1) fun us s2 ⟨xs, H2, I2, r2, q2⟩ => ⟨x :: xs, H2, I2, .cons r1 r2, q2⟩

/-- a tuple, a list of written items -/
def tTup (t : TA) : TE := fun σ H Q => t σ H fun xs H1 => xs.length ≤ sizeLine ∧ ∀ p, H1 p = none → Q (.ref p) (upd H1 p (.tup xs))
def tLst (t : TA) : TE := fun σ H Q => t σ H fun xs H1 => xs.length ≤ sizeLine ∧ ∀ p, H1 p = none → Q (.ref p) (upd H1 p (.lst xs))
theorem pe_tup {x1} (h : PA X es t) : PE X (.Tuple es x1 pos) (tTup t) := by
  intro pins s σ H Q I hq
  refine wpAny_Tuple_spliced (thn (h pos pins s σ H _ I hq) fun us s1 ⟨xs, H1, I1, r, z, q⟩ => ⟨by rw [← r.length]; exact z, ?_⟩)
  have hf : H1 s1.heap.objs.size = none := I1.hok.fresh (Nat.le_refl _)
  refine ⟨.ref s1.heap.objs.size, upd H1 s1.heap.objs.size (.tup xs), I1.laid (t' := s1.toks) (fun b u e => Heap.get?_push_of_some _ e) (Nat.le_refl _) ?_, rfl, q _ hf⟩
  exact ⟨z, us, r, ⟨_, Heap.get?_push_size _ rfl, rfl, _, rfl⟩⟩
theorem pe_lst (h : PA X es t) : PE X (.List es pos) (tLst t) := by
  intro pins s σ H Q I hq
  refine wpAny_List_spliced (thn (h pos pins s σ H _ I hq) fun us s1 ⟨xs, H1, I1, r, z, q⟩ => ⟨by rw [← r.length]; exact z, ?_⟩)
  have hf : H1 s1.heap.objs.size = none := I1.hok.fresh (Nat.le_refl _)
  refine ⟨.ref s1.heap.objs.size, upd H1 s1.heap.objs.size (.lst xs), I1.laid (t' := s1.toks) (fun b u e => Heap.get?_push_of_some _ e) (Nat.le_refl _) ?_, rfl, q _ hf⟩
  exact ⟨z, us, 0, r, Heap.get?_push_size _ rfl⟩
end

/-! ### what a def promises -/
/-- a def's promise: the bound arguments in the parameters' order, the heap, the wanted end, the wanted exception -/
abbrev Sp := List V → Hp → VK → XK → Prop
/-- how an exception lies behind a call (file 08 gives it): the callers' frames, abstract heap and state ahead of the call, the wish, the exception, the state -/
abbrev CXT := List Env → Hp → Shared → XK → Value → Shared → Prop

/-- the state at a call -/
structure Env0 (P : Program) (w : World) (K : PySem.W.Frag) (mg : Str → Option Value) (base : Heap) (A : Around) (outer : List Env) (s : Shared) (H : Hp) : Prop where
  frames : A.frames = some outer
  mod : Mod K mg base
  bs : ∀ b o, base.get? b = some o → s.heap.get? b = some o ∧ H b = none
  bsz : base.objs.size ≤ s.heap.objs.size
  funs : s.heap.FunFrames base outer
  frf : ∀ b ∈ frs outer, H b = none
  hok : HOk P w H s.heap
  bare : AllBare s.gens
/-- a call's end -/
def CE (outer : List Env) (P : Program) (w : World) (H : Hp) (s : Shared) (Q : VK) (u : Value) (s' : Shared) : Prop :=
  ∃ v H', s'.os = s.os ∧ AllBare s'.gens ∧ Un (frs outer) [] H H' s.heap s'.heap ∧ HOk P w H' s'.heap ∧ RelV v u ∧ Q v H'
def CR (CX : CXT) (outer : List Env) (P : Program) (w : World) (H : Hp) (s : Shared) (Q : VK) (E : XK) (r : Result) (s' : Shared) : Prop :=
  match r with
  | .ok (.ret u) => CE outer P w H s Q u s'
  | .ok _ => False
  | .error e => CX outer H s E e s'
structure FnOk (P : Program) (w : World) (K : PySem.W.Frag) (mg : Str → Option Value) (base : Heap) (CX : CXT) (k : Nat) (f : Addr) (fd : FuncData) (ps : List Str) (sp : Sp) : Prop where
  len : ∀ vs H Q E, sp vs H Q E → vs.length = ps.length
  run : ∀ (A : Around) (outer : List Env) (s : Shared) (H : Hp) (args : Args) (us : List Value) (vs : List V) (Q : VK) (E : XK), Room k A → Env0 P w K mg base A outer s H → BindsTo s fd args (ps.zip us) → Vals vs us → sp vs H Q E →
    codeAny (model P w) A (.call (.ref f) args) (CR CX outer P w H s Q E) s
theorem FnOk.mono {P : Program} {w : World} {K : PySem.W.Frag} {mg : Str → Option Value} {base : Heap} {CX : CXT} {j k : Nat} {f : Addr} {fd : FuncData} {ps : List Str} {sp : Sp} (F : FnOk P w K mg base CX j f fd ps sp) (h : j ≤ k) :
    FnOk P w K mg base CX k f fd ps sp := ⟨F.len, fun A outer s H args us vs Q E hr => F.run A outer s H args us vs Q E (hr.mono h)⟩
/-- a weaker promise -/
theorem FnOk.imp {P : Program} {w : World} {K : PySem.W.Frag} {mg : Str → Option Value} {base : Heap} {CX : CXT} {k : Nat} {f : Addr} {fd : FuncData} {ps : List Str} {sp sp' : Sp} (F : FnOk P w K mg base CX k f fd ps sp)
    (h : ∀ vs H Q E, sp' vs H Q E → sp vs H Q E) : FnOk P w K mg base CX k f fd ps sp' :=
  ⟨fun vs H Q E q => F.len vs H Q E (h _ _ _ _ q), fun A outer s H args us vs Q E hr he hb hv hs => F.run A outer s H args us vs Q E hr he hb hv (h _ _ _ _ hs)⟩

theorem Env0.in1 {P : Program} {w : World} {K : PySem.W.Frag} {mg : Str → Option Value} {base : Heap} {A : Around} {outer : List Env} {s : Shared} {H : Hp} (e : Env0 P w K mg base A outer s H) :
    Env0 P w K mg base A.in1 outer s H := ⟨e.frames, e.mod, e.bs, e.bsz, e.funs, e.frf, e.hok, e.bare⟩

section
variable {X : Cx} {pins : List (Addr × Obj)} {σ : St} {H : Hp} {s s' : Shared}
/-- from a body: what a callee wants -/
theorem Inv.env0 (I : Inv X pins σ H s) : Env0 X.prog X.w X.K X.mg X.base X.A X.stack s H :=
  ⟨I.ok.frames, I.ok.mod, I.bs, Nat.le_trans I.ok.bsz I.sz, I.stack, I.stkFree, I.hok, I.bare⟩
/-- behind a call -/
theorem Inv.after {Q : VK} {u : Value} (I : Inv X pins σ H s) (h : CE X.stack X.prog X.w H s Q u s') : EP X pins σ Q u s' := by
  obtain ⟨v, H', os, bare, un, hok, r, q⟩ := h
  obtain ⟨hh, g, d, t, os'⟩ := s'
  obtain rfl : os' = s.os := os
  exact ⟨v, H', I.call (h' := hh) (g' := g) (d' := d) (t' := t) (ch := []) un hok bare (fun b z => absurd z (by simp)), r, q⟩
end

/-! ### calls -/
/-- f(..): the written arguments, then the defaults dvs; E: what is wanted of an exception -/
def tCall (sp : Sp) (dvs : List V) (E : XK) (t : TA) : TE := fun σ H Q => t σ H fun vs H1 => sp (vs ++ dvs) H1 Q E
/-- how the parameters are bound: us the positional arguments, kw the keywords' values by name, ds the defaults that fill up -/
def Binds (K : PySem.W.Frag) (fd : FuncData) (ps : List Str) (ds : List Value) : Prop :=
  ∀ (s : Shared) (us : List Value), K.In s.heap → (us ++ ds).length = ps.length → BindsTo s fd ⟨us, []⟩ (ps.zip (us ++ ds))
/-- every parameter is given -/
theorem Binds.all {K : PySem.W.Frag} {fd : FuncData} {ps : List Str} (h : ∀ us : List Value, us.length = ps.length → bindArgs fd ⟨us, []⟩ = pure (ps.zip us)) : Binds K fd ps [] := fun s us _ hl => by
  rw [List.append_nil] at hl ⊢
  exact .of_eq (h us hl)

/-- an exception of a callee reaches what this body wants of exceptions -/
def Passes (CX : CXT) (X : Cx) (E : XK) : Prop := ∀ (pins : List (Addr × Obj)) (σ : St) (H : Hp) (s : Shared) (e : Value) (s' : Shared), Inv X pins σ H s → CX X.stack H s E e s' → X.xe e s'

section
variable {X : Cx} {CX : CXT} {k : Nat} {f C : Addr} {fd : FuncData} {ps : List Str} {sp : Sp} {dvs : List V} {ds : List Value} {E : XK} {x m : Str} {p pos apos : Pos} {e o : Expr} {es : List Expr} {ta : TE} {t : TA}

/-- the callee runs -/
theorem run_fn {pins : List (Addr × Obj)} {σ : St} {H : Hp} {s : Shared} {Q : VK} {us : List Value} {vs : List V} (F : FnOk X.prog X.w X.K X.mg X.base CX k f fd ps sp) (hr : Room k X.A) (hb : Binds X.K fd ps ds) (hd : Vals dvs ds) (hx : Passes CX X E)
    (I : Inv X pins σ H s) (r : Vals vs us) (h : sp (vs ++ dvs) H Q E) : wpAny (model X.prog X.w) X.A (call (.ref f) us) (EP X pins σ Q) X.xe s := by
  have r2 : Vals (vs ++ dvs) (us ++ ds) := r.append hd
  have hl : (us ++ ds).length = ps.length := by rw [← r2.length]; exact F.len _ _ _ _ h
  refine wpAny_call (codeAny_mono (F.run X.A X.stack s H ⟨us, []⟩ (us ++ ds) (vs ++ dvs) Q E hr I.env0 (hb s us I.kIn hl) r2 h) fun r s' hq => ?_)
  cases r with
  | error e => exact hx pins σ H s e s' I hq
  | ok fl =>
    cases fl with
    | ret u => exact I.after hq
    | next => exact False.elim hq
    | brk => exact False.elim hq
    | cont => exact False.elim hq

theorem pe_call (F : FnOk X.prog X.w X.K X.mg X.base CX k f fd ps sp) (hr : Room k X.A) (hg : Gl X x) (hm : X.mg x = some (.ref f)) (hk : PySem.W.keepIn X.K (.ref f) = true) (hb : Binds X.K fd ps ds) (hd : Vals dvs ds) (hx : Passes CX X E)
    (ha : PA X (e :: es) t) (hdb : (x == ("__debug__" : Str)) = false := by decide) (he : starEach (e :: es) X.env = (false, eval e X.env) :: starEach es X.env := by rfl) (hpl : (backTo pos (starEach es X.env)).any (·.1) = false := by rfl) :
    PE X (.Call (.Name x p) (e :: es) [] pos) (tCall sp dvs E t) := by
  intro pins s σ H Q I h
  refine wpAny_Call_Name_kw (ld_glob I hg hm ?_ hdb)
  refine PySem.W.callWith_K (h₀ := X.base) I.ok.mod.kin hk (thn (ha pos pins s σ H _ I h) fun us s1 ⟨vs, H1, I1, r, q⟩ => ⟨I1.kIn, ?_⟩) he hpl
  exact run_fn F hr hb hd hx I1 r q
/-- what a class must have to be made -/
structure Mk (K : PySem.W.Frag) (C f : Addr) : Prop where
  makes : PySem.W.makesIn K C = true
  init : PySem.W.findIn K (.ref C) "__init__" = some (some (.ref f))
  fn : PySem.W.isFn K (.ref f) = true
  kp : PySem.W.keepIn K (.ref C) = true

end

/-! ### keywords -/
section
variable {X : Cx} {CX : CXT} {k : Nat} {f C : Addr} {fd : FuncData} {ps ks : List Str} {sp : Sp} {E : XK} {x m : Str} {p pos apos kpos : Pos} {e o : Expr} {es : List Expr} {kws : List Keyword} {te ta : TE} {t tk : TA} {nm : Option Str}
/-- how a call with keywords binds: g puts the positional values us and the keywords' values ws (names ks) in the parameters' order, defaults among them -/
structure KBinds (K : PySem.W.Frag) (fd : FuncData) (ps ks : List Str) (g : List Value → List Value → List Value) (gV : List V → List V → List V) : Prop where
  to : ∀ (s : Shared) (us ws : List Value), K.In s.heap → (g us ws).length = ps.length → BindsTo s fd ⟨us, ks.zip ws⟩ (ps.zip (g us ws))
  rel : ∀ {vs : List V} {us : List Value} {zs : List V} {ws : List Value}, Vals vs us → Vals zs ws → Vals (gV vs zs) (g us ws)
variable {g : List Value → List Value → List Value} {gV : List V → List V → List V}
end

/-! ### a def's body keeps its promise -/
/-- names: the parameters first -/
structure FnScope (N P : List Str) (sc : Scope) : Prop where
  kind : sc.kind = .function
  co : sc.isCoroutine = false
  gen : sc.isGenerator = false
  nd : N.Nodup
  pre : N.take P.length = P
  par : ∀ x ∈ P, sc.names.lookup x = some .local ∨ sc.names.lookup x = some .cell
  nofree : ∀ y ∈ sc.names, y.2 ≠ .free

theorem bindL_out {kindOf : Str → Option NameKind} {x : Str} : ∀ {binds : List (Str × Value)} {m : Str → Option Value}, (∀ v, (x, v) ∉ binds) → bindL kindOf binds m x = m x
  | [], _, _ => rfl
  | (n, v) :: r, m, h => by
    unfold bindL
    rw [bindL_out fun w hw => h w (List.mem_cons_of_mem _ hw)]
    split
    · have : x ≠ n := by rintro rfl; exact h v List.mem_cons_self
      simp [this]
    · rfl
theorem bindC_out {kindOf : Str → Option NameKind} {x : Str} : ∀ {binds : List (Str × Value)} {m : Str → Option Value}, (∀ v, (x, v) ∉ binds) → bindC kindOf binds m x = m x
  | [], _, _ => rfl
  | (n, v) :: r, m, h => by
    unfold bindC
    rw [bindC_out fun w hw => h w (List.mem_cons_of_mem _ hw)]
    split
    · rfl
    · have : x ≠ n := by rintro rfl; exact h v List.mem_cons_self
      simp [this]
theorem bindL_get {kindOf : Str → Option NameKind} {x : Str} {v : Value} : ∀ {P : List Str} {vs : List Value} {i : Nat} {m : Str → Option Value}, P.Nodup → P[i]? = some x → vs[i]? = some v → kindOf x = some .local →
    bindL kindOf (P.zip vs) m x = some v
  | [], _, _, _, _, h, _, _ => by simp at h
  | _ :: _, [], _, _, _, _, h, _ => by simp at h
  | p :: P, w :: vs, 0, m, nd, h1, h2, hk => by
    simp at h1 h2; subst h1; subst h2
    show bindL kindOf ((p, w) :: P.zip vs) m p = _
    unfold bindL
    rw [bindL_out fun v hv => (List.nodup_cons.mp nd).1 (List.of_mem_zip hv).1, if_pos hk]
    simp
  | p :: P, w :: vs, i + 1, m, nd, h1, h2, hk => by
    show bindL kindOf ((p, w) :: P.zip vs) m x = _
    unfold bindL
    exact bindL_get (i := i) (List.nodup_cons.mp nd).2 (by simpa using h1) (by simpa using h2) hk
theorem bindC_get {kindOf : Str → Option NameKind} {x : Str} {v : Value} : ∀ {P : List Str} {vs : List Value} {i : Nat} {m : Str → Option Value}, P.Nodup → P[i]? = some x → vs[i]? = some v → kindOf x ≠ some .local →
    bindC kindOf (P.zip vs) m x = some v
  | [], _, _, _, _, h, _, _ => by simp at h
  | _ :: _, [], _, _, _, _, h, _ => by simp at h
  | p :: P, w :: vs, 0, m, nd, h1, h2, hk => by
    simp at h1 h2; subst h1; subst h2
    show bindC kindOf ((p, w) :: P.zip vs) m p = _
    unfold bindC
    rw [bindC_out fun v hv => (List.nodup_cons.mp nd).1 (List.of_mem_zip hv).1, if_neg hk]
    simp
  | p :: P, w :: vs, i + 1, m, nd, h1, h2, hk => by
    show bindC kindOf ((p, w) :: P.zip vs) m x = _
    unfold bindC
    exact bindC_get (i := i) (List.nodup_cons.mp nd).2 (by simpa using h1) (by simpa using h2) hk

/-- the names' values at the entry -/
def start (N : List Str) (vs : List V) : St := vs.map some ++ List.replicate (N.length - vs.length) none

/-- the context of a def's body, at its entry; an exception leaves the frame, then lies as CX says -/
def cxOf (CX : CXT) (P : Program) (w : World) (K : PySem.W.Frag) (mg : Str → Option Value) (base : Heap) (N : List Str) (qual : Str) (scope : Scope) (f : Addr) (cd : Value) (A : Around) (outer : List Env) (s : Shared) (H : Hp) (E : XK) : Cx where
  prog := P
  w := w
  K := K
  mg := mg
  base := base
  A := A.deeper (envOfC qual scope s.heap.objs.size f cd)
  N := N
  s₀ := s
  H₀ := H
  env := envOfC qual scope s.heap.objs.size f cd
  outer := outer
  stack := envOfC qual scope s.heap.objs.size f cd :: outer
  ex := []
  calm := true
  fn := fun _ => true
  pn := []
  xe := fun e s' => wpAny (model P w) (A.deeper (envOfC qual scope s.heap.objs.size f cd)) (leaving (envOfC qual scope s.heap.objs.size f cd) e) (fun _ s'' => CX outer H s E e s'') (fun e' s'' => CX outer H s E e' s'') s'

theorem cell_has {sc : Scope} {n : Nat} {x : Str} (h : sc.names.lookup x = some .cell) : ∃ c, (cellsFrom n sc.names []).lookup x = some c := by
  have q := PySem.W.cellsFrom_some sc.names n [] (.inl h)
  exact Option.isSome_iff_exists.mp q

theorem inv_start {CX : CXT} {P : Program} {w : World} {K : PySem.W.Frag} {mg : Str → Option Value} {base : Heap} {N ps : List Str} {qual : Str} {scope : Scope} {f : Addr} {cd : Value} {A : Around} {outer : List Env} {s s1 : Shared} {H : Hp} {E : XK} {us : List Value} {vs : List V}
    (S : FnScope N ps scope) (hd : A.handled = none) (e0 : Env0 P w K mg base A outer s H) (hl : vs.length = ps.length) (r : Vals vs us)
    (x : InCallC s s.heap.objs.size (bindL (envOfC qual scope s.heap.objs.size f cd).kindOf (ps.zip us) fun _ => none) (cellsFrom (s.heap.objs.size + 1) scope.names []) (bindC (envOfC qual scope s.heap.objs.size f cd).kindOf (ps.zip us) fun _ => none) s1) :
    Inv (cxOf CX P w K mg base N qual scope f cd A outer s H E) [] (start N vs) H s1 := by
  have hpl : ps.length ≤ N.length := by have := congrArg List.length S.pre; rw [List.length_take] at this; omega
  obtain ⟨h1, tk, rfl, hk⟩ := x.done
  have noA : ∀ b : Addr, b ∉ (cxOf CX P w K mg base N qual scope f cd A outer s H E).ex := fun b z => absurd (show b ∈ ([] : List Addr) from z) (by simp)
  refine ⟨⟨e0.mod, S.kind, rfl, rfl, Nat.le_refl _, fun y z c h1 h2 => ?_, fun y hy => ?_, fun y c _ h => ?_, fun _ => hd, Around.frames_deeper e0.frames, .inr ⟨rfl, rfl⟩, fun b z => absurd z (noA b), e0.bs, e0.bsz, fun b _ _ => noA b, fun b z => absurd z (noA b), e0.funs, e0.frf⟩,
    rfl, e0.bare, Un.kept hk, ⟨_, x.toInCall.ns, fun i y v h1 h2 h3 => ?_⟩, fun y c h => ⟨_, x.cell y c h⟩, e0.hok.fresh (Nat.le_refl _), fun y c h => ?_, fun p hp => absurd (show p ∈ ([] : List (Addr × Obj)) from hp) (by simp), e0.hok.kept hk, ?_⟩
  · exact name_of_addr x.apart (PySem.mem_of_lookup h1) (PySem.mem_of_lookup h2)
  · have hy : scope.names.lookup y = some .cell ∨ scope.names.lookup y = some .free := hy
    rcases hy with hy | hy
    · exact cell_has hy
    · exact absurd rfl (S.nofree _ (PySem.mem_of_lookup hy))
  · exact Nat.le_of_lt (x.above y c (PySem.mem_of_lookup h))
  · have hi : i < vs.length := by
      unfold start at h2
      by_cases hi : i < vs.length
      · exact hi
      · rw [List.getElem?_append_right (by simpa using hi)] at h2
        rw [List.getElem?_replicate] at h2
        split at h2 <;> cases h2
    have ha : vs[i]? = some v := by
      unfold start at h2
      rw [List.getElem?_append_left (by simpa using hi), List.getElem?_map] at h2
      cases e : vs[i]? with
      | none => rw [e] at h2; cases h2
      | some a => rw [e] at h2; cases h2; rfl
    obtain ⟨u, hu, rv⟩ := r.get ha
    have hp : ps[i]? = some y := by
      rw [← S.pre, List.getElem?_take_of_lt (by omega)]; exact h1
    have ndP : ps.Nodup := by rw [← S.pre]; exact S.nd.sublist (List.take_sublist _ _)
    refine ⟨u, rv, ?_⟩
    rcases S.par y (List.mem_of_getElem? hp) with k | k
    · exact .inl ⟨k, bindL_get ndP hp hu k⟩
    · obtain ⟨c, e⟩ := cell_has (n := s.heap.objs.size + 1) k
      refine .inr ⟨.inl k, c, e, ?_⟩
      have q := x.cell y c e
      rw [bindC_get ndP hp hu (by show scope.names.lookup y ≠ _; rw [k]; decide)] at q
      exact q
  · exact e0.hok.fresh (Nat.le_of_lt (x.above y c (PySem.mem_of_lookup h)))
  · unfold start
    show _ = N.length
    rw [List.length_append, List.length_map, List.length_replicate]
    omega

/-- THE RULE: a def (or a method) of the text, by its body. The body's reading t is chosen for each entry; it is run at the parameters' values -/
theorem fn_of {CX : CXT} {P : Program} {w : World} {K : PySem.W.Frag} {mg : Str → Option Value} {base : Heap} {k : Nat} {f : Addr} {name qual : Str} {params : Arguments} {body : List Stmt} {scope : Scope} {dV kV doc pm cdv ct oc : Value} {an od : Option Addr}
    {osl : Array (Option Value)} {N ps : List Str} {sp : Sp} (lk : K.lookup f = some ⟨oc, od, .func (PySem.W.fnOf name qual params body scope dV kV doc pm an cdv ct), osl⟩) (hcd : PySem.W.codeIn K cdv qual = true) (S : FnScope N ps scope)
    (len : ∀ vs H Q E, sp vs H Q E → vs.length = ps.length)
    (hbody : ∀ (A : Around) (outer : List Env) (s : Shared) (H : Hp) (vs : List V) (Q : VK) (E : XK), Room k (A.deeper (envOfC qual scope s.heap.objs.size f cdv)) → sp vs H Q E →
      ∃ t, PSs (cxOf CX P w K mg base N qual scope f cdv A outer s H E) body t ∧ t { nx := fun _ H' => Q .non H', rt := Q } (start N vs) H) :
    FnOk P w K mg base CX (k + 1) f (PySem.W.fnOf name qual params body scope dV kV doc pm an cdv ct) ps sp := by
  refine ⟨len, fun A outer s H args us vs Q E hr e0 hb r hsp => ?_⟩
  have hl := len _ _ _ _ hsp
  have KX : K.In s.heap := e0.mod.kin.keeps fun b o e => (e0.bs b o e).1
  have lim : s.heap.NoLimit := e0.mod.nolimit.keeps fun b o e => (e0.bs b o e).1
  have hkind : ∀ y ∈ ps.zip us, scope.names.lookup y.1 = some .local ∨ (scope.names.lookup y.1 = some .cell ∧ ((cellsFrom (s.heap.objs.size + 1) scope.names []).lookup y.1).isSome = true) := fun ⟨n, v⟩ hy => by
    rcases S.par n (List.of_mem_zip hy).1 with q | q
    · exact .inl q
    · exact .inr ⟨q, PySem.W.cellsFrom_some _ _ _ (.inl q)⟩
  refine codeAny_call_function hr.depth (KX _ _ lk) rfl S.co S.gen rfl (PySem.W.codeRec_of KX hcd) (hb _ _ _ _ ?_)
  refine wpAny_newFunctionEnv_cells S.kind hkind fun env he s1 x => ?_
  subst he
  refine ⟨lim.keeps x.toInCall.keep, codeAny_func ?_⟩
  obtain ⟨t, ht, hq⟩ := hbody A outer s H vs Q E (hr.deeper _) hsp
  have I : Inv (cxOf CX P w K mg base N qual scope f cdv A outer s H E) [] (start N vs) H s1 := inv_start S hr.hd e0 hl r x
  refine wpAny_mono (ht [] s1 (start N vs) H _ I hq) (fun fl s' hs => ?_) fun e s' hs => hs
  have fin : ∀ {σ' : St} {H' : Hp} {v : V} {u : Value}, Inv (cxOf CX P w K mg base N qual scope f cdv A outer s H E) [] σ' H' s' → RelV v u → Q v H' → CE outer P w H s Q u s' :=
    fun {σ' H' v u} J rv q => ⟨v, H', J.os, J.bare, J.base, J.hok, rv, q⟩
  cases fl with
  | ret u =>
    obtain ⟨v, σ', H', J, rv, q⟩ := hs
    exact fin J rv q
  | next =>
    obtain ⟨σ', H', J, q⟩ := hs
    exact fin (v := V.non) (u := Value.none) J rfl q
  | brk =>
    obtain ⟨_, _, _, q⟩ := hs
    exact False.elim q
  | cont =>
    obtain ⟨_, _, _, q⟩ := hs
    exact False.elim q
end L2

namespace L2
open PySem PySem.Spec PyProof.Rows
section
variable {X : Cx} {x : Str} {p pos : Pos} {e : Expr} {es : List Expr} {t : TA} {id T : String} {r : List V → Hp → VK → Prop}

def tCB (r : List V → Hp → VK → Prop) (t : TA) : TE := fun σ H Q => t σ H fun vs H1 => r vs H1 Q
/-- f(e, ..), f a built-in function -/
theorem pe_callB (hc : CallR X (.builtin id) r) (hg : Gl X x) (hm : X.mg x = none) (hv : bootBuiltins x = some (.builtin id)) (ha : PA X (e :: es) t) (hn : x ≠ "__name__" := by decide) (hdb : (x == ("__debug__" : Str)) = false := by decide)
    (he : starEach (e :: es) X.env = (false, eval e X.env) :: starEach es X.env := by rfl) (hpl : (backTo pos (starEach es X.env)).any (·.1) = false := by rfl) : PE X (.Call (.Name x p) (e :: es) [] pos) (tCB r t) := by
  intro pins s σ H Q I h
  refine wpAny_Call_Name_kw (ld_blt I hg hm hv ?_ hn hdb)
  exact PyProof.Rows.callWith_builtin1 (thn (ha pos pins s σ H _ I h) fun us s1 ⟨vs, H1, I1, r1, q1⟩ => hc pins s1 σ H1 vs us Q I1 r1 q1) he hpl
/-- T(e, ..), T a built-in type -/
theorem pe_callTy (hc : CallR X (.type T) r) (hg : Gl X x) (hm : X.mg x = none) (hv : bootBuiltins x = some (.type T)) (ha : PA X (e :: es) t) (hn : x ≠ "__name__" := by decide) (hdb : (x == ("__debug__" : Str)) = false := by decide)
    (he : starEach (e :: es) X.env = (false, eval e X.env) :: starEach es X.env := by rfl) (hpl : (backTo pos (starEach es X.env)).any (·.1) = false := by rfl) : PE X (.Call (.Name x p) (e :: es) [] pos) (tCB r t) := by
  intro pins s σ H Q I h
  refine wpAny_Call_Name_kw (ld_blt I hg hm hv ?_ hn hdb)
  exact PyProof.Rows.callWith_type1 (thn (ha pos pins s σ H _ I h) fun us s1 ⟨vs, H1, I1, r1, q1⟩ => hc pins s1 σ H1 vs us Q I1 r1 q1) he hpl
end
end L2

namespace HT
open PySem PyProof.Rows

section
open PySem.SeqAt
open PySem.AutoSeq1 (wpAny_loadPart')
open PySem.MeetsSeq PySem.MeetsSeq2 PySem.MeetsSeq3

end

section
variable {prog : Program} {w : World} {A : Around} {E : Value → Shared → Prop} {s : Shared}

/-! ### t[a:b], not the whole -/
/-- a slice's bound as a place among n (d where it is left out) -/
def sIx (n d : Nat) : Option Int → Nat
  | none => d
  | some v => if v < 0 then (v + (n : Int)).toNat else min v.toNat n
theorem sIx_none (n d : Nat) : sIx n d none = d := rfl
theorem sIx_nat (n d k : Nat) : sIx n d (some (k : Int)) = min k n := by
  show (if (k : Int) < 0 then ((k : Int) + (n : Int)).toNat else min (k : Int).toNat n) = min k n
  rw [if_neg (by omega), Int.toNat_natCast]
end
end HT

namespace L2
open PySem PySem.Spec PyProof.Rows

/-! ### the parts of a slice -/
abbrev TO := St → Hp → (Option Int → Hp → Prop) → Prop
/-- a slice's part (left out, or an int) -/
def PO (X : Cx) (e : Option Expr) (t : TO) : Prop :=
  ∀ (pins : List (Addr × Obj)) (s : Shared) (σ : St) (H : Hp) (Q : Option Int → Hp → Prop), Inv X pins σ H s → t σ H Q →
    wpAny (model X.prog X.w) X.A (evalPart e X.env) (fun u s' => ∃ o H', Inv X pins σ H' s' ∧ IsPart u o ∧ Q o H') X.xe s
def tNoPart : TO := fun _ H Q => Q none H
def tPart (t : TE) : TO := fun σ H Q => t σ H fun x H1 => ∃ i, x = .int i ∧ Q (some i) H1

theorem intsAre_of {ns : List Int} : ∀ {us : List Value}, Vals (ns.map V.int) us → IntsAre us ns := by
  induction ns with
  | nil => intro us r; rw [List.map_nil] at r; cases r; exact .nil
  | cons n ns ih =>
    intro us r
    rw [List.map_cons] at r
    cases r with
    | cons r1 r2 =>
      obtain ⟨t, e⟩ := r1
      subst e
      exact .cons n t (ih r2)

section
variable {X : Cx} {e : Expr} {te : TE} {lo hi : Option Expr} {tl th : TO} {pos p2 : Pos}

theorem po_none : PO X none tNoPart := by
  intro pins s σ H Q I h
  rw [evalPart_none]
  exact wpAny_pure ⟨none, H, I, .none, h⟩
theorem po_some (h : PE X e te) : PO X (some e) (tPart te) := by
  intro pins s σ H Q I hw
  rw [evalPart_some]
  refine thn (h pins s σ H _ I hw) fun u s1 ⟨x, H1, I1, r1, q1⟩ => ?_
  obtain ⟨i, rfl, q⟩ := q1
  obtain ⟨t, rfl⟩ := r1
  exact ⟨some i, H1, I1, .int i t, q⟩

/-- what a slice of a value is, by values: the slice object stands at sl -/
def SlR (X : Cx) (r : V → Option Int → Option Int → Hp → VK → Prop) : Prop :=
  ∀ (pins : List (Addr × Obj)) (s : Shared) (σ : St) (H : Hp) (x : V) (v vl vu : Value) (lo hi : Option Int) (sl : Addr) (Q : VK), Inv X pins σ H s → RelV x v → s.heap.IsSliceOf sl vl vu .none → IsPart vl lo → IsPart vu hi → r x lo hi H Q →
    ∃ T id, typeLookup (.type T) "__getitem__" = pure (some (.builtin id)) ∧ s.TypeIs v T ∧ wpAny (model X.prog X.w) X.A (getItem v (.ref sl)) (EP X pins σ Q) X.xe s
theorem SlR.or {r r' : V → Option Int → Option Int → Hp → VK → Prop} (h : SlR X r) (h' : SlR X r') : SlR X (fun x lo hi H Q => r x lo hi H Q ∨ r' x lo hi H Q) := by
  intro pins s σ H x v vl vu lo hi sl Q I rx hs pl pu q
  rcases q with q | q
  · exact h pins s σ H x v vl vu lo hi sl Q I rx hs pl pu q
  · exact h' pins s σ H x v vl vu lo hi sl Q I rx hs pl pu q
def tSl (r : V → Option Int → Option Int → Hp → VK → Prop) (te : TE) (tl th : TO) : TE := fun σ H Q => te σ H fun x H1 => tl σ H1 fun l H2 => th σ H2 fun u H3 => r x l u H3 Q
/-- a[lo:hi], any a -/
theorem pe_slice {r : V → Option Int → Option Int → Hp → VK → Prop} (hr : SlR X r) (he : PE X e te) (hl : PO X lo tl) (hu : PO X hi th) : PE X (.Subscript e (.Slice lo hi none p2) pos) (tSl r te tl th) := by
  intro pins s σ H Q I h
  refine Subscript_ (thn (he pins s σ H _ I h) fun v s1 ⟨x, H1, I1, r1, q1⟩ => ?_)
  refine wpAny_Slice (thn (hl pins s1 σ H1 _ I1 q1) fun vl s2 ⟨l, H2, I2, pl, q2⟩ => thn (hu pins s2 σ H2 _ I2 q2) fun vu s3 ⟨u, H3, I3, pu, q3⟩ => ?_)
  rw [evalPart_none]
  refine wpAny_pure ?_
  have I4 : Inv X pins σ H3 { s3 with heap := s3.heap.push { cls := .type "slice", data := .fields #[vl, vu, .none] } } := I3.kept (t' := s3.toks) fun b ob q => Heap.get?_push_of_some _ q
  obtain ⟨T, id, hT, ht, hg⟩ := hr pins { s3 with heap := s3.heap.push { cls := .type "slice", data := .fields #[vl, vu, .none] } } σ H3 x v vl vu l u s3.heap.objs.size Q I4 r1 (Heap.IsSliceOf.new ..) pl pu q3
  show wpAny (model X.prog X.w) X.A (subscriptTail e (.Slice lo hi none p2) v (.ref s3.heap.objs.size)) (EP X pins σ Q) X.xe { s3 with heap := s3.heap.push { cls := .type "slice", data := .fields #[vl, vu, .none] } }
  exact tail_any (ops := [.ref s3.heap.objs.size, v]) ht hT hg (by with_unfolding_all rfl)

/-- the items of xs[lo:hi] -/
def cutV (xs : List V) (lo hi : Option Int) : List V := (xs.drop (HT.sIx xs.length 0 lo)).take (HT.sIx xs.length xs.length hi - HT.sIx xs.length 0 lo)
theorem cutV_length (xs : List V) (lo hi : Option Int) : (cutV xs lo hi).length ≤ xs.length := by
  unfold cutV
  rw [List.length_take, List.length_drop]
  omega
/-! ### t < u, t + u -/
end
end L2

namespace L2
open PySem PySem.Spec PyProof.Rows

/-! ### places -/
/-- the place that an index of any sign means -/
def ixN (n : Nat) (i : Int) : Option Nat := if 0 ≤ i then (if i < n then some i.toNat else none) else if -(n : Int) ≤ i then some (i + n).toNat else none
def atI {α : Type} (xs : List α) (i : Int) : Option α := (ixN xs.length i).bind fun j => xs[j]?
theorem ixN_seq {n : Nat} {i : Int} {j : Nat} (h : ixN n i = some j) : seqIndex? i n = some j ∧ j < n ∧ -(n : Int) ≤ i ∧ i < n := by
  unfold ixN at h
  by_cases h0 : 0 ≤ i
  · rw [if_pos h0] at h
    by_cases h1 : i < n
    · rw [if_pos h1] at h
      have e : i.toNat = j := Option.some.inj h
      exact ⟨by rw [seqIndex_of h0 h1, e], by omega, by omega, h1⟩
    · rw [if_neg h1] at h; cases h
  · rw [if_neg h0] at h
    by_cases h1 : -(n : Int) ≤ i
    · rw [if_pos h1] at h
      have e : (i + n).toNat = j := Option.some.inj h
      exact ⟨by rw [seqIndex_neg (by omega) h1, e], by omega, h1, by omega⟩
    · rw [if_neg h1] at h; cases h
theorem atI_get {α : Type} {xs : List α} {i : Int} {v : α} (h : atI xs i = some v) : ∃ j, seqIndex? i xs.length = some j ∧ xs[j]? = some v ∧ j < xs.length ∧ -(xs.length : Int) ≤ i ∧ i < xs.length := by
  unfold atI at h
  cases e : ixN xs.length i with
  | none => rw [e] at h; cases h
  | some j =>
    rw [e] at h
    obtain ⟨h1, h2, h3, h4⟩ := ixN_seq e
    exact ⟨j, h1, h, h2, h3, h4⟩
theorem atI_nat {α : Type} {xs : List α} {j : Nat} {v : α} (h : xs[j]? = some v) : atI xs (j : Int) = some v := by
  have hj : j < xs.length := (List.getElem?_eq_some_iff.mp h).1
  have e : ixN xs.length (j : Int) = some j := by
    unfold ixN
    rw [if_pos (by omega), if_pos (by omega)]; simp
  unfold atI; rw [e]; exact h
/-! ### what may be subscripted -/
/-- what stands as an index of a plain subscript -/
def PlainIx (b : Expr) : Prop := ∀ o i, subscripted b false o i = operate [o, i] (getItem o i)
/-- a subscript by values -/
def IxR (X : Cx) (r : R2) : Prop :=
  ∀ (value slice : Expr) (pins : List (Addr × Obj)) (s : Shared) (σ : St) (H : Hp) (x y : V) (v u : Value) (Q : VK), Inv X pins σ H s → RelV x v → RelV y u → r x y H Q →
    subscripted slice false v u = operate [v, u] (getItem v u) → wpAny (model X.prog X.w) X.A (subscriptTail value slice v u) (EP X pins σ Q) X.xe s
/-- a call of a builtin's method by values: the receiver, the arguments -/
def MtR (X : Cx) (id : String) (r : V → List V → Hp → VK → Prop) : Prop :=
  ∀ (pins : List (Addr × Obj)) (s : Shared) (σ : St) (H : Hp) (x : V) (xs : List V) (v : Value) (us : List Value) (Q : VK), Inv X pins σ H s → RelV x v → Vals xs us → r x xs H Q →
    wpAny (model X.prog X.w) X.A (call (.builtin id) (v :: us)) (EP X pins σ Q) X.xe s
section
variable {X : Cx} {a b : Expr} {ta tb : TE} {pos : Pos}
theorem IxR.or {r r' : R2} (h : IxR X r) (h' : IxR X r') : IxR X (fun x y H Q => r x y H Q ∨ r' x y H Q) := by
  intro value slice pins s σ H x y v u Q I rx ry q hs
  rcases q with q | q
  · exact h value slice pins s σ H x y v u Q I rx ry q hs
  · exact h' value slice pins s σ H x y v u Q I rx ry q hs
theorem MtR.or {id : String} {r r' : V → List V → Hp → VK → Prop} (h : MtR X id r) (h' : MtR X id r') : MtR X id (fun x xs H Q => r x xs H Q ∨ r' x xs H Q) := by
  intro pins s σ H x xs v us Q I rx rs q
  rcases q with q | q
  · exact h pins s σ H x xs v us Q I rx rs q
  · exact h' pins s σ H x xs v us Q I rx rs q
/-- a[b] -/
theorem pe_ix {r : R2} (hr : IxR X r) (ha : PE X a ta) (hb : PE X b tb) (hs : PlainIx b) : PE X (.Subscript a b pos) (tOp r ta tb) := by
  intro pins s σ H Q I h
  exact Subscript_ (binT ha hb I h fun v u s2 x y H2 I2 rx ry q => hr a b pins s2 σ H2 x y v u Q I2 rx ry q (hs _ _))

def rIxL (K : PySem.W.Frag) : R2 := fun x y H Q => ∃ p xs i v, x = .ref p ∧ y = .int i ∧ SqL K H p xs ∧ atI xs i = some v ∧ Q v H
def rIxT (K : PySem.W.Frag) : R2 := fun x y H Q => ∃ p xs i v, x = .ref p ∧ y = .int i ∧ SqT K H p xs ∧ atI xs i = some v ∧ Q v H
def rIxS : R2 := fun x y H Q => ∃ z i c, x = .str z ∧ y = .int i ∧ z.length ≤ sizeLine ∧ atI z.cps.toList i = some c ∧ Q (.str ⟨#[c]⟩) H
theorem ix_list : IxR X (rIxL X.K) := by
  intro value slice pins s σ H x y v u Q I rx ry h hs
  obtain ⟨p, xs, i, z, rfl, rfl, hq, he, q⟩ := h
  cases rx
  obtain ⟨t, rfl⟩ := ry
  obtain ⟨its, r, pl, hz⟩ := I.list hq
  obtain ⟨j, h1, h2, h3, h4, h5⟩ := atI_get he
  obtain ⟨w, ew, rw'⟩ := r.get h2
  have hl := r.length
  have hn := line63
  have fin : EP X pins σ Q w s := ⟨z, H, I, rw', q⟩
  by_cases h0 : 0 ≤ i
  · have hj : i.toNat = j := by
      rw [seqIndex_of h0 h5] at h1
      exact Option.some.inj h1
    exact item_listR pl.isList h0 (by omega) (by rw [hj]; simpa using ew) fin hs
  · have hj : (i + (its.toArray.size : Int)).toNat = j := by
      rw [seqIndex_neg (by omega) h4] at h1
      rw [List.size_toArray, ← hl]
      exact Option.some.inj h1
    exact subscriptTail_builtinR (x := w) pl.isList.typeIs slot_list_getitem.lookup
      (wpAny_getItem_list_neg (Q := fun r s' => r = w ∧ EP X pins σ Q r s') pl.isList (by omega) (by rw [List.size_toArray] <;> omega) (by omega) (by rw [hj]; simpa using ew) ⟨rfl, fin⟩) hs
theorem ix_tup : IxR X (rIxT X.K) := by
  intro value slice pins s σ H x y v u Q I rx ry h hs
  obtain ⟨p, xs, i, z, rfl, rfl, hq, he, q⟩ := h
  cases rx
  obtain ⟨t, rfl⟩ := ry
  obtain ⟨its, r, pl, hz⟩ := I.tuple hq
  obtain ⟨j, h1, h2, h3, h4, h5⟩ := atI_get he
  obtain ⟨w, ew, rw'⟩ := r.get h2
  have hl := r.length
  have hn := line63
  have fin : EP X pins σ Q w s := ⟨z, H, I, rw', q⟩
  exact subscriptTail_builtinR (x := w) pl.typeIs slot_tuple_getitem.lookup
    (getItem_tuple (j := j) (Q := fun r s' => r = w ∧ EP X pins σ Q r s') pl (by omega) (by omega) (by rw [List.size_toArray, ← hl]; exact h1) (by simpa using ew) ⟨rfl, fin⟩) hs
theorem ix_str : IxR X rIxS := by
  intro value slice pins s σ H x y v u Q I rx ry h hs
  obtain ⟨z, i, c, rfl, rfl, hz, he, q⟩ := h
  obtain ⟨t, rfl⟩ := rx
  obtain ⟨t', rfl⟩ := ry
  obtain ⟨j, h1, h2, h3, h4, h5⟩ := atI_get he
  have hl : z.cps.toList.length = z.length := by simp [Str.length]
  rw [hl] at h1 h4 h5
  have hn := line63
  exact tail_any (typeIs_str s z t) slot_str_getitem.lookup (getItem_str (c := c) (by
    have e1 : decide (i < -(2 ^ 63 : Int)) = false := decide_eq_false (by omega)
    have e2 : decide (i ≥ 2 ^ 63) = false := decide_eq_false (by omega)
    rw [e1, e2, Bool.or_false]) (by rw [h1]; simpa using h2) ⟨.str ⟨#[c]⟩, H, I.tok _, ⟨_, rfl⟩, q⟩) hs
/-! ### xs[i] = v, any sign -/
/-- the list's object behind a store -/
theorem mapSeq_set (its : List Value) (n j : Nat) (u : Value) : Obj.mapSeq (·.setIfInBounds j u) { cls := .type "list", data := .seq its.toArray n } = { cls := .type "list", data := .seq (its.set j u).toArray n } := by
  simp [Obj.mapSeq]
theorem Inv.lst {pins : List (Addr × Obj)} {σ : St} {H : Hp} {s : Shared} {p : Addr} {xs : List V} (I : Inv X pins σ H s) (h : H p = some (.lst xs)) :
    ∃ (its : List Value) (n : Nat), Vals xs its ∧ s.heap.get? p = some { cls := .type "list", data := .seq its.toArray n } ∧ xs.length ≤ sizeLine := by
  obtain ⟨z, its, n, r, e⟩ := I.hok p _ h
  exact ⟨its, n, r, e, z⟩
/-- the list at p is written by an update of its object -/
theorem Inv.lstUpd {pins : List (Addr × Obj)} {σ : St} {H : Hp} {s : Shared} {p : Addr} {xs ys : List V} {its its' : List Value} {n n' : Nat} {f : Obj → Obj} (I : Inv X pins σ H s) (h : H p = some (.lst xs))
    (ho : s.heap.get? p = some { cls := .type "list", data := .seq its.toArray n }) (hf : f { cls := .type "list", data := .seq its.toArray n } = { cls := .type "list", data := .seq its'.toArray n' }) (r : Vals ys its') (hz : ys.length ≤ sizeLine) (t : Nat) :
    Inv X pins σ (upd H p (.lst ys)) { s with heap := s.heap.update p f, toks := t } := by
  have e : (s.heap.update p f).get? p = some { cls := .type "list", data := .seq its'.toArray n' } := by
    rw [Heap.get?_update_self f ho (by rw [hf] <;> rfl), hf]
  refine I.write (x := p) (e := p) (by rw [h]; trivial) (.inl rfl) (fun b u hb q => (Heap.get?_update_other _ _ (Ne.symm hb)).trans q) ⟨_, e⟩ ?_
  exact ⟨hz, its', n', r, e⟩
def rSetL : V → V → V → Hp → (Hp → Prop) → Prop := fun o i v H Q => ∃ p xs k j, o = .ref p ∧ i = .int k ∧ H p = some (.lst xs) ∧ ixN xs.length k = some j ∧ Q (upd H p (.lst (xs.set j v)))
theorem set_list : PSet X rSetL := by
  intro pins s σ H o i v ov iv u Q I ro ri rv h
  obtain ⟨p, xs, k, j, rfl, rfl, hp, hj, q⟩ := h
  cases ro
  obtain ⟨t, rfl⟩ := ri
  obtain ⟨its, n, r, ho, hz⟩ := I.lst hp
  obtain ⟨h1, h2, h3, h4⟩ := ixN_seq hj
  have hl := r.length
  have hn := line63
  have I' : Inv X pins σ (upd H p (.lst (xs.set j v))) { s with heap := s.heap.update p (Obj.mapSeq (·.setIfInBounds j u)) } :=
    I.lstUpd hp ho (mapSeq_set its n j u) (r.set rv j) (by rw [List.length_set]; exact hz) s.toks
  by_cases h0 : 0 ≤ k
  · have hk : k.toNat = j := by
      rw [seqIndex_of h0 h4] at h1
      exact Option.some.inj h1
    exact PySem.W.ki_setAt ho h0 (by omega) (by rw [List.size_toArray, ← hl]; exact h4) (by rw [hk]; exact ⟨_, I', q⟩)
  · have hk : (k + (its.toArray.size : Int)).toNat = j := by
      rw [seqIndex_neg (by omega) h3] at h1
      rw [List.size_toArray, ← hl]
      exact Option.some.inj h1
    exact PySem.W.ki_setBack ho (by omega) (by rw [List.size_toArray, ← hl]; exact h3) (by omega) (by rw [hk]; exact ⟨_, I', q⟩)

/-! ### slices -/
theorem slice_bounds (lo hi : Option Int) (n : Nat) : (sliceBounds lo hi none n).1 = ((HT.sIx n 0 lo : Nat) : Int) ∧ (sliceBounds lo hi none n).2.1 = ((HT.sIx n n hi : Nat) : Int) ∧ (sliceBounds lo hi none n).2.2 = 1 := by
  refine ⟨?_, ?_, rfl⟩
  · cases lo with
    | none => simp [sliceBounds, HT.sIx]
    | some i =>
      simp only [sliceBounds, HT.sIx, Option.getD_none, show (1 : Int) > 0 by decide, if_true]
      by_cases h : i < 0
      · simp only [h, if_true] <;> omega
      · simp only [h, if_false] <;> omega
  · cases hi with
    | none => simp [sliceBounds, HT.sIx]
    | some i =>
      simp only [sliceBounds, HT.sIx, Option.getD_none, show (1 : Int) > 0 by decide, if_true]
      by_cases h : i < 0
      · simp only [h, if_true] <;> omega
      · simp only [h, if_false] <;> omega
theorem slicePick_cut (its : List Value) (lo hi : Option Int) : slicePick its.toArray lo hi none = ((its.drop (HT.sIx its.length 0 lo)).take (HT.sIx its.length its.length hi - HT.sIx its.length 0 lo)).toArray := by
  obtain ⟨h1, h2, h3⟩ := slice_bounds lo hi its.toArray.size
  unfold slicePick
  rw [h1, h2, h3]
  simp only [sliceRange_one, pick_run, List.size_toArray] <;> rfl
/-- xs[lo:hi] of a list: a new list -/
def rSlL (K : PySem.W.Frag) : V → Option Int → Option Int → Hp → VK → Prop := fun x lo hi H Q => ∃ a xs, x = .ref a ∧ SqL K H a xs ∧ ∀ p, H p = none → Q (.ref p) (upd H p (.lst (cutV xs lo hi)))
theorem sl_list : SlR X (rSlL X.K) := by
  intro pins s σ H x v vl vu lo hi sl Q I rx hs pl pu h
  obtain ⟨a, xs, rfl, hx, q⟩ := h
  cases rx
  obtain ⟨its, r, ht, hz⟩ := I.list hx
  have hlen := r.length
  refine ⟨"list", _, slot_list_getitem.lookup, ht.isList.typeIs, ?_⟩
  refine wpAny_getItem_list_slice ht.isList hs pl pu .none (by simp) ?_ (by rw [List.size_toArray] <;> omega)
  rw [slicePick_cut, ← hlen]
  refine ⟨.ref s.heap.objs.size, _, I.laid (t' := s.toks) (o := .lst (cutV xs lo hi)) (fun b ob q => Heap.get?_push_of_some _ q) (Nat.le_refl _) ?_, rfl, q _ (I.hok.fresh (Nat.le_refl _))⟩
  exact ⟨Nat.le_trans (cutV_length xs lo hi) hz, _, 0, (r.drop (HT.sIx xs.length 0 lo)).take (HT.sIx xs.length xs.length hi - HT.sIx xs.length 0 lo), Heap.get?_push_size _ rfl⟩

/-! ### in, not in: flat items -/
def flatV : V → Bool
  | .non => true
  | .bl _ => true
  | .int _ => true
  | .str _ => true
  | _ => false
/-- == of flat values -/
def eqV : V → V → Bool
  | .non, .non => true
  | .bl a, .bl b => a == b
  | .bl a, .int b => (if a then 1 else 0) == b
  | .int a, .bl b => a == (if b then 1 else 0)
  | .int a, .int b => a == b
  | .str a, .str b => a == b
  | _, _ => false
theorem eqAt_V {A : Around} {s : Shared} {y x : V} {u v : Value} (ry : RelV y u) (rx : RelV x v) (fy : flatV y = true) (fx : flatV x = true) : SeqAt.EqAt A s u v (eqV y x) := by
  cases y with
  | non =>
    cases ry
    cases x with
    | non => cases rx; exact SeqAt.EqAt.same _
    | bl b => cases rx; exact SeqAt.EqAt.none_bool b
    | int b => obtain ⟨t, rfl⟩ := rx; exact SeqAt.EqAt.none_int b t
    | str b => obtain ⟨t, rfl⟩ := rx; exact SeqAt.EqAt.none_str b t
    | _ => exact absurd (show false = true from fx) Bool.false_ne_true
  | bl a =>
    cases ry
    cases x with
    | non => cases rx; exact SeqAt.EqAt.bool_none a
    | bl b => cases rx; exact SeqAt.EqAt.bool_bool a b
    | int b => obtain ⟨t, rfl⟩ := rx; exact SeqAt.EqAt.bool_int a b t
    | str b => obtain ⟨t, rfl⟩ := rx; exact SeqAt.EqAt.bool_str a b t
    | _ => exact absurd (show false = true from fx) Bool.false_ne_true
  | int a =>
    obtain ⟨t', rfl⟩ := ry
    cases x with
    | non => cases rx; exact SeqAt.EqAt.int_none a t'
    | bl b => cases rx; exact SeqAt.EqAt.int_bool a t' b
    | int b => obtain ⟨t, rfl⟩ := rx; exact SeqAt.EqAt.int_int a t' b t
    | str b => obtain ⟨t, rfl⟩ := rx; exact SeqAt.EqAt.int_str a t' b t
    | _ => exact absurd (show false = true from fx) Bool.false_ne_true
  | str a =>
    obtain ⟨t', rfl⟩ := ry
    cases x with
    | non => cases rx; exact SeqAt.EqAt.str_none a t'
    | bl b => cases rx; exact SeqAt.EqAt.str_bool a t' b
    | int b => obtain ⟨t, rfl⟩ := rx; exact SeqAt.EqAt.str_int a t' b t
    | str b => obtain ⟨t, rfl⟩ := rx; exact SeqAt.EqAt.str_str a t' b t
    | _ => exact absurd (show false = true from fx) Bool.false_ne_true
  | _ => exact absurd (show false = true from fy) Bool.false_ne_true
/-- the items' answers, read off the values (a value's own answer does not lean on its token) -/
def eqU (x : V) (u : Value) : Bool := match u with
  | .none => eqV .non x
  | .bool b => eqV (.bl b) x
  | .int i _ => eqV (.int i) x
  | .str z _ => eqV (.str z) x
  | _ => false
theorem eqU_of {x y : V} {u : Value} (r : RelV y u) (f : flatV y = true) : eqU x u = eqV y x := by
  cases y with
  | non => cases r; rfl
  | bl b => cases r; rfl
  | int i => obtain ⟨t, rfl⟩ := r; rfl
  | str z => obtain ⟨t, rfl⟩ := r; rfl
  | _ => exact absurd (show false = true from f) Bool.false_ne_true
theorem any_eqU {x : V} : ∀ {xs : List V} {us : List Value}, Vals xs us → xs.all flatV = true → us.any (eqU x) = xs.any fun y => eqV y x
  | _, _, .nil, _ => rfl
  | y :: xs, u :: us, .cons r t, f => by
    rw [List.all_cons, Bool.and_eq_true] at f
    rw [List.any_cons, List.any_cons, eqU_of r f.1, any_eqU t f.2]
theorem mem_eqAt {A : Around} {s : Shared} {x : V} {v : Value} (rx : RelV x v) (fx : flatV x = true) : ∀ {xs : List V} {us : List Value}, Vals xs us → xs.all flatV = true → ∀ u ∈ us, SeqAt.EqAt A s u v (eqU x u)
  | _, _, .nil, _ => fun u hu => by cases hu
  | y :: xs, u :: us, .cons r t, f => fun u' hu => by
    rw [List.all_cons, Bool.and_eq_true] at f
    rcases List.mem_cons.mp hu with rfl | hu
    · rw [eqU_of r f.1]; exact eqAt_V r rx f.1 fx
    · exact mem_eqAt rx fx t f.2 u' hu
def inV (x : V) (xs : List V) : Bool := xs.any fun y => eqV y x
/-- x in a list or tuple of flat items -/
def rIn (K : PySem.W.Frag) (neg : Bool) : R2 := fun x y H Q => ∃ p xs, y = .ref p ∧ (SqL K H p xs ∨ SqT K H p xs) ∧ flatV x = true ∧ xs.all flatV = true ∧ Q (.bl (if neg then !inV x xs else inV x xs)) H
theorem op_in_seq : OpR X (compareOp .In) (rIn X.K false) := by
  intro pins s σ H x y v u Q I rx ry h
  obtain ⟨p, xs, rfl, hq, fx, fs, q⟩ := h
  cases ry
  rcases hq with hq | hq
  · obtain ⟨its, r, pl, hz⟩ := I.list hq
    refine SeqAt.in_listAt (eqU x) pl.isList (fun w hw => mem_eqAt rx fx r fs w (by simpa using hw)) ⟨.bl _, H, I, rfl, ?_⟩
    rw [show its.toArray.any (eqU x) = its.any (eqU x) by simp, any_eqU r fs]
    exact q
  · obtain ⟨its, r, pl, hz⟩ := I.tuple hq
    refine SeqAt.in_tupleAt (eqU x) pl (fun w hw => mem_eqAt rx fx r fs w (by simpa using hw)) ⟨.bl _, H, I, rfl, ?_⟩
    rw [show its.toArray.any (eqU x) = its.any (eqU x) by simp, any_eqU r fs]
    exact q
theorem op_notIn_str : OpR X (compareOp .NotIn) (fun x y H Q => ∃ i j, x = .str i ∧ y = .str j ∧ Q (.bl (!(!(Builtin.Str.occurrences j i 0 j.length 1).isEmpty))) H) := by
  intro pins s σ H x y v u Q I rx ry h
  obtain ⟨i, j, rfl, rfl, q⟩ := h
  obtain ⟨t, rfl⟩ := rx
  obtain ⟨t', rfl⟩ := ry
  exact notIn_str ⟨.bl _, H, I, rfl, q⟩

/-! ### len, list(x), tuple(x) of any list or tuple that is read -/
theorem call_len_seq : CallR X (.builtin "len") (fun xs H Q => ∃ p ys, xs = [.ref p] ∧ (SqL X.K H p ys ∨ SqT X.K H p ys) ∧ Q (.int ys.length) H) := by
  intro pins s σ H xs us Q I r h
  obtain ⟨p, ys, rfl, hq, q⟩ := h
  obtain ⟨u, rfl, rx⟩ := vals1 r
  cases rx
  have hn := line63
  rcases hq with hq | hq
  · obtain ⟨its, r', pl, hz⟩ := I.list hq
    have hlen := r'.length
    exact Calls.call_len_list pl.isList (by simp only [List.size_toArray] <;> omega) ⟨.int ys.length, H, I.tok _, ⟨s.toks + 1, by rw [List.size_toArray, hlen]⟩, q⟩
  · obtain ⟨its, r', pl, hz⟩ := I.tuple hq
    have hlen := r'.length
    exact len_tuple pl (by simp only [List.size_toArray] <;> omega) ⟨.int ys.length, H, I.tok _, ⟨s.toks + 1, by rw [List.size_toArray, hlen]⟩, q⟩
theorem call_len_str : CallR X (.builtin "len") (fun xs H Q => ∃ z, xs = [.str z] ∧ z.length ≤ sizeLine ∧ Q (.int z.length) H) := by
  intro pins s σ H xs us Q I r h
  obtain ⟨z, rfl, hz, q⟩ := h
  obtain ⟨u, rfl, t, rfl⟩ := vals1 r
  have hn := line63
  exact len_str (by omega) ⟨.int z.length, H, I.tok _, ⟨_, rfl⟩, q⟩
theorem CallR.or {f : Value} {r r' : List V → Hp → VK → Prop} (h : CallR X f r) (h' : CallR X f r') : CallR X f (fun xs H Q => r xs H Q ∨ r' xs H Q) := by
  intro pins s σ H xs us Q I rs q
  rcases q with q | q
  · exact h pins s σ H xs us Q I rs q
  · exact h' pins s σ H xs us Q I rs q
theorem call_list_of : CallR X (.type "list") (fun xs H Q => ∃ p ys, xs = [.ref p] ∧ (SqL X.K H p ys ∨ SqT X.K H p ys) ∧ ∀ l, H l = none → Q (.ref l) (upd H l (.lst ys))) := by
  intro pins s σ H xs us Q I r h
  obtain ⟨p, ys, rfl, hq, q⟩ := h
  obtain ⟨u, rfl, rx⟩ := vals1 r
  cases rx
  have fin : ∀ (its : List Value), Vals ys its → ys.length ≤ sizeLine → ∀ (h' : Heap) (c' : Nat), (∀ b o', s.heap.get? b = some o' → h'.get? b = some o') →
      h'.get? s.heap.objs.size = some { cls := .type "list", dict := none, data := .seq its.toArray c', slots := #[] } → EP X pins σ Q (.ref s.heap.objs.size) { s with heap := h' } := fun its r' hz h' c' kp e =>
    ⟨.ref s.heap.objs.size, _, I.laid (t' := s.toks) kp (Nat.le_refl _) (show ObjOk X.prog X.w _ h' _ (.lst ys) from ⟨hz, its, c', r', e⟩), rfl, q _ (I.hok.fresh (Nat.le_refl _))⟩
  rcases hq with hq | hq
  · obtain ⟨its, r', pl, hz⟩ := I.list hq
    have hlen := r'.length
    obtain ⟨o, ho, hc, n, hd⟩ := pl.isList
    exact call_list_seq p (.inl rfl) ho hc hd (fun h' c' kp e => fin its r' hz h' c' kp e) (by simp only [List.size_toArray] <;> omega)
  · obtain ⟨its, r', pl, hz⟩ := I.tuple hq
    have hlen := r'.length
    obtain ⟨o, ho, hc, n, hd⟩ := pl
    exact call_list_seq p (.inr rfl) ho hc hd (fun h' c' kp e => fin its r' hz h' c' kp e) (by simp only [List.size_toArray] <;> omega)
theorem call_tuple_of : CallR X (.type "tuple") (fun xs H Q => ∃ p ys, xs = [.ref p] ∧ ((SqL X.K H p ys ∧ ∀ l, H l = none → Q (.ref l) (upd H l (.tup ys))) ∨ (SqT X.K H p ys ∧ Q (.ref p) H))) := by
  intro pins s σ H xs us Q I r h
  obtain ⟨p, ys, rfl, h⟩ := h
  obtain ⟨u, rfl, rx⟩ := vals1 r
  cases rx
  rcases h with ⟨hq, q⟩ | ⟨hq, q⟩
  · obtain ⟨its, r', pl, hz⟩ := I.list hq
    have hlen := r'.length
    refine call_tuple_list pl.isList (fun h' kp => ?_) (by simp only [List.size_toArray] <;> omega)
    have I1 : Inv X pins σ H { s with heap := h' } := I.kept (t' := s.toks) kp
    have I2 : Inv X pins σ (upd H h'.objs.size (.tup ys)) { s with heap := h'.push { cls := .type "tuple", data := .seq its.toArray } } :=
      I1.laid (t' := s.toks) (fun b o e => Heap.get?_push_of_some _ e) (Nat.le_refl _) (show ObjOk X.prog X.w _ _ _ (.tup ys) from ⟨hz, its, r', IsTup.new _ _⟩)
    exact ⟨.ref h'.objs.size, _, I2, rfl, q _ (I1.hok.fresh (Nat.le_refl _))⟩
  · obtain ⟨its, r', pl, hz⟩ := I.tuple hq
    exact call_tuple_same pl ⟨.ref p, H, I, rfl, q⟩

/-! ### the call of a builtin's method: o.m(..) -/
/-- the value is of that builtin type -/
def tyV (K : PySem.W.Frag) (T : String) (x : V) (H : Hp) : Prop := match x with
  | .str _ => T = "str"
  | .int _ => T = "int"
  | .ref p => (T = "list" ∧ ∃ xs, SqL K H p xs) ∨ (T = "tuple" ∧ ∃ o, K.lookup p = some o ∧ o.cls = .type "tuple" ∧ o.dict = none) ∨
      (T = "dict" ∧ ((∃ kvs, H p = some (.dK kvs)) ∨ ∃ kvs, H p = some (.dT kvs))) ∨ (T = "set" ∧ ∃ S n, H p = some (.set S n))
  | _ => False
theorem tyV_is {pins : List (Addr × Obj)} {σ : St} {H : Hp} {s : Shared} {T : String} {x : V} {v : Value} (I : Inv X pins σ H s) (r : RelV x v) (ty : tyV X.K T x H) :
    s.TypeIs v T ∧ ∀ a, v = .ref a → ∃ ob, s.heap.get? a = some ob ∧ ob.dict = none := by
  cases x with
  | str z =>
    obtain ⟨t, rfl⟩ := r
    cases (show T = "str" from ty)
    exact ⟨typeIs_str s z t, fun _ e => nomatch e⟩
  | int i =>
    obtain ⟨t, rfl⟩ := r
    cases (show T = "int" from ty)
    exact ⟨typeIs_int s i t, fun _ e => nomatch e⟩
  | ref p =>
    cases r
    rcases ty with ⟨rfl, xs, hq⟩ | ⟨rfl, o, hk, hc, hd⟩ | ⟨rfl, hk⟩ | ⟨rfl, S, n, hk⟩
    · obtain ⟨its, _, pl, _⟩ := I.list hq
      refine ⟨pl.isList.typeIs, fun a e => ?_⟩
      cases e
      obtain ⟨o, n, e, c, hd, _⟩ := pl
      exact ⟨o, e, hd⟩
    · refine ⟨⟨o, I.kIn p o hk, hc⟩, fun a e => ?_⟩
      cases e
      exact ⟨o, I.kIn _ o hk, hd⟩
    · have z : ∃ o, s.heap.get? p = some o ∧ o.ExactDict := by
        rcases hk with ⟨kvs, hk⟩ | ⟨kvs, hk⟩
        · obtain ⟨_, _, _, _, o, _, _, e, ex, _⟩ := I.hok p _ hk
          exact ⟨o, e, ex⟩
        · obtain ⟨_, _, _, _, o, _, _, e, ex, _⟩ := I.hok p _ hk
          exact ⟨o, e, ex⟩
      obtain ⟨o, e, ex⟩ := z
      refine ⟨⟨o, e, ex.1⟩, fun a e2 => ?_⟩
      cases e2
      exact ⟨o, e, ex.2.1⟩
    · obtain ⟨o, _, _, _, e, ex, _⟩ := I.hok p _ hk
      refine ⟨⟨o, e, ex.1⟩, fun a e2 => ?_⟩
      cases e2
      exact ⟨o, e, ex.2.1⟩
  | _ => exact False.elim ty
def tBM0 (K : PySem.W.Frag) (T : String) (r : V → List V → Hp → VK → Prop) (to : TE) : TE := fun σ H Q => to σ H fun x H1 => tyV K T x H1 ∧ r x [] H1 Q
def tBM (K : PySem.W.Frag) (T : String) (r : V → List V → Hp → VK → Prop) (to : TE) (t : TA) : TE := fun σ H Q => to σ H fun x H1 => tyV K T x H1 ∧ t σ H1 fun xs H2 => r x xs H2 Q
variable {o e : Expr} {es : List Expr} {to : TE} {t : TA} {name : Str} {apos cpos : Pos} {T id : String} {r : V → List V → Hp → VK → Prop}
theorem pe_bm0 (pa : PlainAttrs T) (slot : Slot T name id) (hty : typeOf (.builtin id) = pure (.type "method_descriptor")) (hm : MtR X id r) (ho : PE X o to)
    (hbase : attributeBase o name X.env (eval o X.env) = eval o X.env := by rfl) (hline : (apos.endLine == cpos.line) = true := by rfl) : PE X (.Call (.Attribute o name apos) [] [] cpos) (tBM0 X.K T r to) := by
  intro pins s σ H Q I h
  refine wpAny_Call_method0_late hbase hline (thn (ho pins s σ H _ I h) fun v s1 ⟨x, H1, I1, r1, ty, q1⟩ => ?_)
  obtain ⟨h1, h2⟩ := tyV_is I1 r1 ty
  exact ⟨T, id, pa, slot, hty, h1, h2, Calls.callWith_builtin rfl (PySem.evalArgs_none (hm pins s1 σ H1 x [] v [] Q I1 r1 .nil q1))⟩
theorem pe_bm (pa : PlainAttrs T) (slot : Slot T name id) (hty : typeOf (.builtin id) = pure (.type "method_descriptor")) (hm : MtR X id r) (ho : PE X o to) (ha : PA X (e :: es) t)
    (hbase : attributeBase o name X.env (eval o X.env) = eval o X.env := by rfl)
    (hfew : ((backTo cpos (starEach (e :: es) X.env)).all (fun x => !x.1) && (backToKw cpos (keywordEach [] X.env)).all (fun x => x.1.isSome)
      && decide ((e :: es).length + ([] : List Keyword).length + (if ([] : List Keyword).isEmpty then 0 else 1) < 30)) = true := by rfl)
    (hline : (apos.endLine == cpos.line) = true := by rfl) (hs : starEach (e :: es) X.env = (false, eval e X.env) :: starEach es X.env := by rfl) (hplain : (backTo cpos (starEach es X.env)).any (·.1) = false := by rfl) :
    PE X (.Call (.Attribute o name apos) (e :: es) [] cpos) (tBM X.K T r to t) := by
  intro pins s σ H Q I h
  refine wpAny_Call_method_late hbase hfew hline rfl (thn (ho pins s σ H _ I h) fun v s1 ⟨x, H1, I1, r1, ty, q1⟩ => ?_)
  obtain ⟨h1, h2⟩ := tyV_is I1 r1 ty
  refine ⟨T, id, pa, slot, hty, h1, h2, ?_⟩
  have hA := ha cpos pins s1 σ H1 _ I1 q1
  rw [hs] at hA ⊢
  refine Calls.callWith_builtin (by show (false || (backTo cpos (starEach es X.env)).any (·.1)) = false; rw [hplain] <;> rfl) (Calls.evalArgs_plain ?_)
  exact thn hA fun us s2 ⟨vs, H2, I2, r2, q2⟩ => hm pins s2 σ H2 x vs v us Q I2 r1 r2 q2
/- xs.append(e), list.index on a module's tuple .. are MtR facts of 06m -/
end
end L2

namespace L2
open PySem PySem.Spec PyProof.Rows

def MtM (X : Cx) (id : String) (r : V → List V → Hp → VK → Prop) : Prop :=
  ∀ (pins : List (Addr × Obj)) (s : Shared) (σ : St) (H : Hp) (x : V) (xs : List V) (v : Value) (us : List Value) (Q : VK), Inv X pins σ H s → RelV x v → Vals xs us → r x xs H Q →
    wpAny (model X.prog X.w) X.A (call (.builtin id) (v :: us)) (EP X pins σ Q) X.xe s

/-! ### lists of values -/
theorem Vals.one : ∀ {x : V} {us : List Value}, Vals [x] us → ∃ u, us = [u] ∧ RelV x u
  | _, _, .cons r .nil => ⟨_, rfl, r⟩
theorem Vals.two : ∀ {x y : V} {us : List Value}, Vals [x, y] us → ∃ u v, us = [u, v] ∧ RelV x u ∧ RelV y v
  | _, _, _, .cons r (.cons q .nil) => ⟨_, _, rfl, r, q⟩
theorem Vals.zero : ∀ {us : List Value}, Vals [] us → us = []
  | _, .nil => rfl
theorem Vals.dropLast {xs : List V} {us : List Value} (h : Vals xs us) : Vals xs.dropLast us.dropLast := by
  induction h with
  | nil => exact .nil
  | cons r t ih =>
    cases t with
    | nil => exact .nil
    | cons q t' => exact .cons r ih
theorem Vals.eraseIdx : ∀ {xs : List V} {us : List Value} (i : Nat), Vals xs us → Vals (xs.eraseIdx i) (us.eraseIdx i)
  | _, _, _, .nil => .nil
  | _, _, 0, .cons _ t => t
  | _, _, i + 1, .cons r t => .cons r (Vals.eraseIdx i t)
theorem len_erase {α : Type} : ∀ (l : List α) (i : Nat), (l.eraseIdx i).length ≤ l.length
  | [], _ => Nat.le_refl _
  | _ :: _, 0 => Nat.le_succ _
  | _ :: r, i + 1 => Nat.succ_le_succ (len_erase r i)
section
variable {X : Cx} {pins : List (Addr × Obj)} {σ : St} {H : Hp} {s : Shared} {l b : Addr} {xs ys zs : List V}

/-! ### the two steps: a tracked list is rewritten, a new list is laid -/
theorem Inv.lset {its its' : List Value} {n : Nat} {f : Array Value → Array Value} {t' : Nat} (I : Inv X pins σ H s) (hH : H l = some (.lst xs))
    (e : s.heap.get? l = some { cls := .type "list", data := .seq its.toArray n }) (hf : f its.toArray = its'.toArray) (hv : Vals ys its') (hz : ys.length ≤ sizeLine) :
    Inv X pins σ (upd H l (.lst ys)) { s with heap := s.heap.update l (Obj.mapSeq f), toks := t' } := by
  have q := PySem.IsL.update e f
  rw [hf] at q
  refine I.write (x := l) (e := l) (by rw [hH]; exact trivial) (.inl rfl) (fun b' u hb hu => (Heap.get?_update_other s.heap (Obj.mapSeq f) (Ne.symm hb)).trans hu) ⟨_, q⟩ ?_
  exact ⟨hz, its', _, hv, q⟩
theorem Inv.lnew {its : List Value} {t' : Nat} (I : Inv X pins σ H s) (hv : Vals ys its) (hz : ys.length ≤ sizeLine) :
    Inv X pins σ (upd H s.heap.objs.size (.lst ys)) { s with heap := s.heap.push { cls := .type "list", data := .seq its.toArray }, toks := t' } :=
  I.laid (fun _ _ q => Heap.get?_push_of_some _ q) (Nat.le_refl _) ⟨hz, its, 0, hv, Heap.get?_push_size _ rfl⟩
theorem Inv.fresh (I : Inv X pins σ H s) : H s.heap.objs.size = none := I.hok.fresh (Nat.le_refl _)
theorem Inv.lstM (I : Inv X pins σ H s) (hH : H l = some (.lst xs)) : xs.length ≤ sizeLine ∧ ∃ (its : List Value) (n : Nat), Vals xs its ∧ xs.length = its.length ∧ s.heap.get? l = some { cls := .type "list", data := .seq its.toArray n } := by
  obtain ⟨z, its, n, r, e⟩ := I.hok l _ hH
  exact ⟨z, its, n, r, r.length, e⟩

theorem notLongL {n : Nat} (h : n ≤ sizeLine) : Builtin.List.listTooLong n = false := by
  unfold Builtin.List.listTooLong
  exact decide_eq_false (by omega)
end

section
variable {X : Cx}

/-! ### methods -/
def rAppend : V → List V → Hp → VK → Prop := fun x vs H Q => ∃ l xs y, x = .ref l ∧ vs = [y] ∧ H l = some (.lst xs) ∧ xs.length < sizeLine ∧ Q .non (upd H l (.lst (xs ++ [y])))
theorem mt_append : MtM X "list.append" rAppend := by
  intro pins s σ H x vs v us Q I rx rv h
  obtain ⟨l, xs, y, rfl, rfl, hH, hz, q⟩ := h
  cases rx
  obtain ⟨u, rfl, ru⟩ := rv.one
  obtain ⟨z, its, n, r, hl, e⟩ := I.lstM hH
  refine call_meets F.slot_list_append ⟨_, e, rfl⟩ F.entry_list_append (F.args_list_append_2 _ _) (PySem.list_append l its.toArray n u (by rw [List.size_toArray]; omega)) ⟨e, ?_⟩
  refine ⟨.non, _, I.lset (its' := its ++ [u]) hH e (by simp) (r.append (.cons ru .nil)) ?_, rfl, q⟩
  rw [List.length_append, List.length_singleton]
  omega

def rExtend : V → List V → Hp → VK → Prop := fun x vs H Q => ∃ l b xs zs, x = .ref l ∧ vs = [.ref b] ∧ H l = some (.lst xs) ∧ H b = some (.lst zs) ∧ xs.length + zs.length ≤ sizeLine ∧ Q .non (upd H l (.lst (xs ++ zs)))
theorem mt_extend : MtM X "list.extend" rExtend := by
  intro pins s σ H x vs v us Q I rx rv h
  obtain ⟨l, b, xs, zs, rfl, rfl, hH, hB, hz, q⟩ := h
  cases rx
  obtain ⟨u, rfl, ru⟩ := rv.one
  cases ru
  obtain ⟨z, its, n, r, hl, e⟩ := I.lstM hH
  obtain ⟨z2, its2, n2, r2, hl2, e2⟩ := I.lstM hB
  have hsz : its.toArray.size + its2.toArray.size ≤ sizeLine := by rw [List.size_toArray, List.size_toArray]; omega
  have hlong : ¬ (!its.toArray.isEmpty && Builtin.List.listTooLong (its.toArray.size + its2.toArray.size)) = true := by
    rw [notLongL hsz, Bool.and_false]
    exact Bool.false_ne_true
  refine call_meets F.slot_list_extend ⟨_, e, rfl⟩ F.entry_list_extend (F.args_list_extend_2 _ _)
    (AutoSeq1.list_extend_list_list_0 l its.toArray n b its2.toArray n2 hlong (by rw [List.size_toArray]; omega) (by omega)) ⟨e, e2, ?_⟩
  refine ⟨.non, _, I.lset (its' := its ++ its2) hH e (by simp) (r.append r2) ?_, rfl, q⟩
  rw [List.length_append]
  omega

def rPopAt : V → List V → Hp → VK → Prop := fun x vs H Q => ∃ l xs i k y, x = .ref l ∧ vs = [.int i] ∧ H l = some (.lst xs) ∧ -(2 ^ 63) ≤ i ∧ i < 2 ^ 63 ∧ seqIndex? i xs.length = some k ∧ xs[k]? = some y ∧ Q y (upd H l (.lst (xs.eraseIdx k)))
theorem mt_popAt : MtM X "list.pop" rPopAt := by
  intro pins s σ H x vs v us Q I rx rv h
  obtain ⟨l, xs, i, k, y, rfl, rfl, hH, h1, h2, hk, hy, q⟩ := h
  cases rx
  obtain ⟨u, rfl, ru⟩ := rv.one
  obtain ⟨t, rfl⟩ := ru
  obtain ⟨z, its, n, r, hl, e⟩ := I.lstM hH
  obtain ⟨w, hw, rw'⟩ := r.get hy
  refine call_meets F.slot_list_pop ⟨_, e, rfl⟩ F.entry_list_pop (F.args_list_pop_2 _ _)
    (MeetsSeq.list_pop_at l its.toArray n i t k w (fitsIndex_both h1 h2) (by rw [List.size_toArray, ← hl]; exact hk) (by rw [← Array.getElem?_toList]; exact hw) (by rw [List.size_toArray]; omega)) ⟨e, ?_⟩
  refine ⟨y, _, I.lset (its' := its.eraseIdx k) hH e ?_ (r.eraseIdx k) ?_, rw', q⟩
  · show its.toArray.eraseIdxIfInBounds k = (its.eraseIdx k).toArray
    rw [List.eraseIdxIfInBounds_toArray]
  · have := len_erase xs k
    omega

/-! ### list + list, list += list, list * int -/
def rCat : R2 := fun x y H Q => ∃ l b xs zs, x = .ref l ∧ y = .ref b ∧ H l = some (.lst xs) ∧ H b = some (.lst zs) ∧ xs.length + zs.length ≤ sizeLine ∧ ∀ p, H p = none → Q (.ref p) (upd H p (.lst (xs ++ zs)))
theorem op_cat : OpR X (binaryOp .Add) rCat := by
  intro pins s σ H x y v u Q I rx ry h
  obtain ⟨l, b, xs, zs, rfl, rfl, hH, hB, hz, q⟩ := h
  cases rx
  cases ry
  obtain ⟨z, its, n, r, hl, e⟩ := I.lstM hH
  obtain ⟨z2, its2, n2, r2, hl2, e2⟩ := I.lstM hB
  refine PySem.P.add_list e e2 ?_ (by rw [List.size_toArray, List.size_toArray]; omega)
  have ea : its.toArray ++ its2.toArray = (its ++ its2).toArray := by simp
  rw [ea]
  exact ⟨.ref _, _, I.lnew (t' := s.toks) (r.append r2) (by rw [List.length_append]; omega), rfl, q _ I.fresh⟩
/-! ### del xs[i] -/
end

/-! ### xs[a:b] = ys -/
section
variable {prog : Program} {w : World} {A : Around} {E : Value → Shared → Prop} {s : Shared}
end

section
variable {X : Cx}
end
end L2

namespace Att
open PySem PySem.W PySem.Calls PyProof.Rows

/-! ### the script -/
theorem ints_of_wellAll {P : Params} {h : Heap} : ∀ (ns : List Int) (vs : List Value), WellAll P h vs (ns.map WData.int) → IntsAre vs ns := by
  intro ns
  induction ns with
  | nil =>
    intro vs w
    rw [List.map_nil] at w
    cases w
    exact .nil
  | cons n ns ih =>
    intro vs w
    rw [List.map_cons] at w
    cases w with
    | cons a b =>
      cases a
      exact .cons _ _ (ih _ b)

theorem script_of {l : OpenLaw} {n : Nat} (hn : l.most = some n) {P : Params} {h : Heap} {args : List WData} {vals : List Value}
    (hpre : l.row.toRowW.claim.pre args = true) (hwl : WellAll P h vals args) :
    ∃ a vs ns, vals = [Value.ref a] ∧ args = [WData.list (ns.map WData.int)] ∧ h.get? a = some { cls := .type "list", data := .seq vs.toArray } ∧ IntsAre vs ns ∧ ns.length ≤ n := by
  have hsh : WShape.hasAll [] args [.list .int] = true := (pre_splitW hpre).1
  have hc : l.pre.holds [] { args := args } = true := (pre_splitW hpre).2
  obtain ⟨d, r, rfl, h1, h2⟩ := hasAllW_cons hsh
  obtain rfl := hasAllW_nil h2
  obtain ⟨xs, rfl, h3⟩ := hasW_list h1
  obtain ⟨ns, rfl⟩ := items_int h3
  have hlen : ns.length ≤ n := by
    unfold OpenLaw.pre at hc
    have h4 : (WTm.not (.lt (.lit (.int (n : Int))) (.len (.arg 0)))).holds [] { args := [.list (ns.map .int)] } = true := by
      have h4 := (holds_andW hc).1
      rw [hn] at h4
      exact h4
    have h5 := condW_of h4 (w_not (w_lt w_lit (w_len_list (w_arg rfl))))
    rw [List.length_map] at h5
    refine Nat.le_of_not_lt fun q => ?_
    have q' : (n : Int) < ((ns.length : Nat) : Int) := by omega
    first
      | (rw [decide_eq_true q'] at h5; exact absurd h5 (by decide))
      | (simp at h5; omega)
  cases hwl with
  | cons w1 w2 =>
    cases w2
    cases w1 with
    | list ho hall => exact ⟨_, _, ns, rfl, rfl, ho, ints_of_wellAll ns _ hall, hlen⟩

theorem post_true (l : OpenLaw) (args : List WData) : l.row.toRowW.claim.post args (.bool true) args = true :=
  postW_of (r := l.row.toRowW) (X := (true == true))
    (show WShape.has [] (.bool true) .bool = true by first | rfl | decide | simp [WShape.has, WShape.arms, WShape.armsAll])
    (show (WTm.eq .res (.lit (.bool true))).value [] { args := args, res := some (.bool true), after := args } = some (.bool (true == true)) from w_eq_bool (w_res rfl) w_lit) rfl

/-! ### the attachment: holds_open's last premise (the goal 'hc' behind k_head) from a wpAny of the law's body -/
/-- the same from a codeAny of the CALL (for a layer whose function contracts speak of calls) -/
theorem attach_call {l : OpenLaw} {n : Nat} {q : Program} {loose : List Str} {XP : (Str → Option Value) → Heap → Prop} {YP : World → Heap → Prop} {d : DefRec}
    (hn : l.most = some n) (hdf : d.params.defaults = [])
    (call : ∀ (w : World) (s₀ s₁ : Shared) (mg mb : Str → Option Value) (fa : Addr) (o : Obj) (pm cd doc : Value) (a : Addr) (vs : List Value) (ns : List Int),
      Ground q loose [] XP w s₀ mg mb s₁.heap → YP w s₁.heap →
      s₁.heap.get? fa = some o → o.data = .func (docDef d.name d.params d.body d.scope pm cd doc) → s₁.heap.CodeRec cd d.name → mg d.name = some (.ref fa) →
      s₁.heap.get? a = some { cls := .type "list", data := .seq vs.toArray } → IntsAre vs ns → ns.length ≤ n → s₁.gens = #[] →
      codeAny (model l.prog w) callerA (.call (.ref fa) ⟨[.ref a], []⟩) (fun r s' => r = .ok (.ret (.bool true)) ∧ OldK s₁.heap s'.heap ∧ s'.os = s₁.os ∧ AllBare s'.gens) s₁) :
    WalkO q loose XP YP l.row.toRowW d [] (fun f vs => PySem.call f vs) := by
  intro w s₀ s₁ mg mb G Y fa o pm cd doc dV kV ho hd hcd hD hmg hg args vals as hpre hlay hrd hwl hlo
  obtain rfl : dV = .none := Dflts.none hD hdf
  obtain rfl : kV = .none := Dflts.noKw hD
  obtain ⟨a, vs, ns, rfl, rfl, hobj, hints, hlen⟩ := script_of hn hpre hwl
  refine enter_call (codeAny_mono (call w s₀ s₁ mg mb fa o pm cd doc a vs ns G Y ho (fd_plain hd) hcd hmg hobj hints hlen hg) fun r s' hq => ?_)
  obtain ⟨rfl, h2, h3, h4⟩ := hq
  exact ⟨.inl ⟨.bool true, .bool true, [], rfl, fun _ => rfl, .bool true, post_true l _, fun _ => ⟨List.Pairwise.nil, fun _ hm => (nomatch hm)⟩⟩, h2, h3, h4⟩

/-! ### rules over ANY heap (no ledger) from facts about the written part K: the library's own take a ledger (News) for what they write -/
section
variable {prog : Program} {w : World} {A : Around} {E : Value → Shared → Prop} {s : Shared} {K : Frag}

/-! the whole heap as the ledger: makes every rule that writes through a ledger a rule over any heap -/
def ledger (h : Heap) (L d : Addr) : List (Addr × Obj) := (List.range h.objs.size).filterMap fun a => if a = L ∨ a = d then none else (h.get? a).map fun o => (a, o)
end
end Att

namespace L2
open PySem PySem.Spec PyProof.Rows

theorem vals_ints : ∀ {vs : List Value} {ns : List Int}, IntsAre vs ns → Vals (ns.map V.int) vs
  | _, _, .nil => .nil
  | _, _, .cons n t h => .cons ⟨t, rfl⟩ (vals_ints h)

/-- nothing is tracked but the script, known to the object (or it is an object of the module) -/
def Only (H : Hp) : Prop := ∀ b, H b = none ∨ ∃ o xs, H b = some (.frz o (.lst xs))

/-- THE HEAD: the law's promise, at the heap behind the top. F, the promise of the law's def, may use that base is part of the heap (so K.In base, base.Ns mainGlobals mg stand in Mod) -/
theorem law_call {P : Program} {w : World} {K : PySem.W.Frag} {mg mb : Str → Option Value} {CX : CXT} {k : Nat} {fa a : Addr} {fd : FuncData} {x : Str} {sp : Sp} {s₁ : Shared} {vs : List Value} {ns : List Int}
    (KX : K.In s₁.heap) (hns : s₁.heap.Ns mainGlobals mg) (hb : s₁.heap.Ns builtinsNs mb) (hbb : ∀ x : Str, x ≠ "__name__" → mb x = bootBuiltins x) (hlim : s₁.heap.NoLimit) (hg : s₁.gens = #[])
    (ha : s₁.heap.get? a = some { cls := .type "list", data := .seq vs.toArray }) (hi : IntsAre vs ns) (hl : ns.length ≤ sizeLine) (hr : Room k callerA)
    (F : ∀ base : Heap, K.In base → base.Ns mainGlobals mg → FnOk P w K mg base CX k fa fd [x] sp) (hbind : ∀ (s : Shared) (u : Value), BindsTo s fd ⟨[u], []⟩ [(x, u)])
    (hsp : ∀ H : Hp, Only H → SqL K H a (ns.map V.int) → sp [.ref a] H (fun v _ => v = .bl true) fun _ _ _ => False)
    (hCX : ∀ H e s', CX [] H s₁ (fun _ _ _ => False) e s' → False) :
    codeAny (model P w) callerA (.call (.ref fa) ⟨[.ref a], []⟩) (fun r s' => r = .ok (.ret (.bool true)) ∧ OldK s₁.heap s'.heap ∧ s'.os = s₁.os ∧ AllBare s'.gens) s₁ := by
  have rv := vals_ints hi
  have lenV := hi.length
  -- from an abstract heap in which nothing but the script may be tracked
  have core : ∀ H : Hp, Only H → SqL K H a (ns.map V.int) → HOk P w H s₁.heap → (∀ b, H b ≠ none → b = a) → (H a ≠ none → K.lookup a = none) →
      codeAny (model P w) callerA (.call (.ref fa) ⟨[.ref a], []⟩) (fun r s' => r = .ok (.ret (.bool true)) ∧ OldK s₁.heap s'.heap ∧ s'.os = s₁.os ∧ AllBare s'.gens) s₁ := by
    intro H hO hS hok hA hK
    have base_of : ∀ {b : Addr} {o : Obj}, s₁.heap.get? b = some o → H b = none → (hidT s₁.heap H).get? b = some o := fun e n => hidT_get e n
    have noA : ∀ {b : Addr} {o : Obj} {es : Array DictEntry} {ep : Nat}, s₁.heap.get? b = some o → o.data = .dict es ep → H b = none := fun {b o es ep} e d => by
      cases q : H b with
      | none => rfl
      | some u =>
        have e' : b = a := hA b (by rw [q]; simp)
        subst e'
        rw [ha] at e; cases e
        have d' : Data.seq vs.toArray _ = Data.dict es ep := d
        cases d'
    have nsK : ∀ {b : Addr} {m : Str → Option Value}, s₁.heap.Ns b m → (hidT s₁.heap H).Ns b m := fun {b m} ⟨o, es, ep, e, d, r⟩ => ⟨o, es, ep, base_of e (noA e d), d, r⟩
    have hKb : K.In (hidT s₁.heap H) := fun b o e => base_of (KX b o e) (by
      cases q : H b with
      | none => rfl
      | some u =>
        have e' : b = a := hA b (by rw [q]; simp)
        subst e'
        rw [hK (by rw [q]; simp)] at e; cases e)
    have hM : Mod K mg (hidT s₁.heap H) := ⟨hKb, nsK hns, ⟨mb, nsK hb, hbb⟩, let ⟨mc, h1, h2⟩ := hlim; ⟨mc, nsK h1, h2⟩⟩
    have e0 : Env0 P w K mg (hidT s₁.heap H) callerA [] s₁ H := ⟨rfl, hM, fun b o e => of_hidT e, Nat.le_of_eq (hidT_size _ _), trivial, fun b hb => absurd (show b ∈ ([] : List Addr) from hb) (by simp), hok, .of_eq hg⟩
    refine codeAny_mono ((F _ hKb (nsK hns)).run callerA [] s₁ H ⟨[.ref a], []⟩ [.ref a] [.ref a] _ _ hr e0 (hbind s₁ (.ref a)) (.cons rfl .nil) (hsp H hO hS)) fun r s' h => ?_
    cases r with
    | error e => exact (hCX H e s' h).elim
    | ok fl =>
      cases fl with
      | next => exact False.elim h
      | brk => exact False.elim h
      | cont => exact False.elim h
      | ret u =>
        obtain ⟨v, H', os, bare, un, hok', r', q⟩ := h
        have q' : v = .bl true := q
        subst q'
        obtain rfl : u = Value.bool true := r'
        refine ⟨rfl, OldK.of_keep fun b o e => ?_, os, bare⟩
        cases q : H b with
        | none => exact un.keep b o e q (by intro z; exact absurd (show b ∈ ([] : List Addr) from z) (by simp)) (by simp)
        | some u =>
          rcases hO b with z | ⟨ob, xs, z⟩
          · rw [q] at z; cases z
          · have z2 := un.frzs b ob _ z
            obtain ⟨e1, _⟩ := hok b _ z
            obtain ⟨e2, _⟩ := hok' b _ z2
            rw [e] at e1; cases e1
            exact e2
  cases hk : K.lookup a with
  | some o =>
    -- the script is one of the module's own objects
    have e := KX a o hk
    rw [ha] at e
    cases e
    refine core (fun _ => none) (fun _ => .inl rfl) (.inr ⟨_, vs.toArray, _, hk, rfl, rfl, rfl, by rw [List.size_toArray, lenV]; exact hl, by simpa using rv⟩) (fun b u z => by have z' : (none : Option HO) = some u := z; cases z') (fun b z => absurd rfl z) fun z => absurd rfl z
  | none =>
    refine core (fun b => if b = a then some (.frz { cls := .type "list", data := .seq vs.toArray } (.lst (ns.map V.int))) else none) (fun b => ?_) (.inl (.inr ⟨{ cls := .type "list", data := .seq vs.toArray }, if_pos rfl⟩)) (fun b u z => ?_) (fun b z => ?_) fun _ => hk
    · by_cases hb : b = a
      · exact .inr ⟨_, _, if_pos hb⟩
      · exact .inl (if_neg hb)
    · by_cases hb : b = a
      · have z' := (if_pos hb).symm.trans z
        cases z'
        subst hb
        exact ⟨ha, by rw [List.length_map]; exact hl, vs, _, rv, ha⟩
      · have z' := (if_neg hb).symm.trans z
        cases z'
    · by_cases hb : b = a
      · exact hb
      · exact absurd (if_neg hb) z
end L2

namespace L2
open PySem PySem.Spec PyProof.Rows

abbrev KOf {K : PySem.W.Frag} {h : Heap} (_ : K.In h) : PySem.W.Frag := K

/-- the goal that k_head leaves (case hc), from the law's promise. F gives the function object fd (K's own) once, then the promise over every base -/
theorem walk_of {l : PySem.W.OpenLaw} {n k : Nat} {q : Program} {loose : List Str} {XP : (Str → Option Value) → Heap → Prop} {YP : World → Heap → Prop} {d : DefRec} {K : Params → PySem.W.Frag} {CX : World → CXT} {sp : World → Sp} {x : Str}
    (hn : l.most = some n) (hn2 : n ≤ sizeLine) (hdf : d.params.defaults = []) (hr : Room k callerA)
    (hY : ∀ (w : World) (h : Heap), YP w h → (K w.params).In h)
    (F : ∀ (w : World) (mg : Str → Option Value) (fa : Addr) (h : Heap), (K w.params).In h → h.Ns mainGlobals mg → mg d.name = some (.ref fa) →
      ∃ fd : FuncData, (∀ (s : Shared) (u : Value), BindsTo s fd ⟨[u], []⟩ [(x, u)]) ∧
        ∀ base : Heap, (K w.params).In base → base.Ns mainGlobals mg → FnOk l.prog w (K w.params) mg base (CX w) k fa fd [x] (sp w))
    (hsp : ∀ (w : World) (H : Hp) (a : Addr) (ns : List Int), ns.length ≤ n → Only H → SqL (K w.params) H a (ns.map V.int) → sp w [.ref a] H (fun v _ => v = .bl true) fun _ _ _ => False)
    (hCX : ∀ (w : World) (H : Hp) (s : Shared) (e : Value) (s' : Shared), CX w [] H s (fun _ _ _ => False) e s' → False) :
    PySem.W.WalkO q loose XP YP l.row.toRowW d [] (fun f vs => PySem.call f vs) := by
  refine Att.attach_call hn hdf fun w s₀ s₁ mg mb fa o pm cd doc a vs ns G Y ho hd hcd hmg hobj hints hlen hg => ?_
  have KX := hY w _ Y
  obtain ⟨fd, hb, hF⟩ := F w mg fa _ KX G.T.g hmg
  exact law_call KX G.T.g G.T.b G.T.builtins G.T.nolimit hg hobj hints (Nat.le_trans hlen hn2) hr hF hb (fun H hO hS => hsp w H a ns hlen hO hS) fun H e s' => hCX w H s₁ e s'
end L2

/- THE LAST THEOREM (shape; LID, My.* are yours):
   My.Adr: a structure of the addresses that your layer names (classes, functions); My.Txt K t: a structure (Prop) of the equations over K;
   My.txt_mk : {K} {implicit addresses ..} (e1 : nsIn K mainGlobals "law" = some (some (.ref f))) (e2 : K.lookup f = some ⟨oc, od, .func (fnOf "law" "law" params body scope dV kV doc pm an cdv ct), sl⟩) (e3 : codeIn K cdv "law" = true) .. : ∃ t, My.Txt K t

set_option maxRecDepth 100000 in
set_option maxHeartbeats 0 in
theorem PySem.Challenge.cw_LID_holds : PySem.Challenge.rw_LID.Holds := by
  w_on; o_law; k_head; (case hw => w_witness2)
  k_fill
  refine L2.walk_of (l := PySem.Challenge.rw_LID) (n := 63) (k := 40) (x := "script") (CX := fun w => ..) (sp := fun _ => My.sp_law) rfl (by decide) rfl ⟨rfl, by decide, by decide⟩ (fun w h Y => PySem.W.kIn_of Y) ?F ?S ?C
  case F =>
    intro w mg fa h KX G hmg
    have T : ∃ t, My.Txt (L2.KOf KX) t := by
      dsimp only [L2.KOf]                          -- K must stand as «<heap const> w.params» for k_is
      refine' My.txt_mk ?e1 ?e2 ?e3 ..
      (case e1 => PySem.W.k_is)                    -- in the order: a name -> its address -> its object -> its parts
      (case e2 => PySem.W.k_is)
      ..
    obtain ⟨t, T⟩ := T
    have e0 := hmg.symm.trans (PySem.W.mg_of KX G T.law)
    cases e0                                       -- fa is the law's own address
    exact ⟨_, fun s u => .of_eq rfl, fun base kb nb => My.law_fn T kb nb⟩     -- if «.of_eq rfl» comes too early: refine' ⟨_, ?b, fun base kb nb => My.law_fn T kb nb⟩; exact fun s u => .of_eq rfl
  case S => exact fun w H a ns hl hO hS => ..
  case C => exact ..
(the tactic k_is has no namespace: write k_is) -/

/-! SHORT WORDS over the layer: a def of the text, its body, what a loop and a test want. -/
namespace L2
open PySem PySem.Spec PyProof.Rows

/-! ### the text by places -/
def defArgs (s : Stmt) : Arguments := match s with
  | .FunctionDef _ a _ _ _ _ _ _ _ _ => a
  | _ => { posonlyargs := [], args := [], vararg := none, kwonlyargs := [], kw_defaults := [], kwarg := none, defaults := [] }
def defBody (s : Stmt) : List Stmt := match s with
  | .FunctionDef _ _ b _ _ _ _ _ _ _ => b
  | _ => []
def defScope (s : Stmt) : Scope := match s with
  | .FunctionDef _ _ _ _ _ _ sc _ _ _ => sc
  | _ => { kind := .function, names := [], isGenerator := false, isCoroutine := false }

/-! ### no exception leaves a def -/
abbrev CX0 : CXT := fun _ _ _ _ _ _ => False
abbrev E0 : XK := fun _ _ _ => False
theorem pass0 {X : Cx} : Passes CX0 X E0 := fun _ _ _ _ _ _ _ h => h.elim

/-! ### a def (or method) of the text as it stands behind the top -/
structure Fun (K : PySem.W.Frag) (x qual : Str) (st : Stmt) (f : Addr) (fd : FuncData) : Prop where
  ex : ∃ (oc : Value) (od : Option Addr) (kV doc pm : Value) (an : Option Addr) (cdv ct : Value) (osl : Array (Option Value)),
    fd = PySem.W.fnOf x qual (defArgs st) (defBody st) (defScope st) .none kV doc pm an cdv ct ∧ K.lookup f = some ⟨oc, od, .func fd, osl⟩ ∧ PySem.W.codeIn K cdv qual = true
  kp : PySem.W.keepIn K (.ref f) = true
section
variable {P : Program} {w : World} {K : PySem.W.Frag} {mg : Str → Option Value} {base : Heap}
/-- THE RULE for a def: its body as a term of rules, and the reading of that term -/
theorem Fun.ok {x qual : Str} {st : Stmt} {f : Addr} {fd : FuncData} {N ps : List Str} {k : Nat} {sp : Sp} (F : Fun K x qual st f fd) (S : FnScope N ps (defScope st)) (len : ∀ vs H Q E, sp vs H Q E → vs.length = ps.length)
    (hbody : ∀ (cdv : Value) (A : Around) (outer : List Env) (s : Shared) (H : Hp) (vs : List V) (Q : VK) (E : XK), Room k (A.deeper (envOfC qual (defScope st) s.heap.objs.size f cdv)) → sp vs H Q E →
      ∃ t, PSs (cxOf CX0 P w K mg base N qual (defScope st) f cdv A outer s H E).nox (defBody st) t ∧ t { nx := fun _ H' => Q .non H', rt := Q } (start N vs) H) : FnOk P w K mg base CX0 (k + 1) f fd ps sp := by
  obtain ⟨oc, od, kV, doc, pm, an, cdv, ct, osl, rfl, lk, hcd⟩ := F.ex
  refine fn_of lk hcd S len fun A outer s H vs Q E hr hsp => ?_
  obtain ⟨t, h, q⟩ := hbody cdv A outer s H vs Q E hr hsp
  exact ⟨t, h.nox, q⟩
/-- how its arguments bind (no defaults): h is «fun _ _ _ _ _ _ us hl => match us, hl with | [_, _], _ => rfl», one _ a parameter -/
theorem Fun.binds {x qual : Str} {st : Stmt} {f : Addr} {fd : FuncData} {ps : List Str} (F : Fun K x qual st f fd)
    (h : ∀ (kV doc pm : Value) (an : Option Addr) (cdv ct : Value) (us : List Value), us.length = ps.length → bindArgs (PySem.W.fnOf x qual (defArgs st) (defBody st) (defScope st) .none kV doc pm an cdv ct) ⟨us, []⟩ = pure (ps.zip us)) : Binds K fd ps [] := by
  obtain ⟨oc, od, kV, doc, pm, an, cdv, ct, osl, rfl, lk, hcd⟩ := F.ex
  exact .all (h kV doc pm an cdv ct)
theorem fun_mk {x qual : Str} {st : Stmt} {f : Addr} {oc : Value} {od an : Option Addr} {osl : Array (Option Value)} {kV doc pm cdv ct : Value} (l : K.lookup f = some ⟨oc, od, .func (PySem.W.fnOf x qual (defArgs st) (defBody st) (defScope st) .none kV doc pm an cdv ct), osl⟩)
    (c : PySem.W.codeIn K cdv qual = true) (k : PySem.W.keepIn K (.ref f) = true) : Fun K x qual st f (PySem.W.fnOf x qual (defArgs st) (defBody st) (defScope st) .none kV doc pm an cdv ct) := ⟨⟨oc, od, kV, doc, pm, an, cdv, ct, osl, rfl, l, c⟩, k⟩
end
theorem hu_of {A : Around} {k : Nat} (hr : Room k A) : A.units + 1 < cLine := Nat.lt_of_le_of_lt (Nat.add_le_add_left (by decide : 1 ≤ 64) _) hr.units
/-! ### expressions in short: the name that stands in the i-th slot -/
section
variable {X : Cx}
theorem pv (i : Nat) {x : Str} {pos : Pos} (hN : X.N[i]? = some x := by rfl) (hv : Vis X.env.scope x := by first | exact Or.inl rfl | exact Or.inr (Or.inl rfl) | exact Or.inr (Or.inr rfl)) (hd : (x == ("__debug__" : Str)) = false := by decide)
    (hcd : (x == ("__classdict__" : Str)) = false := by decide) : PE X (.Name x pos) (tVar i) := pe_var hN hv hd hcd
end

/-! ### tests -/
theorem iteF {A B : Prop} (h : B) : if false = true then A else B := by
  rw [if_neg Bool.false_ne_true]
  exact h
theorem iteT {A B : Prop} (h : A) : if true = true then A else B := by
  rw [if_pos rfl]
  exact h
theorem ite2 {c A B : Prop} [Decidable c] (h1 : c → A) (h2 : ¬ c → B) : if c then A else B := by
  by_cases h : c
  · rw [if_pos h]
    exact h1 h
  · rw [if_neg h]
    exact h2 h
/-! ### heaps -/
/-- all that was tracked is as it was -/
def Same (H H' : Hp) : Prop := ∀ b o, H b = some o → H' b = some o
theorem Same.refl (H : Hp) : Same H H := fun _ _ h => h
theorem Same.trans {H H1 H2 : Hp} (a : Same H H1) (b : Same H1 H2) : Same H H2 := fun c o h => b c o (a c o h)
theorem Same.free {H H' : Hp} (e : Same H H') {l : Addr} (h : H' l = Option.none) : H l = Option.none := by
  cases q : H l with
  | none => rfl
  | some o =>
    rw [e l o q] at h
    cases h
theorem Same.seq {K : PySem.W.Frag} {H H' : Hp} {a : Addr} {xs : List V} (e : Same H H') (h : SqL K H a xs) : SqL K H' a xs := by
  rcases h with (h | ⟨o, h⟩) | h
  · exact .inl (.inl (e _ _ h))
  · exact .inl (.inr ⟨o, e _ _ h⟩)
  · exact .inr h

end L2
namespace L2
open PySem PySem.Spec PyProof.Rows

def clOf (env : Env) : List (Str × NameKind) → List (Str × Addr) → List (Str × Addr)
  | [], acc => acc
  | (n, k) :: r, acc => clOf env r (if k == .free then (match env.cells.lookup n with | some a => (n, a) :: acc | none => acc) else acc)
theorem closureFor_loop {env : Env} : ∀ (names : List (Str × NameKind)) (acc : List (Str × Addr)), (∀ y ∈ names, y.2 = .free → ∃ c, env.cells.lookup y.1 = some c) →
    (forIn names acc fun (x : Str × NameKind) (cs : List (Str × Addr)) => (if (x.2 == NameKind.free) = true then do let a ← cellOf env x.1; pure (ForInStep.yield ((x.1, a) :: cs)) else pure (ForInStep.yield cs) : Sem (ForInStep (List (Str × Addr))))) = pure (clOf env names acc)
  | [], acc, _ => rfl
  | (n, k) :: r, acc, h => by
    rw [List.forIn_cons]
    have hr : ∀ y ∈ r, y.2 = .free → ∃ c, env.cells.lookup y.1 = some c := fun y hy => h y (List.mem_cons_of_mem _ hy)
    cases hk : (k == NameKind.free) with
    | false =>
      have e1 : clOf env ((n, k) :: r) acc = clOf env r acc := by
        show clOf env r (if (k == NameKind.free) = true then (match env.cells.lookup n with | some a => (n, a) :: acc | none => acc) else acc) = _
        rw [hk, if_neg Bool.false_ne_true]
      rw [e1, ← closureFor_loop r acc hr]
      simp only [hk, Bool.false_eq_true, if_false, pure_bind]
    | true =>
      obtain ⟨c, hc⟩ := h (n, k) List.mem_cons_self (by simpa using hk)
      have e1 : clOf env ((n, k) :: r) acc = clOf env r ((n, c) :: acc) := by
        have hc' : env.cells.lookup n = some c := hc
        show clOf env r (if (k == NameKind.free) = true then (match env.cells.lookup n with | some a => (n, a) :: acc | none => acc) else acc) = _
        rw [hk, hc', if_pos rfl]
      have e2 : cellOf env n = pure c := by
        have hc' : env.cells.lookup n = some c := hc
        unfold cellOf
        rw [hc']
      rw [e1, ← closureFor_loop r ((n, c) :: acc) hr]
      simp only [hk, if_true, e2, pure_bind]
theorem closureFor_cl {scope : Scope} {env : Env} (h : ∀ y ∈ scope.names, y.2 = .free → ∃ c, env.cells.lookup y.1 = some c) : closureFor scope env = pure (clOf env scope.names []) := by
  have e := closureFor_loop scope.names [] h
  simp only [closureFor]
  rw [e]
  rfl
theorem clOf_from {env : Env} {x : Str} {c : Addr} : ∀ (names : List (Str × NameKind)) (acc : List (Str × Addr)), (∀ y d, acc.lookup y = some d → env.cells.lookup y = some d) → (clOf env names acc).lookup x = some c → env.cells.lookup x = some c
  | [], acc, ha, h => ha x c h
  | (n, k) :: r, acc, ha, h => by
    refine clOf_from r _ (fun y d q => ?_) h
    by_cases hk : (k == NameKind.free) = true
    · rw [if_pos hk] at q
      cases e : env.cells.lookup n with
      | none => rw [e] at q; exact ha y d q
      | some a =>
        rw [e] at q
        have q' : List.lookup y ((n, a) :: acc) = some d := q
        rw [List.lookup_cons] at q'
        cases hy : (y == n) with
        | true =>
          rw [hy] at q'
          have : y = n := by simpa using hy
          subst this
          rw [e]; exact q'
        | false => rw [hy] at q'; exact ha y d q'
    · rw [if_neg hk] at q; exact ha y d q
theorem clOf_acc {env : Env} {x : Str} : ∀ (names : List (Str × NameKind)) (acc : List (Str × Addr)), (∃ c, acc.lookup x = some c) → ∃ c, (clOf env names acc).lookup x = some c
  | [], acc, h => h
  | (n, k) :: r, acc, ⟨c, hc⟩ => by
    refine clOf_acc r _ ?_
    by_cases hk : (k == NameKind.free) = true
    · rw [if_pos hk]
      cases e : env.cells.lookup n with
      | none => exact ⟨c, hc⟩
      | some a =>
        show ∃ c, List.lookup x ((n, a) :: acc) = some c
        rw [List.lookup_cons]
        cases hy : (x == n) with
        | true => exact ⟨a, rfl⟩
        | false => exact ⟨c, hc⟩
    · rw [if_neg hk]; exact ⟨c, hc⟩
theorem clOf_has {env : Env} {x : Str} : ∀ (names : List (Str × NameKind)) (acc : List (Str × Addr)), (∀ y ∈ names, y.2 = .free → ∃ c, env.cells.lookup y.1 = some c) → names.lookup x = some .free → ∃ c, (clOf env names acc).lookup x = some c
  | [], acc, _, h => by simp at h
  | (n, k) :: r, acc, hf, h => by
    have hr : ∀ y ∈ r, y.2 = .free → ∃ c, env.cells.lookup y.1 = some c := fun y hy => hf y (List.mem_cons_of_mem _ hy)
    rw [List.lookup_cons] at h
    cases hy : (x == n) with
    | true =>
      rw [hy] at h
      have hk : k = .free := Option.some.inj h
      subst hk
      have hx : x = n := by simpa using hy
      subst hx
      obtain ⟨c, hc⟩ := hf (x, .free) List.mem_cons_self rfl
      have hc' : env.cells.lookup x = some c := hc
      refine clOf_acc r _ ⟨c, ?_⟩
      rw [if_pos (show (NameKind.free == NameKind.free) = true by decide), hc']
      show List.lookup x ((x, c) :: acc) = some c
      rw [List.lookup_cons]
      simp
    | false =>
      rw [hy] at h
      exact clOf_has r _ hr h

theorem relabel_free {env : Env} : ∀ {names : List (Str × NameKind)} {x : Str}, names.lookup x = some .free →
    ((names.map fun (n, k) => if (k == NameKind.free && env.scope.kind == .function && env.kindOf n == some .cell) then (n, NameKind.cell) else (n, k)).lookup x = some .cell ∨
     (names.map fun (n, k) => if (k == NameKind.free && env.scope.kind == .function && env.kindOf n == some .cell) then (n, NameKind.cell) else (n, k)).lookup x = some .free)
  | [], _, h => by simp at h
  | (n, k) :: r, x, h => by
    have ih := @relabel_free env r x
    show (List.lookup x ((if (k == NameKind.free && env.scope.kind == .function && env.kindOf n == some .cell) = true then (n, NameKind.cell) else (n, k)) :: _) = _ ∨ List.lookup x ((if (k == NameKind.free && env.scope.kind == .function && env.kindOf n == some .cell) = true then (n, NameKind.cell) else (n, k)) :: _) = _)
    cases hx : x == n with
    | true =>
      simp only [List.lookup_cons, hx] at h
      cases h
      by_cases hc : ((NameKind.free == NameKind.free) && env.scope.kind == .function && env.kindOf n == some .cell) = true
      · rw [if_pos hc]; simp [List.lookup_cons, hx]
      · rw [if_neg hc]; simp [List.lookup_cons, hx]
    | false =>
      simp only [List.lookup_cons, hx] at h
      by_cases hc : (k == NameKind.free && env.scope.kind == .function && env.kindOf n == some .cell) = true
      · rw [if_pos hc]; simp only [List.lookup_cons, hx]; exact ih h
      · rw [if_neg hc]; simp only [List.lookup_cons, hx]; exact ih h
theorem relabel_back {env : Env} : ∀ {names : List (Str × NameKind)} {x : Str}, (∀ y ∈ names, y.2 ≠ .cell) →
    ((names.map fun (n, k) => if (k == NameKind.free && env.scope.kind == .function && env.kindOf n == some .cell) then (n, NameKind.cell) else (n, k)).lookup x = some .cell ∨
     (names.map fun (n, k) => if (k == NameKind.free && env.scope.kind == .function && env.kindOf n == some .cell) then (n, NameKind.cell) else (n, k)).lookup x = some .free) → names.lookup x = some .free
  | [], _, _, h => by simp at h
  | (n, k) :: r, x, hn, h => by
    have ih := @relabel_back env r x (fun y hy => hn y (List.mem_cons_of_mem _ hy))
    have hk := hn (n, k) List.mem_cons_self
    have h' : (List.lookup x ((if (k == NameKind.free && env.scope.kind == .function && env.kindOf n == some .cell) = true then (n, NameKind.cell) else (n, k)) :: (r.map fun (n, k) => if (k == NameKind.free && env.scope.kind == .function && env.kindOf n == some .cell) then (n, NameKind.cell) else (n, k))) = some .cell ∨ List.lookup x ((if (k == NameKind.free && env.scope.kind == .function && env.kindOf n == some .cell) = true then (n, NameKind.cell) else (n, k)) :: (r.map fun (n, k) => if (k == NameKind.free && env.scope.kind == .function && env.kindOf n == some .cell) then (n, NameKind.cell) else (n, k))) = some .free) := h
    cases hx : x == n with
    | true =>
      rw [List.lookup_cons, hx]
      by_cases hc : (k == NameKind.free && env.scope.kind == .function && env.kindOf n == some .cell) = true
      · have : (k == NameKind.free) = true := by
          rw [Bool.and_eq_true, Bool.and_eq_true] at hc; exact hc.1.1
        have hk' : k = .free := by simpa using this
        rw [hk']
      · rw [if_neg hc] at h'
        simp only [List.lookup_cons, hx] at h'
        rcases h' with h' | h'
        · exact absurd (Option.some.inj h') hk
        · exact h'
    | false =>
      rw [List.lookup_cons, hx]
      by_cases hc : (k == NameKind.free && env.scope.kind == .function && env.kindOf n == some .cell) = true
      · rw [if_pos hc] at h'; simp only [List.lookup_cons, hx] at h'; exact ih h'
      · rw [if_neg hc] at h'; simp only [List.lookup_cons, hx] at h'; exact ih h'

/-! ### the loop of a comprehension, any target -/
abbrev noE : Value → Shared → Prop := fun _ _ => False
theorem compLoop_gen {prog : Program} {w : World} {A : Around} {R : Result → Shared → Prop} {s : Shared} {elt target iter : Expr} {ifs : List Expr} {scope : Scope} {pos : Pos} {it acc : Value} {env : Env} (I : Nat → Shared → Prop)
    (turn : ∀ n s, I n s → wpAny (model prog w) A (pyNext it) (fun r s₁ => match r with
      | none => R (.ok .next) s₁
      | some v => wpAny (model prog w) A (letOwnedTupleGo target it v) (fun _ s₁' => wpAny (model prog w) A (assign target env v) (fun _ s₂ =>
          wpAny (model prog w) A (forIn ifs true fun c r => if r = true then do let ok ← isTrue c env (eval c env); pure (ForInStep.yield ok) else pure (ForInStep.yield r)) (fun ok s₃ =>
            if ok = true then wpAny (model prog w) A (eval elt env) (fun x s₄ =>
              wpAny (model prog w) A (call (.builtin "list.append") [acc, x]) (fun _ s₅ => ∃ m, m < n ∧ I m s₅) noE s₄) noE s₃
            else ∃ m, m < n ∧ I m s₃) noE s₂) noE s₁') noE s₁) noE s)
    (n : Nat) (h : I n s) : codeAny (model prog w) A (.compLoop (.ListComp elt [⟨target, iter, ifs, 0⟩] scope pos) 0 it acc env) R s := by
  refine codeAny_loop rfl I (fun n s hI => ?_) n h
  show wpAny _ A ((compTurn (.ListComp elt [⟨target, iter, ifs, 0⟩] scope pos) 0 it acc env).onRaise (fun x => do noteFrame x env; theTreesLotGoes x)) _ _ s
  refine wpAny_noted ?_
  rw [compTurn_list]
  have no : ∀ {F : Value → Shared → Prop} (e : Value) (s' : Shared), noE e s' → F e s' := fun _ _ h => h.elim
  refine wpAny_bind (wpAny_standAt (wpAny_bind (wpAny_mono (turn n s hI) (fun r s₁ h₁ => ?_) no)))
  cases r with
  | none => exact wpAny_pure h₁
  | some v =>
    refine wpAny_bind (wpAny_mono h₁ (fun _ s₁' h₁' => ?_) no)
    refine wpAny_bind (wpAny_mono h₁' (fun _ s₂ h₂ => wpAny_bind (wpAny_mono h₂ (fun ok s₃ h₃ => ?_) no)) no)
    cases ok with
    | false => exact wpAny_pure ⟨rfl, h₃⟩
    | true =>
      exact wpAny_bind (wpAny_bind (wpAny_mono h₃ (fun x s₄ h₄ => wpAny_bind (wpAny_mono h₄ (fun _ s₅ h₅ => wpAny_pure (wpAny_pure ⟨rfl, h₅⟩)) no)) no))

/-! ### the context of a comprehension's block -/
/-- C: its own names' dict; Nc: its names (targets first, then those of the def around); s, H: ahead of it; fp: the iterator's records -/
def cxComp (X : Cx) (scope : Scope) (C : Addr) (Nc : List Str) (s : Shared) (H : Hp) (fp : List Addr) : Cx where
  prog := X.prog
  w := X.w
  K := X.K
  mg := X.mg
  base := X.base
  A := X.A
  N := Nc
  s₀ := s
  H₀ := H
  env := compEnvC scope (clOf X.env scope.names []) C X.env
  outer := X.stack
  stack := X.stack
  ex := fp
  fn := fun _ => false
  calm := X.calm
  pn := []
  xe := noE
/-- where the block's names stand in the def around: none for its own -/
def IxOk (X : Cx) (scope : Scope) : List Str → List (Option Nat) → Prop
  | [], [] => True
  | _ :: ys, none :: os => IxOk X scope ys os
  | y :: ys, some j :: os => (X.N[j]? = some y ∧ scope.names.lookup y = some .free ∧ (X.env.kindOf y = some .cell ∨ X.env.kindOf y = some .free)) ∧ IxOk X scope ys os
  | _, _ => False
def subSt (σ : St) (ix : List (Option Nat)) : St := ix.map fun o => match o with | none => none | some j => (σ[j]?).getD none
def Wk : St → St → Prop
  | [], [] => True
  | none :: a, _ :: b => Wk a b
  | some v :: a, w :: b => w = some v ∧ Wk a b
  | _, _ => False
theorem Wk.len : ∀ {a b : St}, Wk a b → a.length = b.length
  | [], [], _ => rfl
  | none :: a, _ :: b, h => congrArg (· + 1) (Wk.len (a := a) (b := b) h)
  | some _ :: a, _ :: b, h => congrArg (· + 1) (Wk.len (a := a) (b := b) h.2)
theorem Wk.get : ∀ {a b : St} {i : Nat} {v : V}, Wk a b → a[i]? = some (some v) → b[i]? = some (some v)
  | [], [], i, v, _, h => by simp at h
  | none :: a, x :: b, 0, v, _, h => by simp at h
  | none :: a, x :: b, i + 1, v, k, h => by
    have := Wk.get (a := a) (b := b) (i := i) (v := v) k (by simpa using h)
    simpa using this
  | some y :: a, x :: b, 0, v, k, h => by
    have e : y = v := by simpa using h
    subst e
    simp [k.1]
  | some y :: a, x :: b, i + 1, v, k, h => by
    have := Wk.get (a := a) (b := b) (i := i) (v := v) k.2 (by simpa using h)
    simpa using this
theorem IxOk.len {X : Cx} {scope : Scope} : ∀ {N : List Str} {ix : List (Option Nat)}, IxOk X scope N ix → ix.length = N.length
  | [], [], _ => rfl
  | _ :: ys, none :: os, h => congrArg (· + 1) (IxOk.len (N := ys) (ix := os) h)
  | _ :: ys, some _ :: os, h => congrArg (· + 1) (IxOk.len (N := ys) (ix := os) h.2)
theorem IxOk.get {X : Cx} {scope : Scope} : ∀ {N : List Str} {ix : List (Option Nat)} {i j : Nat}, IxOk X scope N ix → ix[i]? = some (some j) → ∃ y, N[i]? = some y ∧ X.N[j]? = some y ∧ scope.names.lookup y = some .free ∧ (X.env.kindOf y = some .cell ∨ X.env.kindOf y = some .free)
  | [], [], i, j, _, h => by simp at h
  | y :: ys, none :: os, 0, j, _, h => by simp at h
  | y :: ys, none :: os, i + 1, j, k, h => by
    obtain ⟨z, h1, h2⟩ := IxOk.get (N := ys) (ix := os) (i := i) (j := j) k (by simpa using h)
    exact ⟨z, by simpa using h1, h2⟩
  | y :: ys, some j' :: os, 0, j, k, h => by
    have e : j' = j := by simpa using h
    subst e
    exact ⟨y, by simp, k.1⟩
  | y :: ys, some j' :: os, i + 1, j, k, h => by
    obtain ⟨z, h1, h2⟩ := IxOk.get (N := ys) (ix := os) (i := i) (j := j) k.2 (by simpa using h)
    exact ⟨z, by simpa using h1, h2⟩
theorem subSt_get {σ : St} {ix : List (Option Nat)} {i : Nat} {v : V} (h : (subSt σ ix)[i]? = some (some v)) : ∃ j, ix[i]? = some (some j) ∧ σ[j]? = some (some v) := by
  unfold subSt at h
  rw [List.getElem?_map] at h
  cases e : ix[i]? with
  | none => rw [e] at h; cases h
  | some o =>
    rw [e] at h
    cases o with
    | none => cases h
    | some j =>
      refine ⟨j, rfl, ?_⟩
      have h' : some ((σ[j]?).getD none) = some (some v) := h
      cases q : σ[j]? with
      | none => rw [q] at h'; cases h'
      | some z => rw [q] at h'; cases h'; rfl
end L2
namespace L2
open PySem PySem.Spec PyProof.Rows

theorem comp_start {X : Cx} {pins : List (Addr × Obj)} {σ : St} {H : Hp} {s : Shared} (I : Inv X pins σ H s) {scope : Scope} {Nc : List Str} {ix : List (Option Nat)} (hix : IxOk X scope Nc ix) (hcell : ∀ y ∈ scope.names, y.2 ≠ .cell)
    (hkind : scope.kind = .function) (hfr : ∀ y ∈ scope.names, y.2 = .free → X.env.kindOf y.1 = some .cell ∨ X.env.kindOf y.1 = some .free) {fp : List Addr} (hf : ∀ b ∈ fp, FpOk X pins H b) (hfo : ∀ b ∈ fp, ∃ o, s.heap.get? b = some o)
    {C : Addr} {h' : Heap} {t' : Nat} {m0 : Str → Option Value} (hC : s.heap.objs.size ≤ C) (hns : h'.Ns C m0) (k : ∀ b o, s.heap.get? b = some o → h'.get? b = some o) :
    Inv (cxComp X scope C Nc s H fp) [] (subSt σ ix) H { s with heap := h', toks := t' } := by
  have hfc : ∀ y ∈ scope.names, y.2 = .free → ∃ c, X.env.cells.lookup y.1 = some c := fun y hy e => I.ok.has y.1 (hfr y hy e)
  have from_ : ∀ {x : Str} {c : Addr}, (clOf X.env scope.names []).lookup x = some c → X.env.cells.lookup x = some c := fun {x c} e => clOf_from scope.names [] (fun y d q => by simp at q) e
  refine ⟨⟨I.ok.mod, hkind, I.ok.glob, I.ok.blt, hC, fun x y c h1 h2 => I.ok.inj x y c (from_ h1) (from_ h2), fun x hx => ?_, fun x c h => ?_, I.ok.hd, I.ok.frames, .inl rfl, fun b hb => ?_, I.bs, Nat.le_trans I.ok.bsz I.sz, fun b o e hb => ?_, fun b hb hs => ?_, I.stack, I.stkFree⟩,
    rfl, I.bare, Un.kept k, ⟨m0, hns, fun i x v h1 h2 h3 => ?_⟩, fun x c e => ?_, I.hok.fresh hC, fun x c e => I.freeC x c (from_ e), fun p hp => absurd (show p ∈ ([] : List (Addr × Obj)) from hp) (by simp), I.hok.kept k, ?_⟩
  · have hx' : scope.names.lookup x = some .free := relabel_back hcell hx
    exact clOf_has scope.names [] hfc hx'
  · exact absurd (show false = true from h) (by decide)
  · refine ⟨?_, fun x c e => (hf b hb).2.2.2.2.1 x c (from_ e)⟩
    obtain ⟨o, ho⟩ := hfo b hb
    exact Nat.ne_of_lt (Nat.lt_of_lt_of_le (Heap.lt_size ho) hC)
  · rcases (hf b hb).2.2.2.1 with z | z
    · exact I.ok.noex b o e z
    · exact absurd (Nat.lt_of_lt_of_le (Heap.lt_size e) (Nat.le_trans I.ok.bsz z)) (Nat.lt_irrefl _)
  · rcases List.mem_cons.mp (I.stkSub b hs) with z | z
    · exact (hf b hb).2.1 z
    · exact (hf b hb).2.2.1 z
  · obtain ⟨j, e1, e2⟩ := subSt_get h2
    obtain ⟨y, y1, y2, y3, y4⟩ := hix.get e1
    have h1' : Nc[i]? = some x := h1
    rw [y1] at h1'
    cases h1'
    obtain ⟨m, hn, hl⟩ := I.loc
    have hv : Vis X.env.scope x := by
      rcases y4 with z | z
      · exact .inr (.inl z)
      · exact .inr (.inr z)
    obtain ⟨u, r, l⟩ := hl j x v y2 e2 hv
    refine ⟨u, r, .inr ⟨relabel_free y3, ?_⟩⟩
    rcases l with ⟨l, _⟩ | ⟨_, c, hc, q⟩
    · rcases y4 with z | z
      · rw [z] at l; cases l
      · rw [z] at l; cases l
    · obtain ⟨c', hc'⟩ := clOf_has scope.names [] hfc y3
      have e := from_ hc'
      rw [hc] at e
      cases e
      obtain ⟨o, ho, hd⟩ := q
      exact ⟨c, hc', o, k _ _ ho, hd⟩
  · obtain ⟨v, o, ho, hd⟩ := I.cell x c (from_ e)
    exact ⟨v, o, k _ _ ho, hd⟩
  · show (subSt σ ix).length = Nc.length
    unfold subSt
    rw [List.length_map]
    exact hix.len

theorem comp_exit {X : Cx} {pins pins' : List (Addr × Obj)} {σ σ' : St} {H H' : Hp} {s s' : Shared} (I : Inv X pins σ H s) {scope : Scope} {Nc : List Str} {fp : List Addr} {C D : Addr} (J : Inv (cxComp X scope C Nc s H fp) pins' σ' H' s')
    (hf : ∀ b ∈ fp, FpOk X pins H b) (hD : s.heap.objs.size ≤ D) (hC : s.heap.objs.size ≤ C) (hDC : D ≠ C) {its : List Value} {n : Nat} {acc : List V} (eD : s'.heap.get? D = some { cls := .type "list", data := .seq its.toArray n }) (r : Vals acc its)
    (hz : acc.length ≤ sizeLine) (nD : H' D = none) {oC : Obj} (eC : s'.heap.get? C = some oC) (dC : ∀ v, oC.data ≠ .cell v) : Inv X (pins ++ [(C, oC)]) σ (upd H' D (.lst acc)) s' := by
  have lt : ∀ b o, s.heap.get? b = some o → b ≠ D := fun b o e => Nat.ne_of_lt (Nat.lt_of_lt_of_le (Heap.lt_size e) hD)
  have U : Un (frs X.stack) fp H H' s.heap s'.heap := J.base
  have U' : Un (frs X.stack) fp H (upd H' D (.lst acc)) s.heap s'.heap :=
    ⟨U.keep, U.slot, fun b o e n hx => by rw [upd_ne (lt b o e)]; exact U.free b o e n hx, U.there, fun b xs e => by rw [upd_ne (ne_of_none (U.tups b xs e) nD)]; exact U.tups b xs e,
      fun b o u e => by rw [upd_ne (ne_of_none (U.frzs b o u e) nD)]; exact U.frzs b o u e, fun b ps e => by
        obtain ⟨more, q⟩ := U.tbls b ps e
        exact ⟨more, by rw [upd_ne (ne_of_none q nD)]; exact q⟩⟩
  have hok : HOk X.prog X.w (upd H' D (.lst acc)) s'.heap := fun b u e => by
    by_cases hb : b = D
    · subst hb
      rw [upd_same] at e; cases e
      exact ⟨hz, its, n, r, eD⟩
    · rw [upd_ne hb] at e
      exact (J.hok b u e).stay (fun c v _ q => q) (fun c q => by rw [upd_ne (ne_of_none q nD)]; exact q) fun c xs q => by rw [upd_ne (ne_of_none q nD)]; exact q
  have I' : Inv X pins σ (upd H' D (.lst acc)) s' := I.call' (ch := fp) J.os U' hok J.bare fun b hb => by
    obtain ⟨_, h1, _, h2, h3, h4⟩ := hf b hb
    exact ⟨h2, h1, h3, h4⟩
  refine I'.pins_of fun p hp => ?_
  rcases List.mem_append.mp hp with z | z
  · exact I'.pin p (List.mem_append_right _ z)
  · have e : p = (C, oC) := List.mem_singleton.mp z
    subst e
    refine ⟨eC, ?_, Nat.ne_of_gt (Nat.lt_of_lt_of_le I.lt hC), I.nofs hC, dC⟩
    rw [upd_ne (Ne.symm hDC)]
    exact J.free

/-- the tests of a comprehension -/
def PF (Y : Cx) (ifs : List Expr) (tc : TT) : Prop :=
  ∀ (pins : List (Addr × Obj)) (s : Shared) (σ : St) (H : Hp) (Q : Bool → Hp → Prop), Inv Y pins σ H s → tc σ H Q →
    wpAny (model Y.prog Y.w) Y.A (forIn ifs true fun c r => if r = true then do let ok ← isTrue c Y.env (eval c Y.env); pure (ForInStep.yield ok) else pure (ForInStep.yield r)) (TP Y pins σ Q) Y.xe s
def tYes : TT := fun _ H Q => Q true H
theorem pf_nil {Y : Cx} : PF Y [] tYes := fun _ _ _ H _ I h => wpAny_tests_nil ⟨H, I, h⟩
theorem pf_one {Y : Cx} {c : Expr} {tc : TT} (h : PT Y c tc) : PF Y [c] tc := fun pins s σ H Q I hw => wpAny_tests_one (h pins s σ H Q I hw)

/-- what a comprehension wants: W the invariant by the turn, a measure, what is made so far -/
def CompW (J : It) (σc : St) (g : TG) (tc : TT) (te : TE) (Q : VK) (H1 : Hp) : Prop :=
  ∃ W : Nat → Nat → List V → Hp → Prop, (∃ m, W 0 m [] H1) ∧ ∀ i m acc H, W i m acc H → acc.length < sizeLine ∧
  ((J.stop i H ∧ ∀ D, H D = none → Q (.ref D) (upd H D (.lst acc))) ∨
   (J.go i H ∧ ∀ x H', J.yld i H x H' → g x σc H' fun σ2 H2 => Wk σc σ2 ∧ tc σ2 H2 fun b H3 => if b = true then te σ2 H3 fun v H4 => ∃ m', m' < m ∧ W (i + 1) m' (acc ++ [v]) H4 else ∃ m', m' < m ∧ W (i + 1) m' acc H3))
def tComp (wi : TI) (ix : List (Option Nat)) (g : TG) (tc : TT) (te : TE) : TE := fun σ H Q => wi σ H fun J H1 => CompW J (subSt σ ix) g tc te Q H1

theorem comp_core {X : Cx} {tg iter elt : Expr} {ifs : List Expr} {scope : Scope} {pos : Pos} {wi : TI} {g : TG} {tc : TT} {te : TE} {Nc : List Str} {ix : List (Option Nat)} (hi : PI X tg iter wi) (hcalm : X.calm = true) (hix : IxOk X scope Nc ix)
    (hcell : ∀ y ∈ scope.names, y.2 ≠ .cell) (hkind : scope.kind = .function) (hfr : ∀ y ∈ scope.names, y.2 = .free → X.env.kindOf y.1 = some .cell ∨ X.env.kindOf y.1 = some .free)
    (hG : ∀ C s H fp, PG (cxComp X scope C Nc s H fp) tg g) (hT : ∀ C s H fp, PF (cxComp X scope C Nc s H fp) ifs tc) (hE : ∀ C s H fp, PE (cxComp X scope C Nc s H fp) elt te)
    {pins : List (Addr × Obj)} {s : Shared} {σ : St} {H : Hp} {Q : VK} (I : Inv X pins σ H s) (h : tComp wi ix g tc te σ H Q) {RR : Value → Addr → Result → Shared → Prop}
    (hRR : ∀ (D C : Addr) (oC : Obj) (m : Str → Option Value) (H' : Hp) (s' : Shared), s'.heap.get? C = some oC → s'.heap.Ns C m → FpOk X pins H' C → Inv X (pins ++ [(C, oC)]) σ H' s' → Q (.ref D) H' → RR (.ref D) C (.ok .next) s') :
    wpAny (model X.prog X.w) X.A (eval iter X.env) (fun v s1 => wpAny (model X.prog X.w) X.A (pyIter v) (fun it s2 => wpAny (model X.prog X.w) X.A (newList []) (fun acc s3 =>
      wpAny (model X.prog X.w) X.A (newFunctionEnv scope X.env.globals (clOf X.env scope.names []) [] X.env.qual none .none (some X.env)) (fun cenv s4 =>
        codeAny (model X.prog X.w) X.A (.compStart (.ListComp elt [⟨tg, iter, ifs, 0⟩] scope pos) 0 it acc { cenv with scope := relabel scope X.env }) (RR acc cenv.locals) s4) X.xe s3) X.xe s2) X.xe s1) X.xe s := by
  refine thn (hi pins s σ H _ I h) fun v s1 h1 => thn h1 fun itv s2 h2 => ?_
  obtain ⟨it, fp, tn, J, H2, e, I2, T, st2, f2, W, ⟨m0, w0⟩, turn⟩ := h2
  subst e
  refine wpAny_newObj_type (wpAny_newFunctionEnv hcell (by intro y hy; simp at hy) (fun h₁ hns₁ hsb₁ => ?_) hkind)
  dsimp only at hns₁ hsb₁ ⊢
  generalize hH2 : s2.heap.push { cls := .type "list", dict := none, data := .seq ([] : List Value).toArray } = P2 at hns₁ hsb₁ ⊢
  have hC : P2.objs.size = s2.heap.objs.size + 1 := by rw [← hH2, Heap.size_push]
  have hDC : s2.heap.objs.size ≠ P2.objs.size := by rw [hC]; exact Nat.ne_of_lt (Nat.lt_succ_self _)
  have hCle : s2.heap.objs.size ≤ P2.objs.size := by rw [hC]; exact Nat.le_succ _
  have neC : ∀ b, b < s2.heap.objs.size → b ≠ P2.objs.size := fun b hb => by rw [hC]; exact Nat.ne_of_lt (Nat.lt_succ_of_lt hb)
  have old : ∀ b o, s2.heap.get? b = some o → h₁.get? b = some o := fun b o e => hsb₁.extBut b o (neC b (Heap.lt_size e)) (Heap.get?_push_of_some _ (hH2 ▸ Heap.get?_push_of_some _ e))
  have hacc : h₁.get? s2.heap.objs.size = some { cls := .type "list", data := .seq ([] : List Value).toArray } := hsb₁.extBut _ _ hDC (Heap.get?_push_of_some _ (hH2 ▸ Heap.get?_push_size _ rfl))
  have st₁ : tn 0 h₁ := T.keep 0 _ _ st2 fun b _ o e => old b o e
  have hfo : ∀ b ∈ fp, ∃ o, s2.heap.get? b = some o := fun b hb => let ⟨o, e, _⟩ := T.obj 0 _ st2 b hb; ⟨o, e⟩
  have fpD : ∀ b ∈ fp, s2.heap.objs.size ≠ b := fun b hb => let ⟨o, e⟩ := hfo b hb; Nat.ne_of_gt (Heap.lt_size e)
  have IY := comp_start I2 hix hcell hkind hfr f2 hfo (t' := s2.toks + ([] : List (Str × Value)).length) hCle hns₁ old
  have notS : ∀ b, s2.heap.objs.size ≤ b → b ∉ frs X.stack := fun b hb hs => by
    rcases List.mem_cons.mp (I2.stkSub b hs) with z | z
    · exact absurd (Nat.lt_of_lt_of_le I2.lt hb) (by rw [z]; exact Nat.lt_irrefl _)
    · exact I2.nofs hb z
  have from_ : ∀ {x : Str} {c : Addr}, (clOf X.env scope.names []).lookup x = some c → X.env.cells.lookup x = some c := fun {x c} e => clOf_from scope.names [] (fun y d q => by simp at q) e
  have cellD : ∀ x c, (clOf X.env scope.names []).lookup x = some c → c ≠ s2.heap.objs.size := fun x c e z => by
    obtain ⟨v, q⟩ := I2.cell x c (from_ e)
    exact absurd (q.lt) (by rw [z]; exact Nat.lt_irrefl _)
  have fY : ∀ {pl : List (Addr × Obj)} {H' : Hp}, (∀ p ∈ pl, p.1 = s2.heap.objs.size) → (∀ b ∈ fp, H' b = none) → ∀ b ∈ fp, FpOk (cxComp X scope P2.objs.size Nc s2 H2 fp) pl H' b := fun {pl H'} hpl hn b hb => by
    refine ⟨hn b hb, ?_, ?_, .inl hb, fun x c e => (f2 b hb).2.2.2.2.1 x c (from_ e), fun p hp => ?_⟩
    · obtain ⟨o, e⟩ := hfo b hb
      exact neC b (Heap.lt_size e)
    · intro hs
      rcases List.mem_cons.mp (I2.stkSub b hs) with z | z
      · exact (f2 b hb).2.1 z
      · exact (f2 b hb).2.2.1 z
    · rw [hpl p hp]
      exact fpD b hb
  have loop : ∀ s₃ : Shared, s₃ = { s2 with heap := h₁, toks := s2.toks + ([] : List (Str × Value)).length } →
      codeAny (model X.prog X.w) X.A (.compLoop (.ListComp elt [⟨tg, iter, ifs, 0⟩] scope pos) 0 (.ref it) (.ref s2.heap.objs.size) (compEnvC scope (clOf X.env scope.names []) P2.objs.size X.env)) (RR (.ref s2.heap.objs.size) P2.objs.size) s₃ := by
    rintro s₃ rfl
    refine compLoop_gen (fun n s' => ∃ i acc its nn H', Inv (cxComp X scope P2.objs.size Nc s2 H2 fp) [] (subSt σ ix) H' s' ∧ tn i s'.heap ∧ (∀ b ∈ fp, H' b = none) ∧
      s'.heap.get? s2.heap.objs.size = some { cls := .type "list", data := .seq (its : List Value).toArray nn } ∧ Vals acc its ∧ H' s2.heap.objs.size = none ∧ W i n acc H') ?_ m0
      ⟨0, [], [], 0, H2, IY, st₁, fun b hb => (f2 b hb).1, hacc, .nil, I2.hok.fresh (Nat.le_refl _), w0⟩
    rintro n s3 ⟨i, acc, its, nn, H3, I3, st3, fr3, eD, rv, nD, w3⟩
    obtain ⟨hz, alt⟩ := turn i n acc H3 w3
    have IP : Inv (cxComp X scope P2.objs.size Nc s2 H2 fp) [(s2.heap.objs.size, { cls := .type "list", data := .seq its.toArray nn })] (subSt σ ix) H3 s3 := I3.pins_of fun p hp => by
      have e : p = (s2.heap.objs.size, _) := List.mem_singleton.mp hp
      subst e
      refine ⟨eD, nD, hDC, notS _ (Nat.le_refl _), fun v z => ?_⟩
      have z' : Data.seq its.toArray nn = Data.cell v := z
      cases z'
    have hpl : ∀ p ∈ [(s2.heap.objs.size, ({ cls := .type "list", data := .seq its.toArray nn } : Obj))], p.1 = s2.heap.objs.size := fun p hp => by
      have e : p = (s2.heap.objs.size, _) := List.mem_singleton.mp hp
      rw [e]
    rcases alt with ⟨stop, fin⟩ | ⟨go, step⟩
    · refine thn (T.done (cxComp X scope P2.objs.size Nc s2 H2 fp) rfl rfl rfl hcalm i _ s3 _ H3 noE IP (fY hpl fr3) st3 stop) fun r s4 ⟨hr, I4⟩ => ?_
      subst hr
      obtain ⟨m, hn, _⟩ := id I4.loc
      obtain ⟨oC, es, ep, eC, dC, _⟩ := id hn
      have eD4 := (I4.pin (s2.heap.objs.size, _) (List.mem_append_right _ (List.mem_singleton.mpr rfl))).1
      have fin' := fin _ nD
      refine hRR _ _ oC m _ s4 eC hn ?_ (comp_exit I2 I4 f2 (Nat.le_refl _) hCle hDC eD4 rv (Nat.le_of_lt hz) nD eC fun v z => ?_) fin'
      · refine I2.fpOk hCle ?_
        rw [upd_ne (Ne.symm hDC)]
        exact I4.free
      · rw [dC] at z; cases z
    · refine thn (T.item (cxComp X scope P2.objs.size Nc s2 H2 fp) rfl rfl rfl hcalm i _ s3 _ H3 noE IP (fY hpl fr3) st3 go) fun r s4 ⟨u, hr, h4⟩ => ?_
      subst hr
      refine thn h4 fun _ s5 ⟨x, H5, I5, r5, y5, st5, fr5⟩ => ?_
      have I5' := I5.pinned (fY hpl fr5) (T.obj _ _ st5)
      refine thn (hG _ s2 H2 fp _ s5 _ H5 x u _ I5' r5 (step x H5 y5)) fun _ s6 ⟨σ6, H6, I6, wk, q6⟩ => ?_
      refine thn (hT _ s2 H2 fp _ s6 σ6 H6 _ I6 q6) fun b s7 ⟨H7, I7, q7⟩ => ?_
      have again : ∀ {H9 : Hp} {s9 : Shared} {m' : Nat}, Inv (cxComp X scope P2.objs.size Nc s2 H2 fp) ([(s2.heap.objs.size, ({ cls := .type "list", data := .seq its.toArray nn } : Obj))] ++ pinsAt fp s5.heap) σ6 H9 s9 →
          (s9.heap.get? s2.heap.objs.size = some { cls := .type "list", data := .seq its.toArray nn } ∧ H9 s2.heap.objs.size = none) ∧ tn (i + 1) s9.heap ∧ (∀ b ∈ fp, H9 b = none) ∧ Inv (cxComp X scope P2.objs.size Nc s2 H2 fp) [] (subSt σ ix) H9 s9 := fun {H9 s9 m'} I9 => by
        have pD := I9.pin (s2.heap.objs.size, _) (List.mem_append_right _ (List.mem_append_left _ (List.mem_singleton.mpr rfl)))
        refine ⟨⟨pD.1, pD.2.1⟩, T.keep _ _ _ st5 fun b hb o e => (I9.pin (b, o) (List.mem_append_right _ (List.mem_append_right _ (mem_pinsAt hb e)))).1, fun b hb => ?_, ?_⟩
        · obtain ⟨o, e, d⟩ := T.obj _ _ st5 b hb
          exact (I9.pin (b, o) (List.mem_append_right _ (List.mem_append_right _ (mem_pinsAt hb e)))).2.1
        · exact (I9.weak wk.len fun i v e => wk.get e).pins_of fun p hp => absurd hp (by simp)
      cases b with
      | false =>
        rw [if_neg Bool.false_ne_true] at q7 ⊢
        obtain ⟨m', hm, w7⟩ := q7
        obtain ⟨⟨e7, n7⟩, t7, f7, J7⟩ := again (m' := 0) I7
        exact ⟨m', hm, i + 1, acc, its, nn, H7, J7, t7, f7, e7, rv, n7, w7⟩
      | true =>
        rw [if_pos rfl] at q7 ⊢
        refine thn (hE _ s2 H2 fp _ s7 σ6 H7 _ I7 q7) fun y s8 ⟨v, H8, I8, r8, m', hm, w8⟩ => ?_
        obtain ⟨⟨e8, n8⟩, t8, f8, J8⟩ := again (m' := 0) I8
        refine wpAny_list_append_plain (items := its.toArray) ⟨nn, e8⟩ (fun h9 hl9 hs9 => ?_) (by rw [List.size_toArray, ← rv.length]; exact Nat.le_of_lt hz)
        obtain ⟨n9, e9⟩ := hl9
        refine ⟨m', hm, i + 1, acc ++ [v], its ++ [y], n9, H8, J8.turned (t' := s8.toks) (fun b o hb e => (hs9.2 b hb).trans e) n8 hDC (.inr (Nat.le_refl _)) cellD (fun p hp => absurd hp (by simp [cxComp])), ?_, f8, ?_, rv.append (.cons r8 .nil), n8, w8⟩
        · exact T.keep _ _ _ t8 fun b hb o e => (hs9.2 b (Ne.symm (fpD b hb))).trans e
        · simpa using e9
  exact codeAny_compStart_list (loop _ rfl) (T.self _ 0 _ _ _ st₁ (loop _ rfl))

/-- [elt for tg in iter if ..] -/
theorem pe_comp {X : Cx} {tg iter elt : Expr} {ifs : List Expr} {scope : Scope} {pos : Pos} {wi : TI} {g : TG} {tc : TT} {te : TE} (Nc : List Str) (ix : List (Option Nat)) (hi : PI X tg iter wi) (hcalm : X.calm = true) (hix : IxOk X scope Nc ix)
    (hcell : ∀ y ∈ scope.names, y.2 ≠ .cell) (hkind : scope.kind = .function) (hfr : ∀ y ∈ scope.names, y.2 = .free → X.env.kindOf y.1 = some .cell ∨ X.env.kindOf y.1 = some .free)
    (hnames : ∀ x ∈ scope.names, x.2 = .local → scope.names.lookup x.1 = some .local)
    (hG : ∀ C s H fp, PG (cxComp X scope C Nc s H fp) tg g) (hT : ∀ C s H fp, PF (cxComp X scope C Nc s H fp) ifs tc) (hE : ∀ C s H fp, PE (cxComp X scope C Nc s H fp) elt te)
    (hs : ∀ x, foldedSetIterable iter X.env x = pure x := by intro _; rfl) : PE X (.ListComp elt [⟨tg, iter, ifs, 0⟩] scope pos) (tComp wi ix g tc te) := by
  intro pins s σ H Q I h
  rw [eval_ListComp]
  have hfc : ∀ y ∈ scope.names, y.2 = .free → ∃ c, X.env.cells.lookup y.1 = some c := fun y hy e => I.ok.has y.1 (hfr y hy e)
  refine wpAny_comprehension_free (use := none) rfl hs (closureFor_cl hfc) hkind hnames (comp_core hi hcalm hix hcell hkind hfr hG hT hE I h (RR := fun acc C => compPost (model X.prog X.w) X.A X.xe none (EP X pins σ Q) acc C) ?_)
  intro D C oC m H' s' eC hn fC I' q
  refine ⟨m, hn, fun h' hs' => ⟨.ref D, H', ?_, rfl, q⟩⟩
  exact I'.unpinned.turned (t' := s'.toks) (fun b o hb e => (hs'.2 b hb).trans e) fC.1 fC.2.1 fC.2.2.2.1 fC.2.2.2.2.1 fC.2.2.2.2.2
/-- x = [elt for tg in iter if ..] -/
theorem ps_setC {X : Cx} {i : Nat} {x : Str} {tg iter elt : Expr} {ifs : List Expr} {scope : Scope} {pos spos pos' : Pos} {wi : TI} {g : TG} {tc : TT} {te : TE} (Nc : List Str) (ix : List (Option Nat)) (hN : X.N.Nodup) (hxi : X.N[i]? = some x) (hx : Loc X.env.scope x)
    (hsw : swapsWith (.ListComp elt [⟨tg, iter, ifs, 0⟩] scope pos) (some (.Name x pos')) spos.line X.env = pure true) (hi : PI X tg iter wi) (hcalm : X.calm = true) (hix : IxOk X scope Nc ix)
    (hcell : ∀ y ∈ scope.names, y.2 ≠ .cell) (hkind : scope.kind = .function) (hfr : ∀ y ∈ scope.names, y.2 = .free → X.env.kindOf y.1 = some .cell ∨ X.env.kindOf y.1 = some .free)
    (hnames : ∀ x ∈ scope.names, x.2 = .local → scope.names.lookup x.1 = some .local)
    (hG : ∀ C s H fp, PG (cxComp X scope C Nc s H fp) tg g) (hT : ∀ C s H fp, PF (cxComp X scope C Nc s H fp) ifs tc) (hE : ∀ C s H fp, PE (cxComp X scope C Nc s H fp) elt te)
    (hs : ∀ x, foldedSetIterable iter X.env x = pure x := by intro _; rfl) (hf : X.fn x = true ∨ X.env.scope.names.lookup x = some .local := by first | exact .inl rfl | exact .inr rfl | assumption) :
    PS X (.Assign [.Name x pos'] (.ListComp elt [⟨tg, iter, ifs, 0⟩] scope pos) spos) (tAsg (tComp wi ix g tc te) (gName i)) := by
  intro pins s σ H E I h
  have hfc : ∀ y ∈ scope.names, y.2 = .free → ∃ c, X.env.cells.lookup y.1 = some c := fun y hy e => I.ok.has y.1 (hfr y hy e)
  rw [exec_Assign_Name_used _ _ _ _ hsw]
  refine wpAny_bind (wpAny_standAt (wpAny_bind ?_))
  show wpAny _ X.A (do let _ ← comprehension (.ListComp elt [⟨tg, iter, ifs, 0⟩] scope pos) scope X.env _ (newList []) false (eval iter X.env) (some (assign (.Name x pos') X.env))) _ _ s
  refine wpAny_bind (wpAny_mono (wpAny_comprehension_free (use := some (assign (.Name x pos') X.env)) (Q := fun _ s' => SP X pins E .next s') rfl hs (closureFor_cl hfc) hkind hnames
    (comp_core hi hcalm hix hcell hkind hfr hG hT hE I h (RR := fun acc C => compPost (model X.prog X.w) X.A X.xe (some (assign (.Name x pos') X.env)) (fun _ s' => SP X pins E .next s') acc C) ?_)) (fun _ s' hq => wpAny_pure (wpAny_pure hq)) fun _ _ e => e)
  intro D C oC m H' s' eC hn fC I' q
  show wpAny _ X.A (assign (.Name x pos') X.env (.ref D)) _ _ _
  refine wpAny_assign_Name (store_ok I' hN hxi hx (show RelV (.ref D) _ from rfl) (fun s'' I'' => ?_) hf)
  have pC := I''.pin (C, oC) (List.mem_append_right _ (List.mem_append_right _ (List.mem_singleton.mpr rfl)))
  refine ⟨m, ?_, fun h' hs' => ?_⟩
  · obtain ⟨o, es, ep, e, r⟩ := hn
    rw [eC] at e; cases e
    exact ⟨oC, es, ep, pC.1, r⟩
  · refine ⟨_, H', I''.unpinned.turned (t' := s''.toks) (fun b o hb e => (hs'.2 b hb).trans e) fC.1 fC.2.1 fC.2.2.2.1 fC.2.2.2.2.1 fC.2.2.2.2.2, q⟩
end L2
namespace L2
open PySem PySem.Spec PyProof.Rows
/-! ### texts as lists of codes -/
def S (l : List Nat) : Str := ⟨l.toArray⟩
theorem S_list (l : List Nat) : (S l).cps.toList = l := by simp [S]
theorem S_len (l : List Nat) : (S l).length = l.length := by simp [S, Str.length]
theorem S_size (l : List Nat) : (S l).cps.size = l.length := by simp [S]
theorem S_inj {a b : List Nat} (h : S a = S b) : a = b := by
  have := congrArg (fun x : Str => x.cps.toList) h
  simpa [S] using this
theorem S_of (x : Str) : x = S x.cps.toList := by cases x; simp [S]
theorem S_app (a b : List Nat) : S a ++ S b = S (a ++ b) := by
  apply Str.ext'
  apply Array.toList_inj.mp
  simp [S, Str.cps_append]
theorem dec_S {a b : List Nat} : decide (V.str (S a) = V.str (S b)) = decide (a = b) := by
  by_cases h : a = b
  · subst h; simp
  · rw [decide_eq_false h, decide_eq_false]
    intro q
    exact h (S_inj (V.str.inj q))
/-- a part of a list by a slice's bounds -/
def cut {α : Type} (xs : List α) (lo hi : Option Int) : List α := (xs.drop (HT.sIx xs.length 0 lo)).take (HT.sIx xs.length xs.length hi - HT.sIx xs.length 0 lo)
section
variable {X : Cx}
theorem pe_S {x : Str} {j pos} (l : List Nat) (h : x = S l) : PE X (.Constant (.str x) j pos) (tC (.str (S l))) := by
  subst h
  exact pe_str
def rAddS : R2 := fun x y H Q => ∃ a b, x = .str (S a) ∧ y = .str (S b) ∧ a.length + b.length ≤ sizeLine ∧ Q (.str (S (a ++ b))) H
theorem op_addS : OpR X (binaryOp .Add) rAddS := by
  intro pins s σ H x y v u Q I rx ry h
  obtain ⟨a, b, rfl, rfl, hz, q⟩ := h
  exact op_add_str pins s σ H _ _ v u Q I rx ry ⟨S a, S b, rfl, rfl, by rw [S_len, S_len]; exact hz, by rw [S_app]; exact q⟩
def rIxS' : R2 := fun x y H Q => ∃ l i c, x = .str (S l) ∧ y = .int i ∧ l.length ≤ sizeLine ∧ atI l i = some c ∧ Q (.str (S [c])) H
theorem ix_S : IxR X rIxS' := by
  intro value slice pins s σ H x y v u Q I rx ry h hs
  obtain ⟨l, i, c, rfl, rfl, hz, he, q⟩ := h
  exact ix_str value slice pins s σ H _ _ v u Q I rx ry ⟨S l, i, c, rfl, rfl, by rw [S_len]; exact hz, by rw [S_list]; exact he, q⟩ hs
theorem call_lenS : CallR X (.builtin "len") (fun xs H Q => ∃ l, xs = [.str (S l)] ∧ l.length ≤ sizeLine ∧ Q (.int l.length) H) := by
  intro pins s σ H xs us Q I r h
  obtain ⟨l, rfl, hz, q⟩ := h
  exact call_len_str pins s σ H _ us Q I r ⟨S l, rfl, by rw [S_len]; exact hz, by rw [S_len]; exact q⟩
/-- list(text) -/
def sgs (l : List Nat) : List V := l.map fun c => V.str (S [c])
theorem vals_signs {l : List Nat} : ∀ {acc : List Value} , acc.length = l.length → (∀ j v, acc[j]? = some v → SignAt (S l) j v) → Vals (sgs l) acc := by
  induction l with
  | nil => intro acc h _; have : acc = [] := List.eq_nil_of_length_eq_zero h; subst this; exact .nil
  | cons c l ih =>
    intro acc h k
    cases acc with
    | nil => cases h
    | cons a acc =>
      refine .cons ?_ (ih (by simpa using h) fun j v e => ?_)
      · obtain ⟨c', u, e1, e2⟩ := k 0 a rfl
        have : c = c' := by simpa [S] using e1
        subst this
        exact ⟨u, e2⟩
      · obtain ⟨c', u, e1, e2⟩ := k (j + 1) v (by simpa using e)
        exact ⟨c', u, by simpa [S] using e1, e2⟩
theorem call_listS (hc : X.calm = true) : CallR X (.type "list") (fun xs H Q => ∃ l, xs = [.str (S l)] ∧ l.length ≤ sizeLine ∧ ∀ p, H p = none → Q (.ref p) (upd H p (.lst (sgs l)))) := by
  intro pins s σ H xs us Q I r h
  obtain ⟨l, rfl, hz, q⟩ := h
  obtain ⟨u, rfl, t, rfl⟩ := vals1 r
  refine call_list_str (I.ok.hd hc) (S l) t (fun h' tk acc' c' hk e hacc => ?_) (by rw [S_size]; exact hz)
  obtain ⟨h1, h2⟩ := hacc
  rw [S_size] at h1
  refine ⟨.ref s.heap.objs.size, _, I.laid (t' := tk) (o := .lst (sgs l)) hk (Nat.le_refl _) ?_, rfl, q _ I.fresh⟩
  exact ⟨by unfold sgs; rw [List.length_map]; exact hz, acc'.toList, c', vals_signs (by simpa using h1) (fun j v e => h2 j v (by simpa using e)), by simpa using e⟩
/-- one sign in a text -/
def rInS : R2 := fun x y H Q => ∃ c l, x = .str (S [c]) ∧ y = .str (S l) ∧ Q (.bl (decide (c ∈ l))) H
theorem op_inS : OpR X (compareOp .In) rInS := by
  intro pins s σ H x y v u Q I rx ry h
  obtain ⟨c, l, rfl, rfl, q⟩ := h
  refine op_in_str pins s σ H _ _ v u Q I rx ry ⟨S [c], S l, rfl, rfl, ?_⟩
  have e := StrLaws.found_one (S l) c
  rw [S_list] at e
  rw [show (S [c]) = (⟨#[c]⟩ : Str) from rfl, e]
  exact q
def rNinS : R2 := fun x y H Q => ∃ c l, x = .str (S [c]) ∧ y = .str (S l) ∧ Q (.bl (!decide (c ∈ l))) H
theorem op_ninS : OpR X (compareOp .NotIn) rNinS := by
  intro pins s σ H x y v u Q I rx ry h
  obtain ⟨c, l, rfl, rfl, q⟩ := h
  refine op_notIn_str pins s σ H _ _ v u Q I rx ry ⟨S [c], S l, rfl, rfl, ?_⟩
  have e := StrLaws.found_one (S l) c
  rw [S_list] at e
  rw [show (S [c]) = (⟨#[c]⟩ : Str) from rfl, e]
  exact q
end
end L2
namespace L2
open PySem PySem.Spec PyProof.Rows
/-! ### the first place of a sign -/
theorem occ_stays (s sub : Str) (hi : Nat) : ∀ (l : List Nat) (st : Array Nat × Nat), 1 ≤ st.fst.size → (forIn l st (StrLaws.occBody s sub hi 1)).run.fst = st.fst
  | [], st, h => rfl
  | a :: l, st, h => by
    rw [List.forIn_cons]
    unfold StrLaws.occBody
    rw [if_neg (fun z => absurd z.1.1.1 (Nat.not_lt.mpr h))]
    exact occ_stays s sub hi l _ h
theorem occ_first (s sub : Str) (hi : Nat) : ∀ (l : List Nat) (free : Nat), (∀ i ∈ l, free ≤ i) →
    (forIn l ((#[] : Array Nat), free) (StrLaws.occBody s sub hi 1)).run.fst.toList = (l.find? fun i => decide (i + sub.length ≤ hi) && Builtin.Str.subAt s sub i).toList
  | [], free, _ => rfl
  | a :: l, free, hf => by
    rw [List.forIn_cons, List.find?_cons]
    unfold StrLaws.occBody
    have ha : free ≤ a := hf a List.mem_cons_self
    by_cases hc : a + sub.length ≤ hi ∧ Builtin.Str.subAt s sub a = true
    · rw [if_pos ⟨⟨⟨by simp, ha⟩, hc.1⟩, hc.2⟩]
      have : (decide (a + sub.length ≤ hi) && Builtin.Str.subAt s sub a) = true := by simp [hc]
      rw [this]
      show (forIn l (#[].push a, a + sub.length) (StrLaws.occBody s sub hi 1)).run.fst.toList = _
      rw [occ_stays s sub hi l _ (by simp)]
      rfl
    · rw [if_neg (fun z => hc ⟨z.1.2, z.2⟩)]
      have : (decide (a + sub.length ≤ hi) && Builtin.Str.subAt s sub a) = false := by
        cases h1 : decide (a + sub.length ≤ hi) with
        | false => rfl
        | true =>
          cases h2 : Builtin.Str.subAt s sub a with
          | false => rfl
          | true => exact absurd ⟨of_decide_eq_true h1, h2⟩ hc
      rw [this]
      exact occ_first s sub hi l free fun i hi' => hf i (List.mem_cons_of_mem _ hi')
theorem subAt_one (l : List Nat) (c i : Nat) : Builtin.Str.subAt (S l) (S [c]) i = (l[i]? == some c) := by
  unfold Builtin.Str.subAt
  rw [S_len]
  show ((S l).cps.extract i (i + 1) == #[c]) = _
  have e : ((S l).cps.extract i (i + 1)) = ((l.drop i).take 1).toArray := by
    apply Array.toList_inj.mp
    simp [S, List.take_drop]
  rw [e]
  by_cases h : i < l.length
  · have e2 : (l.drop i).take 1 = [l[i]] := by
      rw [List.drop_eq_getElem_cons h]; rfl
    rw [e2, List.getElem?_eq_getElem h]
    by_cases hc : l[i] = c
    · rw [hc]; simp
    · have h1 : ([l[i]].toArray == #[c]) = false := by
        rw [beq_eq_false_iff_ne]
        intro z
        apply hc
        have := congrArg Array.toList z
        simpa using this
      have h2 : (some l[i] == some c) = false := by simpa using hc
      rw [h1, h2]
  · have e2 : (l.drop i).take 1 = [] := by rw [List.drop_eq_nil_of_le (by omega)]; rfl
    rw [e2, List.getElem?_eq_none (by omega)]
    rfl
theorem find_idx (l : List Nat) (c : Nat) : ∀ (k n : Nat), k + n = l.length + 1 → ((List.range' k n).find? fun i => decide (i + 1 ≤ l.length) && (l[i]? == some c)) = if c ∈ l.drop k then some (k + (l.drop k).idxOf c) else none
  | k, 0, h => by
    have : l.drop k = [] := List.drop_eq_nil_of_le (by omega)
    rw [this]; simp
  | k, n + 1, h => by
    rw [List.range'_succ, List.find?_cons]
    by_cases hk : k < l.length
    · have e : l.drop k = l[k] :: l.drop (k + 1) := List.drop_eq_getElem_cons hk
      rw [List.getElem?_eq_getElem hk, e]
      by_cases hc : l[k] = c
      · have : (decide (k + 1 ≤ l.length) && (some l[k] == some c)) = true := by simp [hc]; omega
        rw [this, if_pos (by simp [hc])]
        simp [hc]
      · have : (decide (k + 1 ≤ l.length) && (some l[k] == some c)) = false := by simp [hc]
        rw [this, find_idx l c (k + 1) n (by omega)]
        have hc' : ¬ c = l[k] := fun z => hc z.symm
        by_cases hm : c ∈ l.drop (k + 1)
        · rw [if_pos hm, if_pos (List.mem_cons_of_mem _ hm), List.idxOf_cons]
          have : (l[k] == c) = false := by simpa using hc
          rw [this]
          show some (k + 1 + List.idxOf c (List.drop (k + 1) l)) = some (k + (List.idxOf c (List.drop (k + 1) l) + 1))
          congr 1
          omega
        · rw [if_neg hm, if_neg (by intro z; rcases List.mem_cons.mp z with z | z; exact hc' z; exact hm z)]
    · have : l.drop k = [] := List.drop_eq_nil_of_le (by omega)
      have e1 : (decide (k + 1 ≤ l.length) && (l[k]? == some c)) = false := by
        rw [decide_eq_false (by omega)]; rfl
      have e2 : l.drop (k + 1) = [] := List.drop_eq_nil_of_le (by omega)
      rw [e1, find_idx l c (k + 1) n (by omega), this, e2]
      simp
theorem occ_S (l : List Nat) (c : Nat) : Builtin.Str.occurrences (S l) (S [c]) 0 (S l).length 1 = if c ∈ l then [l.idxOf c] else [] := by
  rw [StrLaws.occ_eq, occ_first _ _ _ _ 0 fun _ _ => Nat.zero_le _]
  have e : (fun i => decide (i + (S [c]).length ≤ (S l).length) && Builtin.Str.subAt (S l) (S [c]) i) = fun i => decide (i + 1 ≤ l.length) && (l[i]? == some c) := by
    funext i
    rw [subAt_one, S_len, S_len]
    rfl
  rw [e, S_len, Nat.sub_zero, find_idx l c 0 (l.length + 1) (by omega), List.drop_zero]
  by_cases h : c ∈ l
  · rw [if_pos h, if_pos h, Nat.zero_add]; rfl
  · rw [if_neg h, if_neg h]; rfl

section
variable {X : Cx}
def rIndexS : V → List V → Hp → VK → Prop := fun x vs H Q => ∃ l c, x = .str (S l) ∧ vs = [.str (S [c])] ∧ c ∈ l ∧ Q (.int (l.idxOf c : Nat)) H
theorem mt_indexS : MtR X "str.index" rIndexS := by
  intro pins s σ H x xs v us Q I rx rv h
  obtain ⟨l, c, rfl, rfl, hc, q⟩ := h
  obtain ⟨t, rfl⟩ := rx
  obtain ⟨u, rfl, t', rfl⟩ := vals1 rv
  exact SC.index (i := l.idxOf c) (rest := []) (by rw [occ_S, if_pos hc]) ⟨.int (l.idxOf c : Nat), H, I.tok _, ⟨_, rfl⟩, q⟩
/-- one ASCII sign: islower, isupper, upper, lower -/
def rLowS (f : Nat → Bool) : V → List V → Hp → VK → Prop := fun x vs H Q => ∃ c, x = .str (S [c]) ∧ vs = [] ∧ c < 128 ∧ Q (.bl (f c)) H
def rUpS (f : Nat → Nat) : V → List V → Hp → VK → Prop := fun x vs H Q => ∃ c, x = .str (S [c]) ∧ vs = [] ∧ c < 128 ∧ Q (.str (S [f c])) H
def isLow (c : Nat) : Bool := decide (97 ≤ c) && decide (c ≤ 122)
theorem low_all : ∀ c, c < 128 → Txt.islower ⟨#[c]⟩ = isLow c := by decide +kernel
theorem mt_islower : MtR X "str.islower" (rLowS isLow) := by
  intro pins s σ H x xs v us Q I rx rv h
  obtain ⟨c, rfl, rfl, hc, q⟩ := h
  obtain ⟨t, rfl⟩ := rx
  have e : us = [] := by cases rv; rfl
  subst e
  exact SC.islower ⟨.bl (isLow c), H, I, congrArg Value.bool (low_all c hc), q⟩
theorem lower_one {c : Nat} (hc : c < 128) : Txt.lower (S [c]) = S [lo1 c] := by
  rw [lower_ascii (by intro d hd; rw [S_list] at hd; simp at hd; omega)]
  simp [S]
theorem fits1 (c : Nat) : Builtin.Str.tooLong (S [c]).length = false := by
  rw [S_len]
  show Builtin.Str.tooLong 1 = false
  decide
theorem mt_lower : MtR X "str.lower" (rUpS lo1) := by
  intro pins s σ H x xs v us Q I rx rv h
  obtain ⟨c, rfl, rfl, hc, q⟩ := h
  obtain ⟨t, rfl⟩ := rx
  have e : us = [] := by cases rv; rfl
  subst e
  exact SC.lower (by rw [lower_one hc]; exact fits1 _) ⟨.str (S [lo1 c]), H, I.tok _, ⟨_, congrArg (fun z => Value.str z _) (lower_one hc)⟩, q⟩
/-! ### ''.join(list of texts) -/
theorem glue_S : ∀ (ls : List (List Nat)) (a : Array Nat), (ls.map S).foldl (fun acc p => acc ++ (S []).cps ++ p.cps) a = a ++ ls.flatten.toArray
  | [], a => by simp
  | l :: ls, a => by
    rw [List.map_cons, List.foldl_cons, glue_S ls]
    simp [S]
theorem join_S (ls : List (List Nat)) : Txt.join (S []) (ls.map S) = S ls.flatten := by
  unfold Txt.join Builtin.Str.glued
  cases ls with
  | nil => rfl
  | cons l ls =>
    show Str.mk ((List.map S ls).foldl (fun acc p => acc ++ (S []).cps ++ p.cps) (S l).cps) = _
    rw [glue_S]
    simp [S]
theorem strsAre_of : ∀ {ls : List (List Nat)} {us : List Value}, Vals (ls.map fun l => V.str (S l)) us → StrsAre us (ls.map S)
  | [], us, r => by cases r; exact .nil
  | l :: ls, us, r => by
    cases r with
    | cons r1 r2 =>
      obtain ⟨t, rfl⟩ := r1
      exact .cons _ t (strsAre_of r2)
def rJoinS (K : PySem.W.Frag) : V → List V → Hp → VK → Prop := fun x vs H Q => ∃ (p : Addr) (ls : List (List Nat)), x = .str (S []) ∧ vs = [.ref p] ∧ SqL K H p (ls.map fun l => V.str (S l)) ∧ (ls.map List.length).sum ≤ 16777216 ∧ Q (.str (S ls.flatten)) H
theorem mt_joinS : MtR X "str.join" (rJoinS X.K) := by
  intro pins s σ H x xs v us Q I rx rv h
  obtain ⟨p, ls, rfl, rfl, hq, hz, q⟩ := h
  obtain ⟨t, rfl⟩ := rx
  obtain ⟨u, rfl, ru⟩ := vals1 rv
  cases ru
  obtain ⟨its, r, pl, _⟩ := I.list hq
  have e : (S []).length = 0 := rfl
  refine join_list pl.isList (by simpa using strsAre_of r) ?_ fun t' k => ?_
  · rw [e, Nat.mul_zero, Nat.add_zero, List.map_map]
    have e2 : (Str.length ∘ S) = List.length := by funext l; exact S_len l
    have e3 : ((fun x : Str => x.length) ∘ S) = List.length := by funext l; exact S_len l
    first | (rw [e2]; exact hz) | (rw [e3]; exact hz)
  · exact ⟨.str (S ls.flatten), H, I.tok _, ⟨t', congrArg (fun z => Value.str z t') (join_S ls)⟩, q⟩
/-! ### isinstance(x, str) -/
/-! ### all(list of truths) -/
end
end L2
namespace L2.F2
open PySem PySem.Spec PyProof.Rows
end L2.F2
namespace L2
open PySem PySem.Spec PyProof.Rows
section
variable {prog : Program} {w : World} {A : Around} {E : Value → Shared → Prop} {s : Shared}
/-- the iterator at it: i is the next place -/
def IsRevS (h : Heap) (it : Addr) (x : Str) (t : Tok) (i : Int) : Prop := ∃ o, h.get? it = some o ∧ o.cls = .type "reversed" ∧ o.data = .fields #[.str x t, rawInt i]
theorem IsRevS.typeIs {it : Addr} {x : Str} {t : Tok} {i : Int} (h : IsRevS s.heap it x t i) : s.TypeIs (.ref it) "reversed" := let ⟨o, ho, hc, _⟩ := h; ⟨o, ho, hc⟩
end
/-! ### fixed items -/
def Itx (xs : List V) : It := ⟨fun i _ => i < xs.length, fun i H x H' => H' = H ∧ xs[i]? = some x, fun i _ => xs.length ≤ i⟩
theorem sgs_get {l : List Nat} {i : Nat} {x : V} (h : (sgs l)[i]? = some x) : ∃ c, l[i]? = some c ∧ x = .str (S [c]) := by
  unfold sgs at h
  rw [List.getElem?_map] at h
  cases e : l[i]? with
  | none => rw [e] at h; cases h
  | some c => rw [e] at h; cases h; exact ⟨c, rfl, rfl⟩
theorem sgs_len (l : List Nat) : (sgs l).length = l.length := by unfold sgs; rw [List.length_map]
theorem turn_str {P : Program} {w : World} {K : PySem.W.Frag} {tg : Expr} (it : Addr) (l : List Nat) (t : Tok) : Turn P w K tg (Itx (sgs l)) [it] it (fun i h => h.IsStrIter it (strIterType (S l)) (S l) t i) where
  mem := by simp
  obj := fun i h st b hb => by
    have e : b = it := by simpa using hb
    subst e
    obtain ⟨o, e, c, d⟩ := st
    exact ⟨o, e, fun v z => by rw [d] at z; cases z⟩
  keep := fun i h h' st k => let ⟨o, e, r⟩ := st; ⟨o, k it (by simp) o e, r⟩
  item := by
    intro X hP hw hK hc i pins s σ H E I hf st hg
    subst hP hw hK
    have hg' : i < l.length := by have : i < (sgs l).length := hg; rwa [sgs_len] at this
    obtain ⟨f0, f1, f2, f3, f4, f5⟩ := hf it (by simp)
    have fin : ∀ (v : Value) (h' : Heap) (tk : Nat), SignAt (S l) i v → h'.IsStrIter it (strIterType (S l)) (S l) t (i + 1) → (∀ b o, b ∉ [it] → s.heap.get? b = some o → h'.get? b = some o) →
        ∃ u, some v = some u ∧ wpAny (model X.prog X.w) X.A (letOwnedTupleGo tg (.ref it) u) (fun _ s2 => ∃ x H', Inv X pins σ H' s2 ∧ RelV x u ∧ (Itx (sgs l)).yld i H x H' ∧ s2.heap.IsStrIter it (strIterType (S l)) (S l) t (i + 1) ∧ ∀ b ∈ [it], H' b = none) E { s with heap := h', toks := tk } := by
      intro v h' tk hv st' kk
      obtain ⟨c, u, e1, e2⟩ := hv
      subst e2
      have I1 : Inv X pins σ H { s with heap := h', toks := tk } := I.turned (fun b o hb e => kk b o (by simpa using hb) e) f0 f1 f3 f4 f5
      obtain ⟨o, e, cc, d⟩ := id st'
      refine ⟨_, rfl, go_of (s := { s with heap := h', toks := tk }) e cc d (by unfold strIterType; split <;> decide) ⟨.str (S [c]), H, I1, ⟨u, rfl⟩, ⟨rfl, ?_⟩, st', fun b hb => (hf b hb).1⟩⟩
      unfold sgs
      rw [List.getElem?_map]
      have e1' : l[i]? = some c := by simpa [S] using e1
      rw [e1']
      rfl
    have hsz : i < (S l).cps.size := by rw [S_size]; exact hg'
    by_cases ha : (S l).cps.all (· < 128) = true
    · have et : strIterType (S l) = "str_ascii_iterator" := by unfold strIterType; rw [if_pos ha]
      rw [et] at st
      exact (Walks.strAscii (prog := X.prog) (w := X.w) (I.ok.hd hc) it (S l) t).item i s _ _ hsz st fun v h' tk hv st' kk => fin v h' tk hv (by rw [et]; exact st') kk
    · have et : strIterType (S l) = "str_iterator" := by unfold strIterType; rw [if_neg ha]
      rw [et] at st
      exact (Walks.strWide (prog := X.prog) (w := X.w) (I.ok.hd hc) it (S l) t).item i s _ _ hsz st fun v h' tk hv st' kk => fin v h' tk hv (by rw [et]; exact st') kk
  done := by
    intro X hP hw hK hc i pins s σ H E I hf st hg
    subst hP hw hK
    obtain ⟨f0, f1, f2, f3, f4, f5⟩ := hf it (by simp)
    have hg' : l.length ≤ i := by have : (sgs l).length ≤ i := hg; rwa [sgs_len] at this
    have hx : (S l).cps[i]? = none := by rw [Array.getElem?_eq_none_iff, S_size]; exact hg'
    by_cases ha : (S l).cps.all (· < 128) = true
    · have et : strIterType (S l) = "str_ascii_iterator" := by unfold strIterType; rw [if_pos ha]
      rw [et] at st
      exact wpAny_pyNext_ascii_end (I.ok.hd hc) st hx fun h' eb => ⟨rfl, I.turned (t' := s.toks) (fun b o hb e => eb b o hb e) f0 f1 f3 f4 f5⟩
    · have et : strIterType (S l) = "str_iterator" := by unfold strIterType; rw [if_neg ha]
      rw [et] at st
      exact wpAny_pyNext_wide_end (I.ok.hd hc) st hx fun h' eb => ⟨rfl, I.turned (t' := s.toks) (fun b o hb e => eb b o hb e) f0 f1 f3 f4 f5⟩
  self := fun _ _ s _ _ st h => by
    by_cases ha : (S l).cps.all (· < 128) = true
    · have et : strIterType (S l) = "str_ascii_iterator" := by unfold strIterType; rw [if_pos ha]
      rw [et] at st
      exact wpAny_pyIter_striter_ascii st h
    · have et : strIterType (S l) = "str_iterator" := by unfold strIterType; rw [if_neg ha]
      rw [et] at st
      exact wpAny_pyIter_striter_wide st h
section
variable {X : Cx} {tg : Expr}
def iStr (tl : TE) : TI := fun σ H R => tl σ H fun x H1 => ∃ l, x = .str (S l) ∧ R (Itx (sgs l)) H1
theorem pi_str {l : Expr} {tl : TE} (hl : PE X l tl) : PI X tg l (iStr tl) := by
  intro pins s σ H R I h
  refine thn (hl pins s σ H _ I h) fun v s1 ⟨x, H1, I1, r1, q1⟩ => ?_
  obtain ⟨l, rfl, q⟩ := q1
  obtain ⟨t, rfl⟩ := r1
  refine wpAny_pyIter_strU ?_
  refine ⟨s1.heap.objs.size, [s1.heap.objs.size], _, _, H1, rfl, I1.kept (t' := s1.toks) fun b o e => Heap.get?_push_of_some _ e, turn_str _ l t, ⟨_, Heap.get?_push_size _ rfl, rfl, rfl⟩, fun b hb => ?_, q⟩
  have e : b = s1.heap.objs.size := by simpa using hb
  subst e
  exact I1.fpOk (Nat.le_refl _) (I1.hok.fresh (Nat.le_refl _))
end
/-! ### loops and comprehensions over fixed items -/
theorem for_fix {xs : List V} {g : TG} {tb : TS} {D : Ends} {σ : St} {H : Hp} (Pv : Nat → St → Hp → Prop) (h0 : Pv 0 σ H)
    (hs : ∀ i x σ H, xs[i]? = some x → Pv i σ H → g x σ H fun σ2 H2 => tb { D with nx := Pv (i + 1), ct := Pv (i + 1), bk := D.nx } σ2 H2) (hd : ∀ σ H, Pv xs.length σ H → D.nx σ H) :
    ∃ W : Nat → Nat → St → Hp → Prop, (∃ m, W 0 m σ H) ∧ ∀ i m σ H, W i m σ H →
      ((Itx xs).stop i H ∧ D.nx σ H) ∨ ((Itx xs).go i H ∧ ∃ N : St → Hp → Prop, (∀ σ' H', N σ' H' → ∃ m', m' < m ∧ W (i + 1) m' σ' H') ∧ ∀ x H', (Itx xs).yld i H x H' → g x σ H' fun σ2 H2 => tb { D with nx := N, ct := N, bk := D.nx } σ2 H2) := by
  refine ⟨fun i m σ H => m = xs.length - i ∧ i ≤ xs.length ∧ Pv i σ H, ⟨xs.length, by simp, Nat.zero_le _, h0⟩, ?_⟩
  rintro i m σ H ⟨rfl, hi, p⟩
  by_cases hlt : i < xs.length
  · refine .inr ⟨hlt, Pv (i + 1), fun σ' H' p' => ⟨xs.length - (i + 1), by omega, rfl, hlt, p'⟩, fun x H' y => ?_⟩
    obtain ⟨e, y⟩ := y
    subst e
    exact hs i x σ _ y p
  · have e : i = xs.length := by omega
    subst e
    exact .inl ⟨Nat.le_refl _, hd σ H p⟩
theorem comp_by {J : It} {n : Nat} {xs : Nat → V → Prop} {σc : St} {g : TG} {tc : TT} {te : TE} {Q : VK} {H1 : Hp} (Pv : Nat → List V → Hp → Prop) (hn : n < sizeLine) (hgo : ∀ i acc H, i < n → Pv i acc H → J.go i H) (hstop : ∀ acc H, Pv n acc H → J.stop n H)
    (hy : ∀ i acc H x H', i < n → Pv i acc H → J.yld i H x H' → H' = H ∧ xs i x) (h0 : Pv 0 [] H1)
    (hs : ∀ (i : Nat) (x : V) (acc : List V) (H : Hp) (Nx : List V → Hp → Prop), i < n → xs i x → acc.length ≤ i → Pv i acc H → (∀ acc' H', acc'.length ≤ i + 1 → Pv (i + 1) acc' H' → Nx acc' H') →
      g x σc H fun σ2 H2 => Wk σc σ2 ∧ tc σ2 H2 fun b H3 => if b = true then te σ2 H3 fun v H4 => Nx (acc ++ [v]) H4 else Nx acc H3)
    (hd : ∀ acc H D, acc.length ≤ n → Pv n acc H → H D = none → Q (.ref D) (upd H D (.lst acc))) : CompW J σc g tc te Q H1 := by
  refine ⟨fun i m acc H => m = n - i ∧ i ≤ n ∧ acc.length ≤ i ∧ Pv i acc H, ⟨n, by simp, Nat.zero_le _, Nat.le_refl _, h0⟩, ?_⟩
  rintro i m acc H ⟨rfl, hi, hl, p⟩
  refine ⟨by omega, ?_⟩
  by_cases hlt : i < n
  · refine .inr ⟨hgo i acc H hlt p, fun x H' y => ?_⟩
    obtain ⟨rfl, y2⟩ := hy i acc H x H' hlt p y
    exact hs i x acc _ (fun acc' H' => ∃ m', m' < n - i ∧ (m' = n - (i + 1) ∧ i + 1 ≤ n ∧ acc'.length ≤ i + 1 ∧ Pv (i + 1) acc' H')) hlt y2 hl p fun acc' H' h1 h2 => ⟨n - (i + 1), by omega, rfl, hlt, h1, h2⟩
  · have e : i = n := by omega
    subst e
    exact .inl ⟨hstop acc H p, fun D hD => hd acc H D hl p hD⟩
theorem comp_fix {xs : List V} {σc : St} {g : TG} {tc : TT} {te : TE} {Q : VK} {H1 : Hp} (Pv : Nat → List V → Hp → Prop) (hn : xs.length < sizeLine) (h0 : Pv 0 [] H1)
    (hs : ∀ (i : Nat) (x : V) (acc : List V) (H : Hp) (Nx : List V → Hp → Prop), i < xs.length → xs[i]? = some x → acc.length ≤ i → Pv i acc H → (∀ acc' H', acc'.length ≤ i + 1 → Pv (i + 1) acc' H' → Nx acc' H') →
      g x σc H fun σ2 H2 => Wk σc σ2 ∧ tc σ2 H2 fun b H3 => if b = true then te σ2 H3 fun v H4 => Nx (acc ++ [v]) H4 else Nx acc H3)
    (hd : ∀ acc H D, acc.length ≤ xs.length → Pv xs.length acc H → H D = none → Q (.ref D) (upd H D (.lst acc))) : CompW (Itx xs) σc g tc te Q H1 :=
  comp_by (xs := fun i x => xs[i]? = some x) Pv hn (fun i _ _ h _ => h) (fun _ _ _ => Nat.le_refl _) (fun i _ H x H' _ _ y => y) h0 hs hd
theorem comp_rng {lo : Int} {n : Nat} {σc : St} {g : TG} {tc : TT} {te : TE} {Q : VK} {H1 : Hp} (Pv : Nat → List V → Hp → Prop) (hn : n < sizeLine) (h0 : Pv 0 [] H1)
    (hs : ∀ (i : Nat) (acc : List V) (H : Hp) (Nx : List V → Hp → Prop), i < n → acc.length ≤ i → Pv i acc H → (∀ acc' H', acc'.length ≤ i + 1 → Pv (i + 1) acc' H' → Nx acc' H') →
      g (.int (lo + i)) σc H fun σ2 H2 => Wk σc σ2 ∧ tc σ2 H2 fun b H3 => if b = true then te σ2 H3 fun v H4 => Nx (acc ++ [v]) H4 else Nx acc H3)
    (hd : ∀ acc H D, acc.length ≤ n → Pv n acc H → H D = none → Q (.ref D) (upd H D (.lst acc))) : CompW (Itr lo n) σc g tc te Q H1 :=
  comp_by (xs := fun i x => x = .int (lo + i)) Pv hn (fun i _ _ h _ => h) (fun _ _ _ => Nat.le_refl _) (fun i _ H x H' _ _ y => y) h0 (fun i x acc H Nx h1 h2 => by subst h2; exact hs i acc H Nx h1) hd
theorem comp_list {K : PySem.W.Frag} {a : Addr} {xs : List V} {σc : St} {g : TG} {tc : TT} {te : TE} {Q : VK} {H1 : Hp} (Pv : Nat → List V → Hp → Prop) (hn : xs.length < sizeLine) (hl : ∀ i acc H, Pv i acc H → SqL K H a xs) (h0 : Pv 0 [] H1)
    (hs : ∀ (i : Nat) (x : V) (acc : List V) (H : Hp) (Nx : List V → Hp → Prop), i < xs.length → xs[i]? = some x → acc.length ≤ i → Pv i acc H → (∀ acc' H', acc'.length ≤ i + 1 → Pv (i + 1) acc' H' → Nx acc' H') →
      g x σc H fun σ2 H2 => Wk σc σ2 ∧ tc σ2 H2 fun b H3 => if b = true then te σ2 H3 fun v H4 => Nx (acc ++ [v]) H4 else Nx acc H3)
    (hd : ∀ acc H D, acc.length ≤ xs.length → Pv xs.length acc H → H D = none → Q (.ref D) (upd H D (.lst acc))) : CompW (Itl K a) σc g tc te Q H1 :=
  comp_by (xs := fun i x => xs[i]? = some x) Pv hn (fun i acc H h p => ⟨xs, xs[i], hl i acc H p, by simp [h]⟩) (fun acc H p => ⟨xs, hl _ acc H p, Nat.le_refl _⟩) (fun i acc H x H' h p y => ⟨y.1, y.2 xs (hl i acc H p)⟩) h0 hs hd

/-! ### while, its measure within the word -/
def tWhileN (c : TT) (tb : TS) : TS := fun D σ H => ∃ W : Nat → St → Hp → Prop, (∃ m, W m σ H) ∧ ∀ m σ H, W m σ H →
  c σ H fun b H1 => if b = true then tb { D with nx := fun σ' H' => ∃ m', m' < m ∧ W m' σ' H', ct := fun σ' H' => ∃ m', m' < m ∧ W m' σ' H', bk := D.nx } σ H1 else D.nx σ H1
theorem ps_whileN {X : Cx} {c : Expr} {body : List Stmt} {tc : TT} {tb : TS} {pos : Pos} (hp : PassesOwn (model X.prog X.w) X.A X.env X.xe) (hc : PT X c tc) (hb : PSs X body tb) : PS X (.While c body [] pos) (tWhileN tc tb) := by
  intro pins s σ H D I h
  obtain ⟨W, ⟨m0, w0⟩, turn⟩ := h
  refine wpAny_While (codeAny_whileLoop (fun n s' => ∃ σ' H', Inv X pins σ' H' s' ∧ W n σ' H') ?_ m0 ⟨σ, H, I, w0⟩)
  rintro n s1 ⟨σ1, H1, I1, w1⟩
  refine wpAny_passesOwn hp (thn (hc pins s1 σ1 H1 _ I1 (turn n σ1 H1 w1)) fun b s2 ⟨H2, I2, q2⟩ => ?_)
  cases b with
  | true =>
    rw [if_pos rfl] at q2 ⊢
    refine wpAny_passesOwn hp (thn (hb pins s2 σ1 H2 _ I2 q2) fun f s3 q3 => ?_)
    cases f with
    | next =>
      obtain ⟨σ3, H3, I3, m', hm, w3⟩ := q3
      exact ⟨m', hm, σ3, H3, I3, w3⟩
    | cont =>
      obtain ⟨σ3, H3, I3, m', hm, w3⟩ := q3
      exact ⟨m', hm, σ3, H3, I3, w3⟩
    | brk => exact q3
    | ret v => exact q3
  | false =>
    rw [if_neg Bool.false_ne_true] at q2 ⊢
    exact wpAny_execs_nil ⟨σ1, H2, I2, q2⟩

/-! ### the comprehension's rule with its checks reckoned -/
def compOk (X : Cx) (scope : Scope) : Bool := (scope.names.all fun y => y.2 != .cell) && (scope.kind == .function) && (scope.names.all fun y => y.2 != .free || X.env.kindOf y.1 == some .cell || X.env.kindOf y.1 == some .free) && (scope.names.all fun y => y.2 != .local || scope.names.lookup y.1 == some .local)
theorem compOk_parts {X : Cx} {scope : Scope} (h : compOk X scope = true) : (∀ y ∈ scope.names, y.2 ≠ .cell) ∧ scope.kind = .function ∧ (∀ y ∈ scope.names, y.2 = .free → X.env.kindOf y.1 = some .cell ∨ X.env.kindOf y.1 = some .free) ∧ (∀ x ∈ scope.names, x.2 = .local → scope.names.lookup x.1 = some .local) := by
  unfold compOk at h
  simp only [Bool.and_eq_true] at h
  obtain ⟨⟨⟨h1, h2⟩, h3⟩, h4⟩ := h
  refine ⟨fun y hy e => ?_, by simpa using h2, fun y hy e => ?_, fun y hy e => ?_⟩
  · have := List.all_eq_true.mp h1 y hy
    rw [e] at this; simp at this
  · have := List.all_eq_true.mp h3 y hy
    rw [e] at this
    simpa using this
  · have := List.all_eq_true.mp h4 y hy
    rw [e] at this
    simpa using this
theorem pe_compB {X : Cx} {tg iter elt : Expr} {ifs : List Expr} {scope : Scope} {pos : Pos} {wi : TI} {g : TG} {tc : TT} {te : TE} (Nc : List Str) (ix : List (Option Nat)) (hi : PI X tg iter wi) (hix : IxOk X scope Nc ix)
    (hG : ∀ C s H fp, PG (cxComp X scope C Nc s H fp) tg g) (hT : ∀ C s H fp, PF (cxComp X scope C Nc s H fp) ifs tc) (hE : ∀ C s H fp, PE (cxComp X scope C Nc s H fp) elt te) (hok : compOk X scope = true := by rfl) (hcalm : X.calm = true := by rfl)
    (hs : ∀ x, foldedSetIterable iter X.env x = pure x := by intro _; rfl) : PE X (.ListComp elt [⟨tg, iter, ifs, 0⟩] scope pos) (tComp wi ix g tc te) :=
  let ⟨h1, h2, h3, h4⟩ := compOk_parts hok
  pe_comp Nc ix hi hcalm hix h1 h2 h3 h4 hG hT hE hs
theorem ps_setCB {X : Cx} {i : Nat} {x : Str} {tg iter elt : Expr} {ifs : List Expr} {scope : Scope} {pos spos pos' : Pos} {wi : TI} {g : TG} {tc : TT} {te : TE} (Nc : List Str) (ix : List (Option Nat)) (hN : X.N.Nodup) (hxi : X.N[i]? = some x) (hx : Loc X.env.scope x)
    (hi : PI X tg iter wi) (hix : IxOk X scope Nc ix)
    (hG : ∀ C s H fp, PG (cxComp X scope C Nc s H fp) tg g) (hT : ∀ C s H fp, PF (cxComp X scope C Nc s H fp) ifs tc) (hE : ∀ C s H fp, PE (cxComp X scope C Nc s H fp) elt te)
    (hsw : swapsWith (.ListComp elt [⟨tg, iter, ifs, 0⟩] scope pos) (some (.Name x pos')) spos.line X.env = pure true := by rfl) (hok : compOk X scope = true := by rfl) (hcalm : X.calm = true := by rfl)
    (hs : ∀ x, foldedSetIterable iter X.env x = pure x := by intro _; rfl) (hf : X.fn x = true ∨ X.env.scope.names.lookup x = some .local := by first | exact .inl rfl | exact .inr rfl | assumption) :
    PS X (.Assign [.Name x pos'] (.ListComp elt [⟨tg, iter, ifs, 0⟩] scope pos) spos) (tAsg (tComp wi ix g tc te) (gName i)) :=
  let ⟨h1, h2, h3, h4⟩ := compOk_parts hok
  ps_setC Nc ix hN hxi hx hsw hi hcalm hix h1 h2 h3 h4 hG hT hE hs hf

/-! ### comparisons of ints, of texts -/
section
variable {X : Cx}
def rEqS : R2 := fun x y H Q => ∃ a b, x = .str (S a) ∧ y = .str (S b) ∧ Q (.bl (decide (a = b))) H
def rNeS : R2 := fun x y H Q => ∃ a b, x = .str (S a) ∧ y = .str (S b) ∧ Q (.bl (!decide (a = b))) H
theorem op_eqS : OpR X (compareOp .Eq) rEqS := by
  intro pins s σ H x y v u Q I rx ry h
  obtain ⟨a, b, rfl, rfl, q⟩ := h
  exact op_eq pins s σ H _ _ v u Q I rx ry ⟨rfl, by rw [dec_S]; exact q⟩
theorem op_neS : OpR X (compareOp .NotEq) rNeS := by
  intro pins s σ H x y v u Q I rx ry h
  obtain ⟨a, b, rfl, rfl, q⟩ := h
  exact op_ne pins s σ H _ _ v u Q I rx ry ⟨rfl, by rw [dec_S]; exact q⟩
theorem dec_I {i j : Int} : decide (V.int i = V.int j) = decide (i = j) := by
  by_cases h : i = j
  · subst h; simp
  · rw [decide_eq_false h, decide_eq_false]
    intro q
    exact h (V.int.inj q)
theorem op_neI : OpR X (compareOp .NotEq) (rI0 fun i j => .bl (!decide (i = j))) := by
  intro pins s σ H x y v u Q I rx ry h
  obtain ⟨a, b, rfl, rfl, q⟩ := h
  exact op_ne pins s σ H _ _ v u Q I rx ry ⟨rfl, by rw [dec_I]; exact q⟩
end
end L2
namespace L2
open PySem PySem.Spec PyProof.Rows
/-! ### the rules with the text's written part named -/
section
variable {X : Cx} {tg : Expr}
theorem ix_listK (K : PySem.W.Frag) (h : X.K = K) : IxR X (rIxL K) := by subst h; exact ix_list
theorem ix_tupK (K : PySem.W.Frag) (h : X.K = K) : IxR X (rIxT K) := by subst h; exact ix_tup
def rLenL (K : PySem.W.Frag) : List V → Hp → VK → Prop := fun xs H Q => ∃ p ys, xs = [.ref p] ∧ (SqL K H p ys ∨ SqT K H p ys) ∧ Q (.int ys.length) H
theorem call_len_seqK (K : PySem.W.Frag) (h : X.K = K) : CallR X (.builtin "len") (rLenL K) := by subst h; exact call_len_seq
theorem mt_joinK (K : PySem.W.Frag) (h : X.K = K) : MtR X "str.join" (rJoinS K) := by subst h; exact mt_joinS
def rListOf (K : PySem.W.Frag) : List V → Hp → VK → Prop := fun xs H Q => ∃ p ys, xs = [.ref p] ∧ (SqL K H p ys ∨ SqT K H p ys) ∧ ∀ l, H l = none → Q (.ref l) (upd H l (.lst ys))
theorem call_list_ofK (K : PySem.W.Frag) (h : X.K = K) : CallR X (.type "list") (rListOf K) := by subst h; exact call_list_of
theorem sl_listK (K : PySem.W.Frag) (h : X.K = K) : SlR X (rSlL K) := by subst h; exact sl_list
theorem pi_listK (K : PySem.W.Frag) (h : X.K = K) {l : Expr} {tl : TE} (hl : PE X l tl) : PI X tg l (iList K tl) := by subst h; exact pi_list hl
theorem pi_tupK (K : PySem.W.Frag) (h : X.K = K) {l : Expr} {tl : TE} (hl : PE X l tl) : PI X tg l (iTup K tl) := by subst h; exact pi_tup hl
end
section
variable {X : Cx} {o e : Expr} {es : List Expr} {to : TE} {t : TA} {name : Str} {apos cpos : Pos} {T id : String} {r : V → List V → Hp → VK → Prop}
theorem pe_bm0K (K : PySem.W.Frag) (hK : X.K = K) (pa : PlainAttrs T) (slot : Slot T name id) (hty : typeOf (.builtin id) = pure (.type "method_descriptor")) (hm : MtR X id r) (ho : PE X o to)
    (hbase : attributeBase o name X.env (eval o X.env) = eval o X.env := by rfl) (hline : (apos.endLine == cpos.line) = true := by rfl) : PE X (.Call (.Attribute o name apos) [] [] cpos) (tBM0 K T r to) := by
  subst hK
  exact pe_bm0 pa slot hty hm ho hbase hline
theorem pe_bmK (K : PySem.W.Frag) (hK : X.K = K) (pa : PlainAttrs T) (slot : Slot T name id) (hty : typeOf (.builtin id) = pure (.type "method_descriptor")) (hm : MtR X id r) (ho : PE X o to) (ha : PA X (e :: es) t)
    (hbase : attributeBase o name X.env (eval o X.env) = eval o X.env := by rfl)
    (hfew : ((backTo cpos (starEach (e :: es) X.env)).all (fun x => !x.1) && (backToKw cpos (keywordEach [] X.env)).all (fun x => x.1.isSome)
      && decide ((e :: es).length + ([] : List Keyword).length + (if ([] : List Keyword).isEmpty then 0 else 1) < 30)) = true := by rfl)
    (hline : (apos.endLine == cpos.line) = true := by rfl) (hs : starEach (e :: es) X.env = (false, eval e X.env) :: starEach es X.env := by rfl) (hplain : (backTo cpos (starEach es X.env)).any (·.1) = false := by rfl) :
    PE X (.Call (.Attribute o name apos) (e :: es) [] cpos) (tBM K T r to t) := by
  subst hK
  exact pe_bm pa slot hty hm ho ha hbase hfew hline hs hplain
end
end L2
namespace L2
open PySem PySem.Spec PyProof.Rows
/-! ### nested data -/
mutual
inductive RdD (K : PySem.W.Frag) (H : Hp) : V → PyData → Prop
  | non : RdD K H .non .none
  | bl (b : Bool) : RdD K H (.bl b) (.bool b)
  | int (i : Int) : RdD K H (.int i) (.int i)
  | str (x : Str) : RdD K H (.str x) (.str x)
  | lst {a : Addr} {xs : List V} {ds : List PyData} (h : SqL K H a xs) (r : RdDs K H xs ds) : RdD K H (.ref a) (.list ds)
  | tup {a : Addr} {xs : List V} {ds : List PyData} (h : SqT K H a xs) (r : RdDs K H xs ds) : RdD K H (.ref a) (.tuple ds)
inductive RdDs (K : PySem.W.Frag) (H : Hp) : List V → List PyData → Prop
  | nil : RdDs K H [] []
  | cons {x : V} {xs : List V} {d : PyData} {ds : List PyData} (h : RdD K H x d) (r : RdDs K H xs ds) : RdDs K H (x :: xs) (d :: ds)
end
section
variable {X : Cx} {pins : List (Addr × Obj)} {σ : St} {H : Hp} {s : Shared}
mutual
theorem RdD.reads (I : Inv X pins σ H s) : ∀ {x : V} {d : PyData} {u : Value}, RdD X.K H x d → RelV x u → ∃ as, Reads s.heap u d as
  | _, _, u, .non, r => by cases (show u = Value.none from r); exact ⟨_, .none⟩
  | _, _, u, .bl b, r => by cases (show u = Value.bool b from r); exact ⟨_, .bool b⟩
  | _, _, u, .int i, r => by obtain ⟨t, rfl⟩ := r; exact ⟨_, .int i t⟩
  | _, _, u, .str x, r => by obtain ⟨t, rfl⟩ := r; exact ⟨_, .str x t⟩
  | _, _, u, .lst (a := a) h q, r => by
    cases (show u = Value.ref a from r)
    obtain ⟨its, rv, pl, _⟩ := I.list h
    obtain ⟨as, ra⟩ := RdDs.reads I q rv
    obtain ⟨o, ho, hc, n, hd⟩ := pl.isList
    exact ⟨_, .list ho hc hd (by simpa using ra)⟩
  | _, _, u, .tup (a := a) h q, r => by
    cases (show u = Value.ref a from r)
    obtain ⟨its, rv, pl, _⟩ := I.tuple h
    obtain ⟨as, ra⟩ := RdDs.reads I q rv
    obtain ⟨o, ho, hc, n, hd⟩ := pl
    exact ⟨_, .tuple ho hc hd (by simpa using ra)⟩
theorem RdDs.reads (I : Inv X pins σ H s) : ∀ {xs : List V} {ds : List PyData} {us : List Value}, RdDs X.K H xs ds → Vals xs us → ∃ as, ReadsAll s.heap us ds as
  | _, _, us, .nil, r => by cases r; exact ⟨_, .nil⟩
  | _, _, us, .cons h q, r => by
    cases r with
    | cons r1 r2 =>
      obtain ⟨as, ra⟩ := RdD.reads I h r1
      obtain ⟨bs, rb⟩ := RdDs.reads I q r2
      exact ⟨_, .cons ra rb⟩
end
mutual
theorem RdD.noDict {K : PySem.W.Frag} : ∀ {x : V} {d : PyData}, RdD K H x d → d.hasDict = false
  | _, _, .non => rfl
  | _, _, .bl b => rfl
  | _, _, .int i => rfl
  | _, _, .str x => rfl
  | _, _, .lst h q => by show PyData.hasDictAll _ = false; exact RdDs.noDict q
  | _, _, .tup h q => by show PyData.hasDictAll _ = false; exact RdDs.noDict q
theorem RdDs.noDict {K : PySem.W.Frag} : ∀ {xs : List V} {ds : List PyData}, RdDs K H xs ds → PyData.hasDictAll ds = false
  | _, _, .nil => rfl
  | _, _, .cons h q => by
    show (PyData.hasDict _ || PyData.hasDictAll _) = false
    rw [RdD.noDict h, RdDs.noDict q]; rfl
end
end
section
variable {X : Cx}
def rNeD (K : PySem.W.Frag) : R2 := fun x y H Q => ∃ dx dy, RdD K H x dx ∧ RdD K H y dy ∧ (dx.canLay0 = true ∧ dy.canLay0 = true) ∧ dx.depth ≤ 60 ∧ Q (.bl (!PyData.eqv dx dy)) H
theorem op_neD {k : Nat} (K : PySem.W.Frag) (h : X.K = K) (hr : Room k X.A) : OpR X (compareOp .NotEq) (rNeD K) := by
  subst h
  intro pins s σ H x y v u Q I rx ry h
  obtain ⟨dx, dy, h1, h2, ⟨h3, h4⟩, h5, q⟩ := h
  obtain ⟨as, ra⟩ := h1.reads I rx
  obtain ⟨bs, rb⟩ := h2.reads I ry
  have hu := hr.units
  exact SeqAt.compareNe_reads ra rb h3 h4 (by omega) ⟨.bl _, H, I, rfl, q⟩
/-- a, b = .. -/
theorem pg_tupK (K : PySem.W.Frag) (h : X.K = K) {es : List Expr} {k : Nat} {t : TGs} {n : Nat} {pos : Pos} (hc : X.calm = true) (hs : PGs X es t)
    (hn : (assignEach es X.env).length = n := by rfl) (hst : (assignEach es X.env).findIdx? (·.1) = none := by rfl) : PG X (.Tuple es k pos) (gTup K n t) := by
  subst h
  exact pg_tup hc hs hn hst
end
end L2
namespace L2
open PySem PySem.Spec PyProof.Rows
/-! ### the least of some texts -/
section
variable {X : Cx}
end
end L2
namespace L2
open PySem PySem.Spec PyProof.Rows
section
variable {X : Cx}
theorem op_inK (K : PySem.W.Frag) (h : X.K = K) : OpR X (compareOp .In) (rIn K false) := by subst h; exact op_in_seq
/-! ### small data, and their texts -/
/-- of depth at most k, of weight at most n -/
structure SmD (k n : Nat) (d : PyData) : Prop where
  lv : d.leavesShort 13 = true
  sh : d.showable = true
  ly : d.canLay0 = true
  dp : d.depth ≤ k
  wt : d.weight ≤ n
structure SmDs (k n : Nat) (ds : List PyData) : Prop where
  lv : PyData.leavesShortAll 13 ds = true
  sh : PyData.showableAll ds = true
  ly : PyData.canLayAll0 ds = true
  dp : PyData.depthAll ds ≤ k
  wt : PyData.weightAll ds ≤ n
theorem SmD.str {k n : Nat} {l : List Nat} (h : ∀ c ∈ l, c < 128) (hn : l.length ≤ n) : SmD k n (.str (S l)) := by
  refine ⟨?_, rfl, ?_, Nat.zero_le _, by show (S l).cps.size ≤ n; rw [S_size]; exact hn⟩
  · show ((S l).cps.toList.all fun c => decide (c < 16 ^ 8)) = true
    rw [S_list, List.all_eq_true]
    intro c hc
    have := h c hc
    exact decide_eq_true (by omega)
  · show PyData.strOk (S l) = true
    unfold PyData.strOk
    rw [Array.all_eq_true_iff_forall_mem]
    intro c hc
    have : c ∈ l := by simpa [S] using hc
    have := h c this
    simp; omega
theorem SmD.bl {k n : Nat} (b : Bool) : SmD k n (.bool b) := ⟨rfl, rfl, rfl, Nat.zero_le _, Nat.zero_le _⟩
theorem SmD.non {k n : Nat} : SmD k n .none := ⟨rfl, rfl, rfl, Nat.zero_le _, Nat.zero_le _⟩
theorem SmD.int {k n : Nat} {i : Int} (h : i.natAbs < 10 ^ 12) (hn : 40 ≤ n) : SmD k n (.int i) := by
  have hl : i.natAbs.log2 < 40 := by
    by_cases z : i.natAbs = 0
    · rw [z]; decide
    · rw [Nat.log2_lt z]
      exact Nat.lt_trans h (by decide)
  refine ⟨?_, ?_, rfl, Nat.zero_le _, ?_⟩
  · show decide ((PyData.shown (.int i)).length ≤ 13) = true
    exact decide_eq_true (PyData.shown_int_le h)
  · show decide (i.natAbs.log2 < 1920) = true
    exact decide_eq_true (by omega)
  · show (if i == 0 then 0 else i.natAbs.log2 + 1) ≤ n
    split <;> omega
theorem SmDs.nil {k n : Nat} : SmDs k n [] := ⟨rfl, rfl, rfl, Nat.zero_le _, Nat.zero_le _⟩
theorem SmDs.cons {k a b n : Nat} {x : PyData} {xs : List PyData} (h : SmD k a x) (t : SmDs k b xs) (hn : a + 1 + b ≤ n) : SmDs k n (x :: xs) := by
  refine ⟨?_, ?_, ?_, ?_, ?_⟩
  · show (PyData.leavesShort 13 x && PyData.leavesShortAll 13 xs) = true; rw [h.lv, t.lv]; rfl
  · show (PyData.showable x && PyData.showableAll xs) = true; rw [h.sh, t.sh]; rfl
  · show (PyData.canLay0 x && PyData.canLayAll0 xs) = true; rw [h.ly, t.ly]; rfl
  · show max (PyData.depth x) (PyData.depthAll xs) ≤ k; exact Nat.max_le.mpr ⟨h.dp, t.dp⟩
  · show PyData.weight x + 1 + PyData.weightAll xs ≤ n
    have := h.wt; have := t.wt; omega
theorem SmDs.all {k a : Nat} : ∀ {xs : List PyData} {n : Nat}, (∀ x ∈ xs, SmD k a x) → (a + 1) * xs.length ≤ n → SmDs k n xs
  | [], _, _, _ => .nil
  | x :: xs, n, h, hn => .cons (b := (a + 1) * xs.length) (h x List.mem_cons_self) (SmDs.all (fun y hy => h y (List.mem_cons_of_mem _ hy)) (Nat.le_refl _)) (by rw [List.length_cons, Nat.mul_succ] at hn; omega)
theorem SmD.lst {k n : Nat} {ds : List PyData} (h : SmDs k n ds) : SmD (k + 1) n (.list ds) := ⟨h.lv, h.sh, h.ly, Nat.succ_le_succ h.dp, h.wt⟩
theorem SmD.tup {k n : Nat} {ds : List PyData} (h : SmDs k n ds) : SmD (k + 1) n (.tuple ds) := ⟨h.lv, h.sh, h.ly, Nat.succ_le_succ h.dp, h.wt⟩
theorem SmD.fits {k n : Nat} {d : PyData} (h : SmD k n d) (hn : n ≤ 2 ^ 20) : d.shown.length ≤ sizeLine := PyData.shown_fits (by decide) (by decide) h.lv (Nat.le_trans h.wt hn)
/-- the text of data -/
def RT (d : PyData) : List Nat := d.shown.cps.toList
def rReprD (K : PySem.W.Frag) : List V → Hp → VK → Prop := fun xs H Q => ∃ v d, xs = [v] ∧ RdD K H v d ∧ SmD 40 100000 d ∧ Q (.str (S (RT d))) H
theorem call_reprD {k : Nat} (K : PySem.W.Frag) (h : X.K = K) (hr : Room k X.A) : CallR X (.builtin "repr") (rReprD K) := by
  subst h
  intro pins s σ H xs us Q I r h
  obtain ⟨v, d, rfl, h1, h2, q⟩ := h
  have hz := h2.fits (by decide)
  obtain ⟨u, rfl, ru⟩ := vals1 r
  unfold RT at q
  rw [← S_of] at q
  have onref : ∀ (a : Addr) (d : PyData), RdD X.K H (.ref a) d → SmD 40 100000 d → d.shown.length ≤ sizeLine → Q (.str d.shown) H → u = Value.ref a → wpAny (model X.prog X.w) X.A (call (.builtin "repr") [u]) (EP X pins σ Q) X.xe s := by
    intro a d h1 h2 hz q e
    obtain ⟨as, ra⟩ := h1.reads I (show RelV (.ref a) u from e)
    subst e
    have hu := hr.units
    have := h2.dp
    exact repr_of_reads' (h₀ := s.heap) ra h2.sh (fun z => by rw [h1.noDict] at z; cases z) hr.gd (by omega) (fun _ _ e => e) (fun h' u tk hk => ⟨.str d.shown, H, I.kept (t' := tk) hk, ⟨u, rfl⟩, q⟩) hz
  cases h1 with
  | non => cases (show u = Value.none from ru); exact P.repr_of_none ⟨.str _, H, I.tok _, ⟨_, rfl⟩, q⟩
  | bl b => cases (show u = Value.bool b from ru); exact P.repr_of_bool ⟨.str _, H, I.tok _, ⟨_, rfl⟩, by cases b <;> exact q⟩
  | int i =>
    obtain ⟨t, rfl⟩ := ru
    exact P.repr_of_int (of_decide_eq_true h2.sh) ⟨.str _, H, I.tok _, ⟨_, rfl⟩, q⟩
  | str x =>
    obtain ⟨t, rfl⟩ := ru
    exact P.repr_of_str ⟨.str _, H, I.tok _, ⟨_, rfl⟩, q⟩ hz
  | lst h1 h3 => exact onref _ _ (.lst h1 h3) h2 hz q ru
  | tup h1 h3 => exact onref _ _ (.tup h1 h3) h2 hz q ru
end
end L2
namespace L2
open PySem PySem.Spec PyProof.Rows
/-! ### a text so many times -/
end L2
namespace L2
open PySem PySem.Spec PyProof.Rows
section
variable {X : Cx}
end
end L2
namespace L2
open PySem PySem.Spec PyProof.Rows
section
variable {X : Cx} {pins : List (Addr × Obj)} {σ : St} {H : Hp} {s : Shared} {h' : Heap}
/-- some records of ours have turned, and a new object is laid -/
theorem Inv.turnLaid {t' : Nat} {ch : List Addr} {T : Addr} {ob : HO} (I : Inv X pins σ H s) (k : ∀ b o, b ∉ ch → s.heap.get? b = some o → h'.get? b = some o) (hf : ∀ b ∈ ch, FpOk X pins H b)
    (hT : s.heap.objs.size ≤ T) (new : ObjOk X.prog X.w (upd H T ob) h' T ob) : Inv X pins σ (upd H T ob) { s with heap := h', toks := t' } := by
  have hn := I.hok.fresh hT
  have nit : ∀ b u, H b = some u → b ∉ ch := fun b u e z => by rw [(hf b z).1] at e; cases e
  have neT : ∀ b o, s.heap.get? b = some o → b ≠ T := fun b o e z => absurd (Nat.lt_of_lt_of_le (Heap.lt_size e) hT) (by rw [z]; exact Nat.lt_irrefl _)
  refine I.step (g' := s.gens) (d' := s.drawn) (ch := ch) (fun b hb => ?_) (fun b o _ _ hc e _ => k b o hc e) (fun b o _ _ hc e _ => ⟨o.slots, k b o hc e⟩) (fun b o _ e n => by rw [upd_ne (neT b o e)]; exact n)
    (fun b o hc e => ⟨o, k b o hc e⟩) (fun b xs e => by rw [upd_ne (ne_of_none e hn)]; exact e) (fun b o u e => by rw [upd_ne (ne_of_none e hn)]; exact e) (fun b ps e => ⟨#[], by rw [upd_ne (ne_of_none e hn), e]; simp⟩) (fun m hm => ?_) (fun b u e => ?_) I.bare
  · obtain ⟨_, h2, _, h4, h5, h6⟩ := hf b hb
    exact ⟨h4, h2, h5, h6⟩
  · obtain ⟨o, es, ep, ho, r⟩ := hm
    exact ⟨o, es, ep, k _ o (fun z => (hf _ z).2.1 rfl) ho, r⟩
  · by_cases hb : b = T
    · subst hb; rw [upd_same] at e; cases e; exact new
    · rw [upd_ne hb] at e
      refine (I.hok b u e).stay (fun c v hc q => k c v ?_ q) (fun c q => by rw [upd_ne (ne_of_none q hn)]; exact q) fun c xs q => by rw [upd_ne (ne_of_none q hn)]; exact q
      rcases hc with z | z
      · rw [z]; exact nit b u e
      · exact nit c _ z
theorem Inv.turnedL {t' : Nat} {ch : List Addr} (I : Inv X pins σ H s) (k : ∀ b o, b ∉ ch → s.heap.get? b = some o → h'.get? b = some o) (hf : ∀ b ∈ ch, FpOk X pins H b) : Inv X pins σ H { s with heap := h', toks := t' } := by
  have nit : ∀ b u, H b = some u → b ∉ ch := fun b u e z => by rw [(hf b z).1] at e; cases e
  refine I.step (g' := s.gens) (d' := s.drawn) (ch := ch) (fun b hb => ?_) (fun b o _ _ hc e _ => k b o hc e) (fun b o _ _ hc e _ => ⟨o.slots, k b o hc e⟩) (fun b o _ e n => n)
    (fun b o hc e => ⟨o, k b o hc e⟩) (fun b xs e => e) (fun b o u e => e) (fun b ps e => ⟨#[], by rw [e]; simp⟩) (fun m hm => ?_) (fun b u e => ?_) I.bare
  · obtain ⟨_, h2, _, h4, h5, h6⟩ := hf b hb
    exact ⟨h4, h2, h5, h6⟩
  · obtain ⟨o, es, ep, ho, r⟩ := hm
    exact ⟨o, es, ep, k _ o (fun z => (hf _ z).2.1 rfl) ho, r⟩
  · refine (I.hok b u e).stay (fun c v hc q => k c v ?_ q) (fun c q => q) fun c xs q => q
    rcases hc with z | z
    · rw [z]; exact nit b u e
    · exact nit c _ z
end
/-! ### enumerate of a text -/
def ItE (l : List Nat) : It := ⟨fun i _ => i < l.length, fun i H x H' => ∃ T c, l[i]? = some c ∧ x = .ref T ∧ H T = none ∧ H' = upd H T (.tup [.int i, .str (S [c])]), fun i _ => l.length ≤ i⟩
theorem draws_str {prog : Program} {w : World} {A : Around} (hh : A.handled = none) (it : Addr) (x : Str) (t : Tok) :
    Draws prog w A it [it] x.cps.size (fun i v => ∃ c u, x.cps[i]? = some c ∧ v = .str ⟨#[c]⟩ u) (fun i h => h.IsStrIter it (strIterType x) x t i) := by
  by_cases ha : x.cps.all (· < 128) = true
  · have et : strIterType x = "str_ascii_iterator" := by unfold strIterType; rw [if_pos ha]
    rw [et]; exact Draws.strAscii hh it x t
  · have et : strIterType x = "str_iterator" := by unfold strIterType; rw [if_neg ha]
    rw [et]; exact Draws.strWide hh it x t
theorem turn_enumS {P : Program} {w : World} {K : PySem.W.Frag} {elts : List Expr} {k : Nat} {pos : Pos} (e it : Addr) (hei : e ≠ it) (l : List Nat) (t : Tok) :
    Turn P w K (.Tuple elts k pos) (ItE l) [e, it] e (fun i h => i ≤ l.length ∧ (∃ old, IsEnum h e it i old) ∧ h.IsStrIter it (strIterType (S l)) (S l) t i) where
  mem := by simp
  obj := fun i h st b hb => by
    obtain ⟨_, ⟨old, he⟩, o, ho, hc, hd⟩ := st
    rcases List.mem_cons.mp hb with z | z
    · rw [z]; exact ⟨_, he, fun v z => by cases z⟩
    · rw [List.mem_singleton.mp z]; exact ⟨o, ho, fun v z => by rw [hd] at z; cases z⟩
  keep := fun i h h' st kp => by
    obtain ⟨h1, ⟨old, he⟩, o, ho, r⟩ := st
    exact ⟨h1, ⟨old, kp e (by simp) _ he⟩, o, kp it (by simp) o ho, r⟩
  item := by
    intro X hP hw hK hc i pins s σ H E I hf st hg
    subst hP hw hK
    obtain ⟨_, st1, st2⟩ := st
    have D := draws_str (prog := X.prog) (w := X.w) (A := X.A.in1) (I.ok.hd hc) it (S l) t
    have W := WalksT.enumerateD D e hei (by simpa using hei) (by simp)
    have hi : i < (S l).cps.size := by rw [S_size]; exact hg
    refine W.item i s _ _ hi ⟨st1, st2⟩ fun T vals h' tk hPt hT hTup hMid hk => ⟨_, rfl, ?_⟩
    refine W.go elts k pos i T { s with heap := h', toks := tk } _ _ hMid fun h2 hst2 hk2 => ?_
    obtain ⟨tt, x, ⟨c, u, hcx, rfl⟩, rfl⟩ := hPt
    have hTw : T ∉ [e, it] := W.apart i T h' hMid
    have hTup2 : h2.IsTuple T #[.int i tt, .str ⟨#[c]⟩ u] := by
      obtain ⟨o, ho, r⟩ := hTup
      exact ⟨o, hk2 T o hTw ho, r⟩
    have hl : l[i]? = some c := by simpa [S] using hcx
    refine ⟨.ref T, upd H T (.tup [.int i, .str (S [c])]), ?_, rfl, ⟨T, c, hl, rfl, I.hok.fresh hT, rfl⟩, ⟨hg, hst2.1, hst2.2⟩, fun b hb => ?_⟩
    · refine I.turnLaid (t' := tk) (h' := h2) (fun b o hb y => hk2 b o hb (hk b o hb y)) hf hT ?_
      exact ⟨by show 2 ≤ sizeLine; decide, [.int i tt, .str ⟨#[c]⟩ u], .cons ⟨tt, rfl⟩ (.cons ⟨u, rfl⟩ .nil), hTup2⟩
    · rw [upd_ne (fun z : b = T => hTw (z ▸ hb))]; exact (hf b hb).1
  done := by
    intro X hP hw hK hc i pins s σ H E I hf st hg
    subst hP hw hK
    obtain ⟨h1, st1, st2⟩ := st
    have e1 : i = l.length := Nat.le_antisymm h1 hg
    have D := draws_str (prog := X.prog) (w := X.w) (A := X.A.in1) (I.ok.hd hc) it (S l) t
    have W := WalksT.enumerateD D e hei (by simpa using hei) (by simp)
    refine W.done s _ _ ?_ fun h' tk hk => ⟨rfl, I.turnedL (t' := tk) hk hf⟩
    rw [S_size, ← e1]
    exact ⟨st1, st2⟩
  self := fun _ _ s _ _ st h => by
    obtain ⟨_, ⟨old, he⟩, _⟩ := st
    exact wpAny_pyIter_enum he h
def iEnumS (ta : TA) : TI := fun σ H R => ta σ H fun vs H1 => ∃ l, vs = [.str (S l)] ∧ R (ItE l) H1
theorem pi_enumS {X : Cx} {elts : List Expr} {k : Nat} {pos' : Pos} {a : Expr} {ta : TA} {p pos : Pos} (hg : Gl X "enumerate") (hm : X.mg "enumerate" = none) (ha : PA X [a] ta) (hs : starEach [a] X.env = [(false, eval a X.env)] := by rfl) : PI X (.Tuple elts k pos') (.Call (.Name "enumerate" p) [a] [] pos) (iEnumS ta) := by
  intro pins s σ H R I h
  refine Call_ (ld_blt I hg hm boot_enumerate (PyProof.Rows.callWith_type1 (thn (ha pos pins s σ H _ I h) fun us s1 ⟨vs, H1, I1, r1, q1⟩ => ?_) hs rfl))
  obtain ⟨l, rfl, q⟩ := q1
  obtain ⟨u, rfl, t, rfl⟩ := vals1 r1
  refine call_enumerate_str fun h' he hit hsz hk => ?_
  refine wpAny_pyIter_enum he ?_
  refine ⟨s1.heap.objs.size + 1, [s1.heap.objs.size + 1, s1.heap.objs.size], _, _, H1, rfl, I1.kept (t' := s1.toks) hk, turn_enumS _ _ (Nat.succ_ne_self _) l t, ⟨Nat.zero_le _, ⟨_, he⟩, hit⟩, fun b hb => ?_, q⟩
  have hb2 : s1.heap.objs.size ≤ b := by
    rcases List.mem_cons.mp hb with z | z
    · rw [z]; exact Nat.le_succ _
    · rw [List.mem_singleton.mp z]; exact Nat.le_refl _
  exact I1.fpOk hb2 (I1.hok.fresh hb2)
theorem for_enum {l : List Nat} {g : TG} {tb : TS} {D : Ends} {σ : St} {H : Hp} (Pv : Nat → St → Hp → Prop) (h0 : Pv 0 σ H)
    (hs : ∀ i c σ H T, l[i]? = some c → Pv i σ H → H T = none → g (.ref T) σ (upd H T (.tup [.int i, .str (S [c])])) fun σ2 H2 => tb { D with nx := Pv (i + 1), ct := Pv (i + 1), bk := D.nx } σ2 H2) (hd : ∀ σ H, Pv l.length σ H → D.nx σ H) :
    ∃ W : Nat → Nat → St → Hp → Prop, (∃ m, W 0 m σ H) ∧ ∀ i m σ H, W i m σ H →
      ((ItE l).stop i H ∧ D.nx σ H) ∨ ((ItE l).go i H ∧ ∃ N : St → Hp → Prop, (∀ σ' H', N σ' H' → ∃ m', m' < m ∧ W (i + 1) m' σ' H') ∧ ∀ x H', (ItE l).yld i H x H' → g x σ H' fun σ2 H2 => tb { D with nx := N, ct := N, bk := D.nx } σ2 H2) := by
  refine ⟨fun i m σ H => m = l.length - i ∧ i ≤ l.length ∧ Pv i σ H, ⟨l.length, by simp, Nat.zero_le _, h0⟩, ?_⟩
  rintro i m σ H ⟨rfl, hi, p⟩
  by_cases hlt : i < l.length
  · refine .inr ⟨hlt, Pv (i + 1), fun σ' H' p' => ⟨l.length - (i + 1), by omega, rfl, hlt, p'⟩, fun x H' y => ?_⟩
    obtain ⟨T, c, hc, rfl, hn, rfl⟩ := y
    exact hs i c σ _ T hc p hn
  · have e : i = l.length := by omega
    subst e
    exact .inl ⟨Nat.le_refl _, hd σ H p⟩
/-! ### sorted -/
section
variable {X : Cx}
theorem strs_of {ls : List (List Nat)} : ∀ {its : List Value}, Vals (ls.map fun l => V.str (S l)) its → StrsAre its (ls.map S) := by
  induction ls with
  | nil => intro its r; cases r; exact .nil
  | cons l ls ih =>
    intro its r
    cases r with
    | cons r1 r2 =>
      obtain ⟨t, rfl⟩ := r1
      exact .cons _ t (ih r2)
theorem of_strs : ∀ {its : List Value} {ss : List Str}, StrsAre its ss → Vals ((ss.map fun x => x.cps.toList).map fun l => V.str (S l)) its
  | _, _, .nil => .nil
  | _, _, .cons x t h => .cons ⟨t, by rw [← S_of]⟩ (of_strs h)
theorem rising_pw : ∀ (p : Str) (r : List Str), risingS p r = true → (p :: r).Pairwise fun a b => ¬ b.cps.toList < a.cps.toList
  | p, [], _ => List.pairwise_singleton _ _
  | p, x :: r, h => by
    have h' : (!ltCps x.cps.toList p.cps.toList && risingS x r) = true := h
    rw [Bool.and_eq_true, ltCps_eq] at h'
    have h1 : ¬ x.cps.toList < p.cps.toList := by simpa using h'.1
    have ih := rising_pw x r h'.2
    refine List.pairwise_cons.mpr ⟨fun y hy => ?_, ih⟩
    rcases List.mem_cons.mp hy with z | z
    · rw [z]; exact h1
    · exact List.le_trans (show p.cps.toList ≤ x.cps.toList from h1) (show x.cps.toList ≤ y.cps.toList from List.rel_of_pairwise_cons ih z)
theorem sorted_pw {ss : List Str} (h : sortedS ss = true) : (ss.map fun x => x.cps.toList).Pairwise fun a b => ¬ b < a := by
  rw [List.pairwise_map]
  cases ss with
  | nil => exact List.Pairwise.nil
  | cons x r => exact rising_pw x r h
def rSortL (K : PySem.W.Frag) : List V → Hp → VK → Prop := fun xs H Q => ∃ (p : Addr) (ls : List (List Nat)), xs = [.ref p] ∧ SqL K H p (ls.map fun l => V.str (S l)) ∧ ls.length < 64 ∧ ∀ (q : Addr) (ls' : List (List Nat)), H q = none → ls'.Perm ls → (ls'.Pairwise fun a b => ¬ b < a) → Q (.ref q) (upd H q (.lst (ls'.map fun l => V.str (S l))))
theorem call_sortedK (K : PySem.W.Frag) (h : X.K = K) : CallR X (.builtin "sorted") (rSortL K) := by
  subst h
  intro pins s σ H xs us Q I r h
  obtain ⟨p, ls, rfl, hq, hn, q⟩ := h
  obtain ⟨u, rfl, ru⟩ := vals1 r
  cases ru
  obtain ⟨its, rv, pl, hz⟩ := I.list hq
  have hlen : its.length = ls.length := by rw [← rv.length, List.length_map]
  refine sorted_strs (l := p) (vs := its) (ss := ls.map S) pl.isList (strs_of rv) (by omega) fun out ss' h1 h2 h3 => ?_
  obtain ⟨e, he⟩ := sortedAll_at s.heap its out
  have hperm : (ss'.map fun x => x.cps.toList).Perm ls := by
    have := h2.map fun x : Str => x.cps.toList
    rw [List.map_map] at this
    have e2 : ls.map ((fun x : Str => x.cps.toList) ∘ S) = ls := by
      have : ∀ l ∈ ls, ((fun x : Str => x.cps.toList) ∘ S) l = l := fun l _ => S_list l
      calc ls.map _ = ls.map id := List.map_congr_left this
        _ = ls := List.map_id ls
    rwa [e2] at this
  have hl2 := hperm.length_eq
  have h64 : (64 : Nat) < sizeLine := by decide
  have hz2 : ((ss'.map fun x => x.cps.toList).map fun l => V.str (S l)).length ≤ sizeLine := by rw [List.length_map, hl2]; omega
  refine ⟨.ref (s.heap.objs.size + 1), _, I.laid (t' := s.toks) (a := s.heap.objs.size + 1) (o := .lst ((ss'.map fun x => x.cps.toList).map fun l => V.str (S l))) (fun b o e => sortedAll_old e) (Nat.le_succ _) ⟨hz2, out.toList, e, of_strs h1, by simpa [seqObj] using he⟩, rfl, q _ _ (I.hok.fresh (Nat.le_succ _)) hperm (sorted_pw h3)⟩
end
end L2
namespace L2
open PySem PySem.Spec PyProof.Rows
section
variable {X : Cx}
theorem ones_of {ls : List (List Nat)} {l : List Nat} (h : ls.Perm (l.map fun c => [c])) : ∃ l' : List Nat, ls = l'.map (fun c => [c]) ∧ l'.Perm l := by
  refine ⟨ls.flatten, ?_, ?_⟩
  · have hs : ∀ x ∈ ls, ∃ c, x = [c] := fun x hx => by
      obtain ⟨c, _, e⟩ := List.mem_map.mp (h.mem_iff.mp hx)
      exact ⟨c, e.symm⟩
    clear h
    induction ls with
    | nil => rfl
    | cons x ls ih =>
      obtain ⟨c, rfl⟩ := hs x List.mem_cons_self
      rw [List.flatten_cons, List.map_append, ← ih fun y hy => hs y (List.mem_cons_of_mem _ hy)]
      rfl
  · have := h.flatten
    have e : (l.map fun c => [c]).flatten = l := by
      clear h this
      induction l with
      | nil => rfl
      | cons c l ih => rw [List.map_cons, List.flatten_cons, ih]; rfl
    rwa [e] at this
theorem ones_pw {l : List Nat} (h : (l.map fun c => [c]).Pairwise fun a b => ¬ b < a) : l.Pairwise fun a b => a ≤ b := by
  rw [List.pairwise_map] at h
  refine h.imp fun {a b} z => ?_
  by_cases y : a ≤ b
  · exact y
  · exact absurd (List.cons_lt_cons_iff.mpr (.inl (by omega))) z
end
end L2
namespace L2
open PySem PySem.Spec PyProof.Rows
section
variable {X : Cx}
/-- a constant of the text -/
theorem pe_gS {x : Str} {pos : Pos} (l : List Nat) (hg : Gl X x) (hm : ∃ t, X.mg x = some (.str (S l) t)) (hd : (x == ("__debug__" : Str)) = false := by decide) : PE X (.Name x pos) (tC (.str (S l))) := by
  obtain ⟨t, e⟩ := hm
  exact pe_glob hg e ⟨t, rfl⟩ hd
end
end L2
namespace L2
open PySem PySem.Spec PyProof.Rows
section
variable {prog : Program} {w : World} {A : Around} {E : Value → Shared → Prop} {s : Shared}
/-! ### enumerate of a tuple, of a list -/
/-- a tuple's iterator, asked by nextOf: one more -/
theorem nextT_item {it tp : Addr} {j : Nat} {xs : Array Value} {y : Value} {Q : Value → Shared → Prop} (hi : s.heap.IsTupleIter it tp j) (ht : s.heap.IsTuple tp xs) (hy : xs[j]? = some y)
    (q : ∀ h2, h2.IsTupleIter it tp (j + 1) → Heap.SameBut it s.heap h2 → Q y { s with heap := h2 }) : wpAny (model prog w) A (Builtin.SmallTypes.nextOf (.ref it)) Q E s := by
  obtain ⟨oi, eo, ec, ed⟩ := id hi
  obtain ⟨ot, et, _, nt, dt⟩ := ht
  unfold Builtin.SmallTypes.nextOf
  refine wpAny_bind (wpAny_callSpecial?_slot (name := Str.ofString "__next__") hi.typeIs F.slot_tuple_iterator_next (wpAny_call_entry F.slot_tuple_iterator_next hi.typeIs F.entry_tuple_iterator_next ?_ (F.args_tuple_iterator_next_1 _)))
  refine wpAny_bind (m := field (.ref it) 0) (wpAny_field eo ed (x := .ref tp) rfl ?_)
  show wpAny (model prog w) _ (if (Value.ref tp == Value.none) = true then _ else _) _ E s
  rw [if_neg (show ¬ (Value.ref tp == Value.none) = true from Bool.false_ne_true)]
  refine wpAny_bind (m := field (.ref it) 1) (wpAny_field eo ed (x := .int j 0) rfl ?_)
  refine wpAny_bind (m := seqItems? (.ref tp)) (wpAny_seqItems et dt ?_)
  simp only [Int.toNat_natCast, hy]
  refine wpAny_bind (wpAny_setField eo ed (by simp) (wpAny_pure ⟨y, rfl, wpAny_pure (q _ ⟨_, Heap.get?_update_self _ eo (Obj.isFreed_of_fields (Obj.data_mapFields ed _)), (Obj.cls_mapFields ..).trans ec, by rw [Obj.data_mapFields ed]; simp [rawInt]⟩ (Heap.SameBut.update ..))⟩))
theorem nextT_end {it tp : Addr} {j : Nat} {xs : Array Value} {Q : Value → Shared → Prop} (hh : A.handled = none) (hi : s.heap.IsTupleIter it tp j) (ht : s.heap.IsTuple tp xs) (hy : xs[j]? = none)
    (q : ∀ h2 e, Heap.ExtBut it s.heap h2 → (∃ o, h2.get? e = some o ∧ o.cls = .type "StopIteration") → E (.ref e) { s with heap := h2 }) : wpAny (model prog w) A (Builtin.SmallTypes.nextOf (.ref it)) Q E s := by
  obtain ⟨oi, eo, ec, ed⟩ := id hi
  obtain ⟨ot, et, _, nt, dt⟩ := ht
  unfold Builtin.SmallTypes.nextOf
  refine wpAny_bind (wpAny_callSpecial?_slot (name := Str.ofString "__next__") hi.typeIs F.slot_tuple_iterator_next (wpAny_call_entry F.slot_tuple_iterator_next hi.typeIs F.entry_tuple_iterator_next ?_ (F.args_tuple_iterator_next_1 _)))
  refine wpAny_bind (m := field (.ref it) 0) (wpAny_field eo ed (x := .ref tp) rfl ?_)
  show wpAny (model prog w) _ (if (Value.ref tp == Value.none) = true then _ else _) _ E s
  rw [if_neg (show ¬ (Value.ref tp == Value.none) = true from Bool.false_ne_true)]
  refine wpAny_bind (m := field (.ref it) 1) (wpAny_field eo ed (x := .int j 0) rfl ?_)
  refine wpAny_bind (m := seqItems? (.ref tp)) (wpAny_seqItems et dt ?_)
  simp only [Int.toNat_natCast, hy]
  refine wpAny_bind (wpAny_rule (wpAny_bind (wpAny_setField eo ed (by simp) ?_)))
  refine wpAny_bind (m := newExc (.type "StopIteration") []) ?_
  simp only [newExc, newTuple]
  refine wpAny_bind (wpAny_newObj_type (wpAny_bind (m := firstArgMember _ _) (wpAny_of_eq (a := Value.none) (by first | rfl | (simp only [firstArgMember]; rfl)) (wpAny_newObj_type ?_ (by size_fits)))) (by size_fits))
  simp only [raiseNew]
  refine wpAny_bind (wpAny_handled ?_); first | rw [show A.in1.handled = none from hh] | rw [hh]
  exact wpAny_bind (wpAny_pure (wpAny_throw (q _ _ (((Heap.SameBut.update ..).extBut.push _).push _) ⟨_, Heap.get?_push_size _ rfl, rfl⟩)))
theorem draws_tuple (hh : A.handled = none) (it tp : Addr) (ne : tp ≠ it) (xs : Array Value) :
    Draws prog w A it [it, tp] xs.size (fun i v => xs[i]? = some v) (fun i h => h.IsTupleIter it tp i ∧ h.IsTuple tp xs) where
  live := fun _ _ z => let ⟨o, e, _⟩ := z.1; ⟨o, e⟩
  frame := fun _ _ _ z k => by
    obtain ⟨⟨o, e, r⟩, o2, e2, r2⟩ := z
    exact ⟨⟨o, k it (by simp) o e, r⟩, o2, k tp (by simp) o2 e2, r2⟩
  item := fun i s Q E hi z q => nextT_item z.1 z.2 (y := xs[i]) (by simp [hi]) fun h2 z2 sb => q _ h2 s.toks (by simp [hi]) ⟨z2, z.2.extBut sb.extBut ne⟩ sb
  done := fun s Q E z q => nextT_end hh z.1 z.2 (by simp) q
theorem meets_enumT (l : Addr) (items : Array Value) (n : Nat) (dct : Option Addr) (sl : Array (Option Value)) :
    Meets (Builtin.«enumerate.__new__» ⟨[.type "enumerate", .ref l], []⟩) (fun _ R s => s.heap.get? l = some { cls := .type "tuple", dict := dct, data := .seq items n, slots := sl } ∧
      R (.ok (.ret (.ref (s.heap.push { cls := .type "tuple_iterator", data := .fields #[.ref l, .int 0 0] }).objs.size)))
        { s with heap := (s.heap.push { cls := .type "tuple_iterator", data := .fields #[.ref l, .int 0 0] }).push { cls := .type "enumerate", data := .fields #[.none, .bool false, .ref s.heap.objs.size, rawInt 0, .none, .none] } }) :=
  .of_wp fun prog w A R s h => by
    obtain ⟨hp, g, d, tk, os⟩ := s; obtain ⟨hl, q⟩ := h; have hsub := sub_enumerate
    have hT : Heap.IsTuple (Shared.heap ⟨hp, g, d, tk, os⟩) l items := ⟨_, hl, rfl, n, rfl⟩
    wp_walk using AutoSeq1.wpAny_loadPart' hl
    refine wpAny_stack_any fun st => wpAny_pure ?_
    split
    · rename_i c _ _ _ _ _
      cases (c == Value.type "enumerate") <;> (wp_walk using AutoSeq1.wpAny_loadPart' hl, wpAny_pyIter_tuple hT; exact ⟨_, rfl, q⟩)
    · wp_walk using AutoSeq1.wpAny_loadPart' hl, wpAny_pyIter_tuple hT
      exact ⟨_, rfl, q⟩
theorem call_enumT {l : Addr} {items : Array Value} {Q : Value → Shared → Prop} (hL : s.heap.IsTuple l items)
    (h : ∀ h', IsEnum h' (s.heap.objs.size + 1) s.heap.objs.size 0 .none → h'.IsTupleIter s.heap.objs.size l 0 → (∀ b o, s.heap.get? b = some o → h'.get? b = some o) → Q (.ref (s.heap.objs.size + 1)) { s with heap := h' }) :
    wpAny (model prog w) A (call (.type "enumerate") [.ref l]) Q E s := by
  obtain ⟨⟨c, dct, dt, sl⟩, hl, hc, n, hd⟩ := hL
  cases (show c = .type "tuple" from hc)
  cases (show dt = .seq items n from hd)
  refine callType_new F.called_enumerate (by decide) (F.typeCall_enumerate_1 _) (F.newCall_enumerate_1 _) (fun ob => F.args_object_init_2 ob _) F.entry_enumerate_new (meets_enumT l items n dct sl) ⟨hl, ?_⟩
  have hz : (s.heap.push { cls := .type "tuple_iterator", data := .fields #[.ref l, .int 0 0] }).objs.size = s.heap.objs.size + 1 := Heap.size_push ..
  show _ ∧ _
  rw [hz]
  have he : IsEnum ((s.heap.push { cls := .type "tuple_iterator", data := .fields #[.ref l, .int 0 0] }).push { cls := .type "enumerate", data := .fields #[.none, .bool false, .ref s.heap.objs.size, rawInt 0, .none, .none] }) (s.heap.objs.size + 1) s.heap.objs.size 0 .none := by
    have := Heap.get?_push_size (s.heap.push { cls := .type "tuple_iterator", data := .fields #[.ref l, .int 0 0] }) (o := { cls := .type "enumerate", data := .fields #[.none, .bool false, .ref s.heap.objs.size, rawInt 0, .none, .none] }) rfl
    rwa [hz] at this
  exact ⟨⟨_, he, rfl⟩, h _ he ⟨_, Heap.get?_push_of_some _ (Heap.get?_push_size _ rfl), rfl, rfl⟩ fun b o x => Heap.get?_push_of_some _ (Heap.get?_push_of_some _ x)⟩
end
/-- enumerate of the tuple at a; of the list at a -/
def ItET (K : PySem.W.Frag) (a : Addr) : It := ⟨fun i H => ∃ xs x, SqT K H a xs ∧ xs[i]? = some x, fun i H x H' => ∃ T y, (∀ xs, SqT K H a xs → xs[i]? = some y) ∧ x = .ref T ∧ H T = none ∧ H' = upd H T (.tup [.int i, y]), fun i H => ∃ xs, SqT K H a xs ∧ xs.length = i⟩
theorem turn_enumT {P : Program} {w : World} {K : PySem.W.Frag} {elts : List Expr} {k : Nat} {pos : Pos} (e it a : Addr) (hei : e ≠ it) (hae : a ≠ e) (hai : a ≠ it) :
    Turn P w K (.Tuple elts k pos) (ItET K a) [e, it] e (fun i h => (∃ old, IsEnum h e it i old) ∧ h.IsTupleIter it a i) where
  mem := by simp
  obj := fun i h st b hb => by
    obtain ⟨⟨old, he⟩, o, ho, hc, hd⟩ := st
    rcases List.mem_cons.mp hb with z | z
    · rw [z]; exact ⟨_, he, fun v z => by cases z⟩
    · rw [List.mem_singleton.mp z]; exact ⟨o, ho, fun v z => by rw [hd] at z; cases z⟩
  keep := fun i h h' st kp => by
    obtain ⟨⟨old, he⟩, o, ho, r⟩ := st
    exact ⟨⟨old, kp e (by simp) _ he⟩, o, kp it (by simp) o ho, r⟩
  item := by
    intro X hP hw hK hc i pins s σ H E I hf st hg
    subst hP hw hK
    obtain ⟨st1, st2⟩ := st
    obtain ⟨xs, x, hq, hx⟩ := hg
    obtain ⟨its, rv, p, hz⟩ := I.tuple hq
    obtain ⟨u0, hu, ru⟩ := rv.get hx
    have D := draws_tuple (prog := X.prog) (w := X.w) (A := X.A.in1) (I.ok.hd hc) it a hai its.toArray
    have W := WalksT.enumerateD D e hei (by simp; exact ⟨hei, Ne.symm hae⟩) (by simp)
    have hil : i < its.toArray.size := by rw [List.size_toArray]; exact (List.getElem?_eq_some_iff.mp hu).1
    refine W.item i s _ _ hil ⟨st1, st2, p⟩ fun T vals h' tk hPt hT hTup hMid hk => ⟨_, rfl, ?_⟩
    refine W.go elts k pos i T { s with heap := h', toks := tk } _ _ hMid fun h2 hst2 hk2 => ?_
    obtain ⟨tt, x2, hx2, rfl⟩ := hPt
    have ex : x2 = u0 := by
      rw [List.getElem?_toArray] at hx2
      exact Option.some.inj (hx2.symm.trans hu)
    subst ex
    have hTw : T ∉ [e, it] := W.apart i T h' hMid
    have hTup2 : h2.IsTuple T #[.int i tt, x2] := by
      obtain ⟨o, ho, r⟩ := hTup
      exact ⟨o, hk2 T o hTw ho, r⟩
    refine ⟨.ref T, upd H T (.tup [.int i, x]), ?_, rfl, ⟨T, x, fun ys hy => by rw [I.tuple_inj hy hq]; exact hx, rfl, I.hok.fresh hT, rfl⟩, ⟨hst2.1, hst2.2.1⟩, fun b hb => ?_⟩
    · refine I.turnLaid (t' := tk) (h' := h2) (fun b o hb y => hk2 b o hb (hk b o hb y)) hf hT ?_
      exact ⟨by show 2 ≤ sizeLine; decide, [.int i tt, x2], .cons ⟨tt, rfl⟩ (.cons ru .nil), hTup2⟩
    · rw [upd_ne (fun z : b = T => hTw (z ▸ hb))]; exact (hf b hb).1
  done := by
    intro X hP hw hK hc i pins s σ H E I hf st hg
    subst hP hw hK
    obtain ⟨st1, st2⟩ := st
    obtain ⟨xs, hq, hx⟩ := hg
    obtain ⟨its, rv, p, hz⟩ := I.tuple hq
    have hl := rv.length
    have D := draws_tuple (prog := X.prog) (w := X.w) (A := X.A.in1) (I.ok.hd hc) it a hai its.toArray
    have W := WalksT.enumerateD D e hei (by simp; exact ⟨hei, Ne.symm hae⟩) (by simp)
    refine W.done s _ _ ?_ fun h' tk hk => ⟨rfl, I.turnedL (t' := tk) hk hf⟩
    have e1 : its.toArray.size = i := by rw [List.size_toArray]; omega
    rw [e1]
    exact ⟨st1, st2, p⟩
  self := fun _ _ s _ _ st h => by
    obtain ⟨⟨old, he⟩, _⟩ := st
    exact wpAny_pyIter_enum he h
def iEnumT (K : PySem.W.Frag) (ta : TA) : TI := fun σ H R => ta σ H fun vs H1 => ∃ a, vs = [.ref a] ∧ (∃ xs, SqT K H1 a xs) ∧ R (ItET K a) H1
theorem pi_enumT {X : Cx} (K : PySem.W.Frag) (hK : X.K = K) {elts : List Expr} {k : Nat} {pos' : Pos} {a : Expr} {ta : TA} {p pos : Pos} (hg : Gl X "enumerate") (hm : X.mg "enumerate" = none) (ha : PA X [a] ta) (hs : starEach [a] X.env = [(false, eval a X.env)] := by rfl) : PI X (.Tuple elts k pos') (.Call (.Name "enumerate" p) [a] [] pos) (iEnumT K ta) := by
  subst hK
  intro pins s σ H R I h
  refine Call_ (ld_blt I hg hm boot_enumerate (PyProof.Rows.callWith_type1 (thn (ha pos pins s σ H _ I h) fun us s1 ⟨vs, H1, I1, r1, q1⟩ => ?_) hs rfl))
  obtain ⟨b, rfl, ⟨xs, hq⟩, q⟩ := q1
  obtain ⟨u, rfl, ru⟩ := vals1 r1
  cases ru
  obtain ⟨its, rv, pl, hz⟩ := I1.tuple hq
  obtain ⟨ob, eb, _⟩ := id pl
  have hlt : b < s1.heap.objs.size := Heap.lt_size eb
  refine call_enumT pl fun h' he hit hk => wpAny_pyIter_enum he ?_
  refine ⟨s1.heap.objs.size + 1, [s1.heap.objs.size + 1, s1.heap.objs.size], _, _, H1, rfl, I1.kept (t' := s1.toks) hk, turn_enumT _ _ b (Nat.succ_ne_self _) (Nat.ne_of_lt (Nat.lt_succ_of_lt hlt)) (Nat.ne_of_lt hlt), ⟨⟨_, he⟩, hit⟩, fun c hb => ?_, q⟩
  have hb2 : s1.heap.objs.size ≤ c := by
    rcases List.mem_cons.mp hb with z | z
    · rw [z]; exact Nat.le_succ _
    · rw [List.mem_singleton.mp z]; exact Nat.le_refl _
  exact I1.fpOk hb2 (I1.hok.fresh hb2)
theorem for_enumT {K : PySem.W.Frag} {a : Addr} {xs : List V} {g : TG} {tb : TS} {D : Ends} {σ : St} {H : Hp} (Pv : Nat → St → Hp → Prop) (h0 : Pv 0 σ H) (hl : ∀ i σ H, i ≤ xs.length → Pv i σ H → SqT K H a xs)
    (hs : ∀ i x σ H T, xs[i]? = some x → Pv i σ H → H T = none → g (.ref T) σ (upd H T (.tup [.int i, x])) fun σ2 H2 => tb { D with nx := Pv (i + 1), ct := Pv (i + 1), bk := D.nx } σ2 H2) (hd : ∀ σ H, Pv xs.length σ H → D.nx σ H) :
    ∃ W : Nat → Nat → St → Hp → Prop, (∃ m, W 0 m σ H) ∧ ∀ i m σ H, W i m σ H →
      ((ItET K a).stop i H ∧ D.nx σ H) ∨ ((ItET K a).go i H ∧ ∃ N : St → Hp → Prop, (∀ σ' H', N σ' H' → ∃ m', m' < m ∧ W (i + 1) m' σ' H') ∧ ∀ x H', (ItET K a).yld i H x H' → g x σ H' fun σ2 H2 => tb { D with nx := N, ct := N, bk := D.nx } σ2 H2) := by
  refine ⟨fun i m σ H => m = xs.length - i ∧ i ≤ xs.length ∧ Pv i σ H, ⟨xs.length, by simp, Nat.zero_le _, h0⟩, ?_⟩
  rintro i m σ H ⟨rfl, hi, p⟩
  have hq := hl i σ H hi p
  by_cases hlt : i < xs.length
  · refine .inr ⟨⟨xs, xs[i], hq, by simp [hlt]⟩, Pv (i + 1), fun σ' H' p' => ⟨xs.length - (i + 1), by omega, rfl, hlt, p'⟩, fun x H' y => ?_⟩
    obtain ⟨T, z, hz, rfl, hn, rfl⟩ := y
    exact hs i z σ _ T (hz xs hq) p hn
  · have e : i = xs.length := by omega
    subst e
    exact .inl ⟨⟨xs, hq, rfl⟩, hd σ H p⟩
/-- a comprehension over enumerate of a text -/
theorem comp_enum {l : List Nat} {σc : St} {g : TG} {tc : TT} {te : TE} {Q : VK} {H1 : Hp} (Pv : Nat → List V → Hp → Prop) (hn : l.length < sizeLine) (h0 : Pv 0 [] H1)
    (hs : ∀ (i c : Nat) (acc : List V) (H : Hp) (T : Addr) (Nx : List V → Hp → Prop), l[i]? = some c → acc.length ≤ i → Pv i acc H → H T = none → (∀ acc' H', acc'.length ≤ i + 1 → Pv (i + 1) acc' H' → Nx acc' H') →
      g (.ref T) σc (upd H T (.tup [.int i, .str (S [c])])) fun σ2 H2 => Wk σc σ2 ∧ tc σ2 H2 fun b H3 => if b = true then te σ2 H3 fun v H4 => Nx (acc ++ [v]) H4 else Nx acc H3)
    (hd : ∀ acc H D, acc.length ≤ l.length → Pv l.length acc H → H D = none → Q (.ref D) (upd H D (.lst acc))) : CompW (ItE l) σc g tc te Q H1 := by
  refine ⟨fun i m acc H => m = l.length - i ∧ i ≤ l.length ∧ acc.length ≤ i ∧ Pv i acc H, ⟨l.length, by simp, Nat.zero_le _, Nat.le_refl _, h0⟩, ?_⟩
  rintro i m acc H ⟨rfl, hi, hl, p⟩
  refine ⟨by omega, ?_⟩
  by_cases hlt : i < l.length
  · refine .inr ⟨hlt, fun x H' y => ?_⟩
    obtain ⟨T, c, hc, rfl, hT, rfl⟩ := y
    exact hs i c acc _ T (fun acc' H' => ∃ m', m' < l.length - i ∧ (m' = l.length - (i + 1) ∧ i + 1 ≤ l.length ∧ acc'.length ≤ i + 1 ∧ Pv (i + 1) acc' H')) hc hl p hT fun acc' H' h1 h2 => ⟨l.length - (i + 1), by omega, rfl, hlt, h1, h2⟩
  · have e : i = l.length := by omega
    subst e
    exact .inl ⟨Nat.le_refl _, fun D hD => hd acc H D hl p hD⟩
/-! ### list(text or sequence); index of a list of texts; isinstance(list, list) -/
section
variable {X : Cx}
def rListAny (K : PySem.W.Frag) : List V → Hp → VK → Prop := fun xs H Q => (∃ l : List Nat, xs = [.str (S l)] ∧ l.length ≤ sizeLine ∧ ∀ p, H p = none → Q (.ref p) (upd H p (.lst (sgs l)))) ∨ rListOf K xs H Q
theorem call_listAny (K : PySem.W.Frag) (h : X.K = K) (hc : X.calm = true) : CallR X (.type "list") (rListAny K) := by
  intro pins s σ H xs us Q I r q
  rcases q with q | q
  · exact call_listS hc pins s σ H xs us Q I r q
  · exact call_list_ofK K h pins s σ H xs us Q I r q
end
end L2
namespace L2
open PySem PySem.Spec PyProof.Rows
section
variable {X : Cx}
def rTupOf (K : PySem.W.Frag) : List V → Hp → VK → Prop := fun xs H Q => ∃ p ys, xs = [.ref p] ∧ ((SqL K H p ys ∧ ∀ l, H l = none → Q (.ref l) (upd H l (.tup ys))) ∨ (SqT K H p ys ∧ Q (.ref p) H))
theorem call_tuple_ofK (K : PySem.W.Frag) (h : X.K = K) : CallR X (.type "tuple") (rTupOf K) := by subst h; exact call_tuple_of
end
end L2
namespace L2
open PySem PySem.Spec PyProof.Rows
/-- a comprehension over a tuple -/
theorem comp_tup {K : PySem.W.Frag} {a : Addr} {xs : List V} {σc : St} {g : TG} {tc : TT} {te : TE} {Q : VK} {H1 : Hp} (Pv : Nat → List V → Hp → Prop) (hn : xs.length < sizeLine) (hl : ∀ i acc H, Pv i acc H → SqT K H a xs) (h0 : Pv 0 [] H1)
    (hs : ∀ (i : Nat) (x : V) (acc : List V) (H : Hp) (Nx : List V → Hp → Prop), i < xs.length → xs[i]? = some x → acc.length ≤ i → Pv i acc H → (∀ acc' H', acc'.length ≤ i + 1 → Pv (i + 1) acc' H' → Nx acc' H') →
      g x σc H fun σ2 H2 => Wk σc σ2 ∧ tc σ2 H2 fun b H3 => if b = true then te σ2 H3 fun v H4 => Nx (acc ++ [v]) H4 else Nx acc H3)
    (hd : ∀ acc H D, acc.length ≤ xs.length → Pv xs.length acc H → H D = none → Q (.ref D) (upd H D (.lst acc))) : CompW (Itt K a) σc g tc te Q H1 :=
  comp_by (xs := fun i x => xs[i]? = some x) Pv hn (fun i acc H h p => ⟨xs, xs[i], hl i acc H p, by simp [h]⟩) (fun acc H p => ⟨xs, hl _ acc H p, Nat.le_refl _⟩) (fun i acc H x H' h p y => ⟨y.1, y.2 xs (hl i acc H p)⟩) h0 hs hd
theorem inV_two (l a b : Nat) : inV (.str (S [l])) [.str (S [a]), .str (S [b])] = (decide (l = a) || decide (l = b)) := by
  have key : ∀ c : Nat, eqV (.str (S [c])) (.str (S [l])) = decide (l = c) := fun c => by
    show decide (S [c] = S [l]) = _
    refine decide_eq_decide.mpr ⟨fun z => ?_, fun z => by rw [z]⟩
    have := congrArg (fun x : Str => x.cps.toList) z
    simpa [S, eq_comm] using this
  unfold inV
  rw [List.any_cons, List.any_cons, List.any_nil, key, key, Bool.or_false]
/-- tuples stay -/
def TSame (H H' : Hp) : Prop := ∀ c xs, H c = some (.tup xs) → H' c = some (.tup xs)
theorem TSame.refl (H : Hp) : TSame H H := fun _ _ h => h
theorem TSame.trans {H H1 H2 : Hp} (a : TSame H H1) (b : TSame H1 H2) : TSame H H2 := fun c xs h => b c xs (a c xs h)
theorem TSame.of {H H' : Hp} (s : Same H H') : TSame H H' := fun c xs h => s c _ h
theorem TSame.updL {H : Hp} {p : Addr} {ys : List V} {o : HO} (h : H p = some (.lst ys)) : TSame H (upd H p o) := fun c xs e => by
  rw [upd_ne (fun z => by rw [z, h] at e; cases e)]; exact e
theorem TSame.updN {H : Hp} {p : Addr} {o : HO} (h : H p = none) : TSame H (upd H p o) := fun c xs e => by
  rw [upd_ne (fun z => by rw [z, h] at e; cases e)]; exact e
end L2
namespace L2
open PySem PySem.Spec PyProof.Rows
/-! ### sorted of pairs of whole numbers that rise already -/
section
variable {prog : Program} {w : World} {A : Around} {E : Value → Shared → Prop} {s : Shared}
def PairAt (h : Heap) (v : Value) (n : Int × Int) : Prop := ∃ x ox t1 t2 m, v = .ref x ∧ h.get? x = some ox ∧ ox.cls = .type "tuple" ∧ ox.data = .seq #[.int n.1 t1, .int n.2 t2] m
theorem PairAt.keep {h h' : Heap} {v : Value} {n : Int × Int} (p : PairAt h v n) (k : ∀ b o, h.get? b = some o → h'.get? b = some o) : PairAt h' v n := by
  obtain ⟨x, ox, t1, t2, m, e1, e2, r⟩ := p
  exact ⟨x, ox, t1, t2, m, e1, k _ _ e2, r⟩
def PairsAt (h : Heap) : List Value → List (Int × Int) → Prop
  | [], [] => True
  | v :: vs, n :: ns => PairAt h v n ∧ PairsAt h vs ns
  | _, _ => False
theorem PairsAt.keep {h h' : Heap} (k : ∀ b o, h.get? b = some o → h'.get? b = some o) : ∀ {vs : List Value} {ns : List (Int × Int)}, PairsAt h vs ns → PairsAt h' vs ns
  | [], [], _ => trivial
  | _ :: _, _ :: _, ⟨a, b⟩ => ⟨a.keep k, PairsAt.keep k b⟩
theorem PairsAt.get {h : Heap} : ∀ {vs : List Value} {ns : List (Int × Int)} {i : Nat}, PairsAt h vs ns → (hi : i < vs.length) → ∃ n, ns[i]? = some n ∧ PairAt h (vs.getD i Value.none) n
  | [], [], i, _, hi => absurd hi (Nat.not_lt_zero _)
  | v :: vs, n :: ns, 0, ⟨a, _⟩, _ => ⟨n, rfl, a⟩
  | v :: vs, n :: ns, i + 1, ⟨_, b⟩, hi => by
    obtain ⟨m, e, p⟩ := PairsAt.get (i := i) b (Nat.lt_of_succ_lt_succ hi)
    exact ⟨m, e, p⟩
theorem PairsAt.tups {h : Heap} : ∀ {vs : List Value} {ns : List (Int × Int)}, PairsAt h vs ns → ∃ fs, PySem.W.KatTups h vs fs ∧ fs.length = vs.length ∧ ∀ v ∈ fs, ∃ i t, v = Value.int i t
  | [], [], _ => ⟨[], trivial, rfl, fun _ h => absurd h List.not_mem_nil⟩
  | v :: vs, n :: ns, ⟨⟨x, ox, t1, t2, m, e1, e2, e3, e4⟩, b⟩ => by
    obtain ⟨fs, k1, k2, k3⟩ := PairsAt.tups b
    refine ⟨.int n.1 t1 :: fs, ⟨⟨x, ox, _, m, e1, e2, e3, e4, rfl⟩, k1⟩, by simp [k2], fun u hu => ?_⟩
    rcases List.mem_cons.mp hu with z | z
    · exact ⟨_, _, z⟩
    · exact k3 u z
theorem PairsAt.ne {h : Heap} {vs : List Value} {ns : List (Int × Int)} (p : PairsAt h vs ns) {a : Addr} (ha : h.objs.size ≤ a) : ∀ v ∈ vs, v ≠ .ref a := fun v hv z => by
  obtain ⟨i, hi, e⟩ := List.mem_iff_getElem.mp hv
  obtain ⟨n, _, x, ox, t1, t2, m, e1, e2, _⟩ := p.get (i := i) hi
  have e3 : vs.getD i Value.none = v := by rw [List.getD_eq_getElem?_getD, List.getElem?_eq_getElem hi, e]; rfl
  rw [e3, z] at e1
  cases e1
  exact absurd (Nat.lt_of_lt_of_le (Heap.lt_size e2) ha) (Nat.lt_irrefl _)
end
section
variable {X : Cx}
/-- values that are pairs of whole numbers -/
def PrsV (K : PySem.W.Frag) (H : Hp) : List V → List (Int × Int) → Prop
  | [], [] => True
  | v :: vs, n :: ns => (∃ t, v = .ref t ∧ SqT K H t [.int n.1, .int n.2]) ∧ PrsV K H vs ns
  | _, _ => False
theorem PrsV.at {pins : List (Addr × Obj)} {σ : St} {H : Hp} {s : Shared} (I : Inv X pins σ H s) : ∀ {vs : List V} {ns : List (Int × Int)} {us : List Value}, PrsV X.K H vs ns → Vals vs us → PairsAt s.heap us ns
  | [], [], _, _, .nil => trivial
  | v :: vs, n :: ns, _, ⟨⟨t, e, h⟩, b⟩, .cons r rs => by
    subst e
    cases r
    obtain ⟨its, rv, p, _⟩ := I.tuple h
    obtain ⟨u1, u2, e1, ⟨t1, r1⟩, ⟨t2, r2⟩⟩ := vals2 rv
    subst e1 r1 r2
    obtain ⟨o, ho, hc, m, hd⟩ := p
    exact ⟨⟨t, o, t1, t2, m, rfl, ho, hc, hd⟩, PrsV.at I b rs⟩
end
end L2
namespace L2
open PySem PySem.Spec PyProof.Rows
/-! ### sorted of tuples of whole numbers that rise already, however many; t[::-1] -/
section
variable {prog : Program} {w : World} {A : Around} {E : Value → Shared → Prop} {s : Shared}
def TupAt (h : Heap) (k : Nat) (v : Value) (ns : List Int) : Prop := ∃ x ox us m, v = .ref x ∧ h.get? x = some ox ∧ ox.cls = .type "tuple" ∧ ox.data = .seq us m ∧ IntsAre us.toList ns ∧ ns.length = k + 1
theorem TupAt.keep {h h' : Heap} {k : Nat} {v : Value} {n : List Int} (p : TupAt h k v n) (kp : ∀ b o, h.get? b = some o → h'.get? b = some o) : TupAt h' k v n := by
  obtain ⟨x, ox, us, m, e1, e2, r⟩ := p
  exact ⟨x, ox, us, m, e1, kp _ _ e2, r⟩
def TupsAt (h : Heap) (k : Nat) : List Value → List (List Int) → Prop
  | [], [] => True
  | v :: vs, n :: ns => TupAt h k v n ∧ TupsAt h k vs ns
  | _, _ => False
theorem TupsAt.keep {h h' : Heap} {k : Nat} (kp : ∀ b o, h.get? b = some o → h'.get? b = some o) : ∀ {vs : List Value} {ns : List (List Int)}, TupsAt h k vs ns → TupsAt h' k vs ns
  | [], [], _ => trivial
  | _ :: _, _ :: _, ⟨a, b⟩ => ⟨a.keep kp, TupsAt.keep kp b⟩
theorem TupsAt.get {h : Heap} {k : Nat} : ∀ {vs : List Value} {ns : List (List Int)} {i : Nat}, TupsAt h k vs ns → (hi : i < vs.length) → ∃ n, ns[i]? = some n ∧ TupAt h k (vs.getD i Value.none) n
  | [], [], i, _, hi => absurd hi (Nat.not_lt_zero _)
  | v :: vs, n :: ns, 0, ⟨a, _⟩, _ => ⟨n, rfl, a⟩
  | v :: vs, n :: ns, i + 1, ⟨_, b⟩, hi => by
    obtain ⟨m, e, p⟩ := TupsAt.get (i := i) b (Nat.lt_of_succ_lt_succ hi)
    exact ⟨m, e, p⟩
theorem TupsAt.tups {h : Heap} {k : Nat} : ∀ {vs : List Value} {ns : List (List Int)}, TupsAt h k vs ns → ∃ fs, PySem.W.KatTups h vs fs ∧ fs.length = vs.length ∧ ∀ v ∈ fs, ∃ i t, v = Value.int i t
  | [], [], _ => ⟨[], trivial, rfl, fun _ h => absurd h List.not_mem_nil⟩
  | v :: vs, n :: ns, ⟨⟨x, ox, us, m, e1, e2, e3, e4, e5, e6⟩, b⟩ => by
    obtain ⟨fs, k1, k2, k3⟩ := TupsAt.tups b
    obtain ⟨f, t, e7⟩ : ∃ f t, us[0]? = some (Value.int f t) := by
      rw [← Array.getElem?_toList]
      generalize us.toList = l at e5
      cases e5 with
      | nil => simp at e6
      | cons a t _ => exact ⟨a, t, rfl⟩
    refine ⟨.int f t :: fs, ⟨⟨x, ox, us, m, e1, e2, e3, e4, e7⟩, k1⟩, by simp [k2], fun u hu => ?_⟩
    rcases List.mem_cons.mp hu with z | z
    · exact ⟨_, _, z⟩
    · exact k3 u z
theorem TupsAt.ne {h : Heap} {k : Nat} {vs : List Value} {ns : List (List Int)} (p : TupsAt h k vs ns) {a : Addr} (ha : h.objs.size ≤ a) : ∀ v ∈ vs, v ≠ .ref a := fun v hv z => by
  obtain ⟨i, hi, e⟩ := List.mem_iff_getElem.mp hv
  obtain ⟨n, _, x, ox, us, m, e1, e2, _⟩ := p.get (i := i) hi
  have e3 : vs.getD i Value.none = v := by rw [List.getD_eq_getElem?_getD, List.getElem?_eq_getElem hi, e]; rfl
  rw [e3, z] at e1
  cases e1
  exact absurd (Nat.lt_of_lt_of_le (Heap.lt_size e2) ha) (Nat.lt_irrefl _)
end
section
variable {X : Cx}
/-- values that are tuples of k + 1 whole numbers -/
def TpsV (K : PySem.W.Frag) (H : Hp) (k : Nat) : List V → List (List Int) → Prop
  | [], [] => True
  | v :: vs, n :: ns => (∃ t, v = .ref t ∧ SqT K H t (n.map V.int) ∧ n.length = k + 1) ∧ TpsV K H k vs ns
  | _, _ => False
theorem TpsV.at {pins : List (Addr × Obj)} {σ : St} {H : Hp} {s : Shared} {k : Nat} (I : Inv X pins σ H s) : ∀ {vs : List V} {ns : List (List Int)} {us : List Value}, TpsV X.K H k vs ns → Vals vs us → TupsAt s.heap k us ns
  | [], [], _, _, .nil => trivial
  | v :: vs, n :: ns, _, ⟨⟨t, e, h, hl⟩, b⟩, .cons r rs => by
    subst e
    cases r
    obtain ⟨its, rv, p, _⟩ := I.tuple h
    obtain ⟨o, ho, hc, m, hd⟩ := p
    exact ⟨⟨t, o, its.toArray, m, rfl, ho, hc, hd, intsAre_of rv, hl⟩, TpsV.at I b rs⟩
end
end L2
namespace HT
open PySem PySem.Spec PyProof.Rows
section
variable {prog : Program} {w : World} {A : Around} {E : Value → Shared → Prop} {s : Shared}
end
end HT
namespace L2
open PySem PySem.Spec PyProof.Rows
section
variable {X : Cx} {e st : Expr} {te : TE} {ts : TO} {pos p2 : Pos}
end
end L2
namespace L2
open PySem PySem.Spec PyProof.Rows

/-! ### lists of pairs as tables -/
section
variable {κ : Type} [DecidableEq κ]
def valV (kvs : List (κ × V)) (k : κ) : Option V := (kvs.find? fun kv => decide (kv.1 = k)).map (·.2)
/-- in its place, or at the end -/
def putK (kvs : List (κ × V)) (k : κ) (v : V) : List (κ × V) :=
  if (kvs.any fun kv => decide (kv.1 = k)) = true then kvs.map (fun kv => if kv.1 = k then (kv.1, v) else kv) else kvs ++ [(k, v)]
def dropK (kvs : List (κ × V)) (k : κ) : List (κ × V) := kvs.filter fun kv => decide (kv.1 ≠ k)

theorem valV_pos {p : κ × V} {r : List (κ × V)} {k : κ} (e : p.1 = k) : valV (p :: r) k = some p.2 := by simp [valV, List.find?_cons, e]
theorem valV_neg {p : κ × V} {r : List (κ × V)} {k : κ} (e : ¬ p.1 = k) : valV (p :: r) k = valV r k := by simp [valV, List.find?_cons, e]
theorem valV_any (k : κ) : ∀ kvs : List (κ × V), (kvs.any fun kv => decide (kv.1 = k)) = (valV kvs k).isSome
  | [] => rfl
  | p :: r => by
    rw [List.any_cons]
    by_cases e : p.1 = k
    · simp only [valV_pos e, decide_eq_true e, Bool.true_or, Option.isSome_some]
    · rw [valV_neg e, decide_eq_false e, Bool.false_or]; exact valV_any k r
theorem length_putK (kvs : List (κ × V)) (k : κ) (v : V) : (putK kvs k v).length ≤ kvs.length + 1 := by
  unfold putK
  split
  · rw [List.length_map]; omega
  · rw [List.length_append, List.length_cons, List.length_nil]; omega
theorem putK_new {kvs : List (κ × V)} {k : κ} (v : V) (h : valV kvs k = none) : putK kvs k v = kvs ++ [(k, v)] := by
  unfold putK
  rw [valV_any, h]
  exact if_neg (by decide)

theorem RelO.isSome_eq {o : Option V} {u : Option Value} (r : RelO o u) : o.isSome = u.isSome := by
  cases o with
  | none => cases u with
    | none => rfl
    | some _ => exact (show False from r).elim
  | some _ => cases u with
    | none => exact (show False from r).elim
    | some _ => rfl
theorem RelO.getD {o : Option V} {u : Option Value} {d : V} {d' : Value} (r : RelO o u) (rd : RelV d d') : RelV (o.getD d) (u.getD d') := by
  cases o with
  | none => cases u with
    | none => exact rd
    | some _ => exact (show False from r).elim
  | some _ => cases u with
    | none => exact (show False from r).elim
    | some _ => exact r

/-- raw tables of the same keys -/
theorem KV.val {kvs : List (κ × V)} {vs : List (κ × Value)} (r : KV kvs vs) (k : κ) : RelO (valV kvs k) (valueAt vs k) := by
  unfold KV at r
  induction r with
  | nil => exact True.intro
  | @cons p q ps qs h t ih =>
    obtain ⟨h1, h2⟩ := h
    by_cases e : p.1 = k
    · have e' : q.1 = k := h1.symm.trans e
      have b : valueAt (q :: qs) k = some q.2 := by simp [valueAt, List.find?_cons, e']
      rw [valV_pos e, b]; exact h2
    · have e' : ¬ q.1 = k := fun z => e (h1.trans z)
      have b : valueAt (q :: qs) k = valueAt qs k := by simp [valueAt, List.find?_cons, e']
      rw [valV_neg e, b]; exact ih
theorem KV.any {kvs : List (κ × V)} {vs : List (κ × Value)} (r : KV kvs vs) (k : κ) : (kvs.any fun kv => decide (kv.1 = k)) = vs.any fun kv => decide (kv.1 = k) := by
  unfold KV at r
  induction r with
  | nil => rfl
  | cons h t ih => rw [List.any_cons, List.any_cons, ih, h.1]
theorem KV.repl {kvs : List (κ × V)} {vs : List (κ × Value)} (r : KV kvs vs) (k : κ) {y : V} {u : Value} (ry : RelV y u) :
    KV (kvs.map fun kv => if kv.1 = k then (kv.1, y) else kv) (vs.map fun kv => if kv.1 = k then (kv.1, u) else kv) := by
  unfold KV at r ⊢
  induction r with
  | nil => exact .nil
  | @cons p q ps qs h t ih =>
    rw [List.map_cons, List.map_cons]
    refine .cons ?_ ih
    obtain ⟨h1, h2⟩ := h
    by_cases e : p.1 = k
    · rw [if_pos e, if_pos (h1.symm.trans e)]; exact ⟨h1, ry⟩
    · rw [if_neg e, if_neg (fun z => e (h1.trans z))]; exact ⟨h1, h2⟩
theorem KV.put {kvs : List (κ × V)} {vs : List (κ × Value)} (r : KV kvs vs) (k : κ) {y : V} {u : Value} (ry : RelV y u) : KV (putK kvs k y) (stored vs k u) := by
  unfold putK stored
  rw [r.any k]
  by_cases e : (vs.any fun kv => decide (kv.1 = k)) = true
  · rw [if_pos e, if_pos e]; exact r.repl k ry
  · rw [if_neg e, if_neg e]; exact Paired.snoc r ⟨rfl, ry⟩
theorem KV.drop {kvs : List (κ × V)} {vs : List (κ × Value)} (r : KV kvs vs) (k : κ) : KV (dropK kvs k) (without vs k) := by
  unfold KV at r ⊢
  unfold dropK without
  induction r with
  | nil => exact .nil
  | @cons p q ps qs h t ih =>
    obtain ⟨h1, h2⟩ := h
    rw [List.filter_cons, List.filter_cons]
    by_cases e : p.1 = k
    · have a : ¬ decide (p.1 ≠ k) = true := by simp [e]
      have b : ¬ decide (q.1 ≠ k) = true := by simp [h1.symm.trans e]
      rw [if_neg a, if_neg b]; exact ih
    · have e' : ¬ q.1 = k := fun z => e (h1.trans z)
      have a : decide (p.1 ≠ k) = true := by simp [e]
      have b : decide (q.1 ≠ k) = true := by simp [e']
      rw [if_pos a, if_pos b]; exact .cons ⟨h1, h2⟩ ih
theorem KV.keys {kvs : List (κ × V)} {vs : List (κ × Value)} (r : KV kvs vs) : kvs.map (·.1) = vs.map (·.1) := by
  unfold KV at r
  induction r with
  | nil => rfl
  | cons h t ih => rw [List.map_cons, List.map_cons, ih, h.1]
theorem KV.length {kvs : List (κ × V)} {vs : List (κ × Value)} (r : KV kvs vs) : kvs.length = vs.length := Paired.length r
end


/-! ### a tracked dict, its keys ints and texts or tuples of these -/
theorem kV_is {P : Program} {w : World} {k : Key} {u : Value} (r : RelV (kV k) u) : (mixKind P w).is k u = true := by
  cases k with
  | inl i => obtain ⟨t, e⟩ := (show ∃ t, u = Value.int i t from r); subst e; exact mixKind_int P w i t
  | inr x => obtain ⟨t, e⟩ := (show ∃ t, u = Value.str x t from r); subst e; exact mixKind_str P w x t
theorem items_are {P : Program} {w : World} : ∀ {ks : List Key} {us : List Value}, Vals (ks.map kV) us → ItemsAre (mixKind P w) ks us
  | [], _, r => by rw [List.map_nil] at r; cases r; exact .nil
  | k :: ks, _, r => by
    rw [List.map_cons] at r
    cases r with
    | cons h t => exact .cons (kV_is h) (items_are t)

/-- raw entries of a dict with tuple keys -/
abbrev KT (H : Hp) : List (List Key × V) → List (List Key × Addr × Value) → Prop := Paired fun p q => p.1 = q.1 ∧ H q.2.1 = some (.tup (p.1.map kV)) ∧ RelV p.2 q.2.2
theorem KT.val {H : Hp} {kvs : List (List Key × V)} {xs : List (List Key × Addr × Value)} (r : KT H kvs xs) (k : List Key) : RelO (valV kvs k) ((atKey xs k).map (·.2)) := by
  induction r with
  | nil => exact True.intro
  | @cons p q ps qs h t ih =>
    obtain ⟨h1, _, h2⟩ := h
    by_cases e : p.1 = k
    · have e' : q.1 = k := h1.symm.trans e
      have b : atKey (q :: qs) k = some q.2 := by simp [atKey, List.find?_cons, e']
      rw [valV_pos e, b]; exact h2
    · have e' : ¬ q.1 = k := fun z => e (h1.trans z)
      have b : atKey (q :: qs) k = atKey qs k := by simp [atKey, List.find?_cons, e']
      rw [valV_neg e, b]; exact ih
theorem KT.repl {H : Hp} {kvs : List (List Key × V)} {xs : List (List Key × Addr × Value)} (r : KT H kvs xs) (k : List Key) {y : V} {u : Value} (ry : RelV y u) :
    KT H (kvs.map fun kv => if kv.1 = k then (kv.1, y) else kv) (xs.map (putAt k u)) := by
  induction r with
  | nil => exact .nil
  | @cons p q ps qs h t ih =>
    rw [List.map_cons, List.map_cons]
    refine .cons ?_ ih
    obtain ⟨h1, h2, h3⟩ := h
    unfold putAt
    by_cases e : p.1 = k
    · rw [if_pos e, if_pos (h1.symm.trans e)]; exact ⟨h1, h2, ry⟩
    · rw [if_neg e, if_neg (fun z => e (h1.trans z))]; exact ⟨h1, h2, h3⟩
theorem KT.put {H : Hp} {kvs : List (List Key × V)} {xs : List (List Key × Addr × Value)} (r : KT H kvs xs) (k : List Key) {b : Addr} {y : V} {u : Value} (hb : H b = some (.tup (k.map kV))) (ry : RelV y u) :
    KT H (putK kvs k y) (storedH xs k b u) := by
  have e : (kvs.any fun kv => decide (kv.1 = k)) = (atKey xs k).isSome := by
    rw [valV_any, (r.val k).isSome_eq, Option.isSome_map]
  unfold putK storedH
  rw [e]
  by_cases q : (atKey xs k).isSome = true
  · rw [if_pos q, if_pos q]; exact r.repl k ry
  · rw [if_neg q, if_neg q]; exact Paired.snoc r ⟨rfl, hb, ry⟩
theorem KT.keeps {H H' : Hp} {kvs : List (List Key × V)} {xs : List (List Key × Addr × Value)} (r : KT H kvs xs) (ht : ∀ b ys, H b = some (.tup ys) → H' b = some (.tup ys)) : KT H' kvs xs :=
  Paired.mapP r fun _ _ z => ⟨z.1, ht _ _ z.2.1, z.2.2⟩

section
variable {P : Program} {w : World} {H : Hp} {h : Heap} {a : Addr}
theorem rd_of {u : HO} (ok : HOk P w H h) (e : Rd H a u) : ObjOk P w H h a u := e.ok ok
theorem dk_rd {kvs : List (Key × V)} (ok : HOk P w H h) (e : Rd H a (.dK kvs)) : kvs.length ≤ sizeLine ∧ (a == sysModules) = false ∧ ∃ vs, KV kvs vs ∧ h.DictOf (mixKind P w) a vs :=
  show ObjOk P w H h a (.dK kvs) from rd_of ok e
theorem dk_of {kvs : List (Key × V)} (ok : HOk P w H h) (e : H a = some (.dK kvs)) : kvs.length ≤ sizeLine ∧ (a == sysModules) = false ∧ ∃ vs, KV kvs vs ∧ h.DictOf (mixKind P w) a vs := dk_rd ok (.inl e)
/-- a tracked tuple of ints and texts is a key -/
theorem key_of {ks : List Key} (ok : HOk P w H h) (e : H a = some (.tup (ks.map kV))) : (tupleKind (mixKind P w)).is h ks a := by
  obtain ⟨_, its, r, o, h1, h2, n, h3⟩ := (show ObjOk P w H h a (.tup (ks.map kV)) from ok a _ e)
  exact ⟨o, its.toArray, n, h1, h2, h3, by simpa using items_are r⟩
theorem dt_rd {kvs : List (List Key × V)} (ok : HOk P w H h) (e : Rd H a (.dT kvs)) : kvs.length ≤ sizeLine ∧ (a == sysModules) = false ∧
    ∃ xs, KT H kvs xs ∧ h.DictOfH (tupleKind (mixKind P w)) a xs := by
  obtain ⟨z, y, xs, r, o, es, ep, h1, h2, h3, h4, h5⟩ := (show ObjOk P w H h a (.dT kvs) from rd_of ok e)
  refine ⟨z, y, xs, r, o, es, ep, h1, h2, h3, h4, fun x hx => ?_, h5⟩
  have all : ∀ {l : List (List Key × V)} {m : List (List Key × Addr × Value)}, KT H l m → ∀ x ∈ m, (tupleKind (mixKind P w)).is h x.1 x.2.1 := by
    intro l m q
    induction q with
    | nil => intro x hx; exact nomatch hx
    | @cons p q ps qs hq t ih =>
      intro x hx
      rcases List.mem_cons.mp hx with e | hx
      · subst e
        exact key_of ok (by rw [← hq.1]; exact hq.2.1)
      · exact ih x hx
  exact all r x hx
theorem dt_of {kvs : List (List Key × V)} (ok : HOk P w H h) (e : H a = some (.dT kvs)) : kvs.length ≤ sizeLine ∧ (a == sysModules) = false ∧
    ∃ xs, KT H kvs xs ∧ h.DictOfH (tupleKind (mixKind P w)) a xs := dt_rd ok (.inl e)
end

/-- what the dict at a holds at the key y -/
def DGet (H : Hp) (a : Addr) (y : V) (r : Option V) : Prop :=
  (∃ kvs k, Rd H a (.dK kvs) ∧ y = kV k ∧ r = valV kvs k) ∨ ∃ kvs k b, Rd H a (.dT kvs) ∧ y = .ref b ∧ H b = some (.tup (k.map kV)) ∧ r = valV kvs k
/-- the heap behind a[y] = v -/
def DPut (H : Hp) (a : Addr) (y v : V) (H' : Hp) : Prop :=
  (∃ kvs k, H a = some (.dK kvs) ∧ y = kV k ∧ kvs.length < sizeLine ∧ H' = upd H a (.dK (putK kvs k v))) ∨
  ∃ kvs k b, H a = some (.dT kvs) ∧ y = .ref b ∧ H b = some (.tup (k.map kV)) ∧ kvs.length < sizeLine ∧ H' = upd H a (.dT (putK kvs k v))
theorem DGet.k {H : Hp} {a : Addr} {kvs : List (Key × V)} {k : Key} (e : H a = some (.dK kvs)) : DGet H a (kV k) (valV kvs k) := .inl ⟨kvs, k, .inl e, rfl, rfl⟩
theorem DGet.t {H : Hp} {a b : Addr} {kvs : List (List Key × V)} {k : List Key} (e : H a = some (.dT kvs)) (eb : H b = some (.tup (k.map kV))) : DGet H a (.ref b) (valV kvs k) := .inr ⟨kvs, k, b, .inl e, rfl, eb, rfl⟩
theorem DPut.k {H : Hp} {a : Addr} {kvs : List (Key × V)} {k : Key} {v : V} (e : H a = some (.dK kvs)) (hl : kvs.length < sizeLine) : DPut H a (kV k) v (upd H a (.dK (putK kvs k v))) := .inl ⟨kvs, k, e, rfl, hl, rfl⟩
theorem DPut.t {H : Hp} {a b : Addr} {kvs : List (List Key × V)} {k : List Key} {v : V} (e : H a = some (.dT kvs)) (eb : H b = some (.tup (k.map kV))) (hl : kvs.length < sizeLine) :
    DPut H a (.ref b) v (upd H a (.dT (putK kvs k v))) := .inr ⟨kvs, k, b, e, rfl, eb, hl, rfl⟩


section
variable {X : Cx} {pins : List (Addr × Obj)} {σ : St} {H : Hp} {s : Shared} {a : Addr} {y v : V} {u r : Value} {o : Option V} {A : Around} {E : Value → Shared → Prop}

theorem Inv.big (I : Inv X pins σ H s) : sysModules < s.heap.objs.size := by
  have h : mainGlobals < s.heap.objs.size := (I.mod.glob.keeps I.bk).lt
  exact Nat.lt_trans (by decide) h

/-- d[y], there -/
theorem d_getItem {Q : Value → Shared → Prop} (hu : A.units + 1 < cLine) (I : Inv X pins σ H s) (g : DGet H a y (some v)) (ry : RelV y u) (h : ∀ w' s', Inv X pins σ H s' → RelV v w' → Q w' s') :
    wpAny (model X.prog X.w) A (getItem (.ref a) u) Q E s := by
  rcases g with ⟨kvs, k, e, ey, l⟩ | ⟨kvs, k, b, e, ey, eb, l⟩
  · subst ey
    obtain ⟨z, hd, vs, rel, dd⟩ := dk_rd I.hok e
    obtain ⟨w', hw, rw'⟩ := RelO.some_of (v := v) (o := valueAt vs k) (by rw [l]; exact rel.val k)
    exact wpAny_getItem_of (kV_is ry) dd.mapOf hw (h w' _ (I.tok _) rw')
  · subst ey
    cases (show u = Value.ref b from ry)
    obtain ⟨z, hd, xs, rel, dd⟩ := dt_rd I.hok e
    obtain ⟨w', hw, rw'⟩ := RelO.some_of (v := v) (o := (atKey xs k).map (·.2)) (by rw [l]; exact rel.val k)
    obtain ⟨p, hp, hp2⟩ := Option.map_eq_some_iff.mp hw
    refine wpAny_getItem_heap (tupleKind_room_in1 hu) (key_of I.hok eb) dd hp ?_
    rw [hp2]
    exact h w' _ (I.tok _) rw'
/-- a dict's object is replaced -/
theorem d_write {h' : Heap} {t' : Nat} {ob : HO} (I : Inv X pins σ H s) (mu : Mut (H a)) (hs : Heap.SameBut a s.heap h') (he : ∃ q, h'.get? a = some q) (new : ObjOk X.prog X.w (upd H a ob) h' a ob) :
    Inv X pins σ (upd H a ob) { s with heap := h', toks := t' } :=
  I.write (x := a) (e := a) mu (.inl rfl) (fun b q hb z => (hs.2 b hb).trans z) he new
theorem dk_new {P : Program} {w : World} {H' : Hp} {h' : Heap} {kvs : List (Key × V)} {vs : List (Key × Value)} (z : kvs.length ≤ sizeLine) (hd : (a == sysModules) = false) (rel : KV kvs vs) (dd : h'.DictOf (mixKind P w) a vs) :
    ObjOk P w H' h' a (.dK kvs) := ⟨z, hd, vs, rel, dd⟩
/-- d[y] = v -/
theorem d_setItem {H' : Hp} {Q : Unit → Shared → Prop} (hu : A.units + 1 < cLine) (I : Inv X pins σ H s) (g : DPut H a y v H') (ry : RelV y u) (rv : RelV v r) (h : ∀ s', Inv X pins σ H' s' → Q () s') :
    wpAny (model X.prog X.w) A (setItem (.ref a) u r) Q E s := by
  rcases g with ⟨kvs, k, e, ey, l, eH⟩ | ⟨kvs, k, b, e, ey, eb, l, eH⟩
  · subst ey eH
    obtain ⟨z, hd, vs, rel, dd⟩ := dk_of I.hok e
    have hz : vs.length ≤ sizeLine := by rw [← rel.length]; exact z
    have hl : (putK kvs k v).length ≤ sizeLine := by have := length_putK kvs k v; omega
    refine wpAny_setItem_pairs (hsz := hz) (kV_is ry) dd fun h' dd' hs => h _ ?_
    have he : ∃ q, h'.get? a = some q := let ⟨q, _, _, hq, _⟩ := dd'; ⟨q, hq⟩
    exact d_write I (by rw [e]; exact True.intro) hs he (dk_new hl hd (rel.put k rv) dd')
  · subst ey eH
    cases (show u = Value.ref b from ry)
    obtain ⟨z, hd, xs, rel, dd⟩ := dt_of I.hok e
    have hz : xs.length ≤ sizeLine := by rw [← Paired.length rel]; exact z
    have hl : (putK kvs k v).length ≤ sizeLine := by have := length_putK kvs k v; omega
    refine wpAny_setItem_heap (hsz := hz) (tupleKind_room_in1 hu) (key_of I.hok eb) dd fun h' dd' hs => h _ ?_
    obtain ⟨q, es, ep, hq, h2, h3, h4, _, h5⟩ := dd'
    refine d_write I (by rw [e]; exact True.intro) hs ⟨q, hq⟩ ⟨hl, hd, _, (rel.put k eb rv).keeps fun c ys ec => ?_, q, es, ep, hq, h2, h3, h4, h5⟩
    rw [upd_ne (ne_of ec e (fun z => nomatch z))]
    exact ec
end

section
variable {X : Cx} {pins : List (Addr × Obj)} {σ : St} {H : Hp} {s : Shared} {a : Addr} {kvs : List (Key × V)} {k : Key} {u : Value} {A : Around} {E : Value → Shared → Prop}
end


/-! ### readings and rules -/
/-- the element of a subscription, not a slice -/
def NoSl (i : Expr) : Prop := ∀ ov iv, subscripted i false ov iv = operate [ov, iv] (getItem ov iv)
theorem subD_of {prog : Program} {w : World} {A : Around} {E : Value → Shared → Prop} {s : Shared} {env : Env} {value slice : Expr} {pos : Pos} {T id : String} {Q : Value → Shared → Prop}
    (hl : typeLookup (.type T) "__getitem__" = pure (some (.builtin id))) (hs : NoSl slice)
    (h : wpAny (model prog w) A (eval value env) (fun o s₁ => wpAny (model prog w) A (eval slice env) (fun i s₂ => s₂.TypeIs o T ∧ wpAny (model prog w) A (getItem o i) Q E s₂) E s₁) E s) :
    wpAny (model prog w) A (eval (.Subscript value slice pos) env) Q E s := by
  refine Subscript_ (wpAny_mono h (fun o s₁ h₁ => wpAny_mono h₁ (fun i s₂ h₂ => ?_) fun _ _ x => x) fun _ _ x => x)
  obtain ⟨hT, h₂⟩ := h₂
  unfold subscriptTail
  refine wpAny_bind ?_
  rw [getitemInPython_of_ne hT.not_modules]
  refine wpAny_bind (wpAny_specialOf hT hl ?_)
  have fin : wpAny (model prog w) A (subscripted slice false o i) (fun r s₃ => wpAny (model prog w) A (letTemporaryGo value o r >>= fun _ => pure r) Q E s₃) E s₂ := by
    rw [hs o i]
    exact wpAny_operating (wpAny_mono h₂ (fun r s₃ h₃ => wpAny_bind (wpAny_letTemporaryGo (wpAny_pure h₃))) fun _ _ x => x)
  first
    | exact wpAny_pure (wpAny_bind fin)
    | exact wpAny_bind (wpAny_pure (wpAny_bind fin))
    | exact wpAny_bind fin

theorem dict_typeIs {X : Cx} {pins : List (Addr × Obj)} {σ : St} {H : Hp} {s : Shared} {a : Addr} {y : V} {o : Option V} (I : Inv X pins σ H s) (g : DGet H a y o) : s.TypeIs (.ref a) "dict" := by
  rcases g with ⟨kvs, k, e, _, _⟩ | ⟨kvs, k, b, e, _, _, _⟩
  · obtain ⟨_, _, vs, _, dd⟩ := dk_rd I.hok e
    exact dd.typeIs
  · obtain ⟨_, _, xs, _, dd⟩ := dt_rd I.hok e
    exact dd.typeIs
/-- d[y] -/
def tDGet (td ty : TE) : TE := fun σ H Q => td σ H fun x H1 => ty σ H1 fun y H2 => ∃ a v, x = .ref a ∧ DGet H2 a y (some v) ∧ Q v H2
/-- d[y] = v -/
def sDPut (td ty tv : TE) : TS := fun D σ H => tv σ H fun v H1 => td σ H1 fun x H2 => ty σ H2 fun y H3 => ∃ a H4, x = .ref a ∧ DPut H3 a y v H4 ∧ D.nx σ H4
section
variable {X : Cx} {o i e value : Expr} {pos pos' tpos : Pos} {td ty tv : TE}
theorem pe_dget (hu : X.A.units + 1 < cLine) (ho : PE X o td) (hi : PE X i ty) (hs : NoSl i) : PE X (.Subscript o i pos) (tDGet td ty) := by
  intro pins s σ H Q I h
  refine subD_of PySem.F.slot_dict_getitem.lookup hs (thn (ho pins s σ H _ I h) fun u s1 ⟨x, H1, I1, rx, q1⟩ => thn (hi pins s1 σ H1 _ I1 q1) fun iv s2 ⟨y, H2, I2, ry, a, v, ex, g, q2⟩ => ?_)
  subst ex
  obtain rfl : u = Value.ref a := rx
  exact ⟨dict_typeIs I2 g, d_getItem hu I2 g ry fun w' s3 I3 rw' => ⟨v, H2, I3, rw', q2⟩⟩
theorem ps_dput (hu : X.A.units + 1 < cLine) (ho : PE X o td) (hi : PE X i ty) (hv : PE X value tv) (hs : swapsWith value (some (.Subscript o i pos')) pos.line X.env = pure false) :
    PS X (.Assign [.Subscript o i pos'] value pos) (sDPut td ty tv) := by
  intro pins s σ H D I h
  refine wpAny_Assign_Subscript (thn (hv pins s σ H _ I h) fun r s1 ⟨v, H1, I1, rv, q1⟩ => thn (ho pins s1 σ H1 _ I1 q1) fun u s2 ⟨x, H2, I2, rx, q2⟩ => thn (hi pins s2 σ H2 _ I2 q2) fun iv s3 ⟨y, H3, I3, ry, a, H4, ex, g, q3⟩ => ?_) hs
  subst ex
  obtain rfl : u = Value.ref a := rx
  exact d_setItem hu I3 g ry rv fun s4 I4 => ⟨σ, H4, I4, q3⟩
end


/-! ### displays -/
theorem dk_empty {P : Program} {w : World} {H : Hp} (h : Heap) (hb : sysModules < h.objs.size) : ObjOk P w H (h.push { cls := .type "dict", data := .dict #[] }) h.objs.size (.dK []) :=
  ⟨Nat.zero_le _, beq_eq_false_iff_ne.mpr (Ne.symm (Nat.ne_of_lt hb)), [], .nil, Heap.DictOf.new h⟩
/-- {}, to be a dict of the kind that is wanted -/
def tDNewK : TE := fun _ H Q => ∀ p, H p = none → Q (.ref p) (upd H p (.dK []))
section
variable {X : Cx} {pos : Pos}
theorem pe_dnewK : PE X (.Dict [] [] pos) tDNewK := fun pins s σ H Q I h =>
  wpAny_Dict_empty ⟨.ref s.heap.objs.size, _, I.laid (a := s.heap.objs.size) (o := .dK []) (t' := s.toks) (fun _ _ q => Heap.get?_push_of_some _ q) (Nat.le_refl _) (dk_empty s.heap I.big), rfl, h _ (I.hok.fresh (Nat.le_refl _))⟩
end

/-! ### methods -/
/-- a method call o.m(e) of a built-in, with one argument: what must be seen of the text -/
structure M1 (X : Cx) (o : Expr) (m : Str) (apos : Pos) (e : Expr) (cpos : Pos) : Prop where
  base : attributeBase o m X.env (eval o X.env) = eval o X.env
  few : ((backTo cpos (starEach [e] X.env)).all (fun x => !x.1) && (backToKw cpos (keywordEach [] X.env)).all (fun x => x.1.isSome)
    && decide (([e] : List Expr).length + ([] : List Keyword).length + (if ([] : List Keyword).isEmpty then 0 else 1) < 30)) = true
  line : (apos.endLine == cpos.line) = true
  trees : backTo cpos (starEach [e] X.env) = [(false, eval e X.env)]
structure M2 (X : Cx) (o : Expr) (m : Str) (apos : Pos) (e f : Expr) (cpos : Pos) : Prop where
  base : attributeBase o m X.env (eval o X.env) = eval o X.env
  few : ((backTo cpos (starEach [e, f] X.env)).all (fun x => !x.1) && (backToKw cpos (keywordEach [] X.env)).all (fun x => x.1.isSome)
    && decide (([e, f] : List Expr).length + ([] : List Keyword).length + (if ([] : List Keyword).isEmpty then 0 else 1) < 30)) = true
  line : (apos.endLine == cpos.line) = true
  trees : backTo cpos (starEach [e, f] X.env) = [(false, eval e X.env), (false, eval f X.env)]

section
variable {X : Cx} {pins : List (Addr × Obj)} {σ : St} {H : Hp} {s : Shared} {a : Addr} {y d : V} {u r : Value} {o : Option V} {A : Around} {E : Value → Shared → Prop}
end

section
variable {X : Cx} {o e f : Expr} {apos cpos : Pos} {td ty tx : TE}
end

/-! ### dict(d): a copy -/
section
variable {X : Cx} {pins : List (Addr × Obj)} {σ : St} {H : Hp} {s : Shared} {a : Addr} {kvs : List (Key × V)} {A : Around} {E : Value → Shared → Prop}
end


section
variable {X : Cx} {pins : List (Addr × Obj)} {σ : St} {H : Hp} {s : Shared} {a : Addr} {y : V} {u : Value} {A : Around} {E : Value → Shared → Prop}
end
end L2

set_option maxHeartbeats 1000000
/-! ### x in d.values(); list(reversed(text)) -/
namespace L2
open PySem PySem.Spec PyProof.Rows
section
variable {prog : Program} {w : World} {KK : Type} [DecidableEq KK] {knd : KeyKind prog w KK}
end
section
variable {X : Cx}
end
end L2
/-! ### sum(list of whole numbers); isinstance(number, int), isinstance(number, bool) -/
namespace L2
open PySem PySem.Spec PyProof.Rows
section
variable {X : Cx}
end
end L2
/-! ### text.count(sign); any(list of truths); isinstance(tuple, tuple); zip of two sequences of one length -/
namespace L2
open PySem PySem.Spec PyProof.Rows
section
variable {X : Cx}
end
section
variable {prog : Program} {w : World} {A : Around} {E : Value → Shared → Prop} {s : Shared}
/-- what lies apart of what -/
structure ZA (z TI TO i1 i2 : Addr) (f1 f2 : List Addr) : Prop where
  m1 : i1 ∈ f1
  m2 : i2 ∈ f2
  z1 : z ∉ f1
  z2 : z ∉ f2
  o1 : TO ∉ f1
  o2 : TO ∉ f2
  c1 : i1 ∉ f2
  c2 : i2 ∉ f1
  tz : TI ≠ z
  tt : TI ≠ TO
  t1 : TI ≠ i1
  t2 : TI ≠ i2
  oz : TO ≠ z
theorem nm {a b : Addr} {f : List Addr} (h : a ∈ f) (n : b ∉ f) : a ≠ b := fun z => n (z ▸ h)
section
variable {z TI TO i1 i2 : Addr} {f1 f2 : List Addr} {n1 n2 i : Nat} {P1 P2 : Nat → Value → Prop} {S1 S2 : Nat → Heap → Prop} {a b : Value}
theorem zipD_item {Q : Value → Shared → Prop} (D1 : Draws prog w A i1 f1 n1 P1 S1) (D2 : Draws prog w A i2 f2 n2 P2 S2) (Z : ZA z TI TO i1 i2 f1 f2)
    (hz : IsZip s.heap z TI TO .none) (hTI : IsPair s.heap TI (.ref i1) (.ref i2)) (hTO : IsPair s.heap TO a b) (h1 : S1 i s.heap) (h2 : S2 i s.heap) (l1 : i < n1) (l2 : i < n2)
    (hQ : ∀ x y h' tk, P1 i x → P2 i y → IsZip h' z TI TO (rawInt s.heap.objs.size) → IsPair h' TO x y → S1 (i + 1) h' → S2 (i + 1) h' → IsPair h' s.heap.objs.size x y → h'.objs.size = s.heap.objs.size + 1 →
      (∀ c o, c ≠ z → c ≠ TO → c ≠ i1 → c ≠ i2 → s.heap.get? c = some o → h'.get? c = some o) → Q (.ref s.heap.objs.size) { s with heap := h', toks := tk }) :
    wpAny (model prog w) A (Builtin.«zip.__next__» ⟨[.ref z], []⟩) (fun fin s' => ∃ v, fin = .done (.ret v) ∧ Q v s') E s := by
  obtain ⟨hp, g, d, tk0, os⟩ := s
  have i1z := nm Z.m1 Z.z1
  have i2z := nm Z.m2 Z.z2
  have i1o := nm Z.m1 Z.o1
  have i2o := nm Z.m2 Z.o2
  have i21 := nm Z.m2 Z.c1
  refine wpAny_bind (m := field (.ref z) 2) (wpAny_field hz rfl (x := .bool false) rfl ?_)
  refine wpAny_bind (m := field (.ref z) 3) (wpAny_field hz rfl (x := .ref TI) rfl ?_)
  refine wpAny_bind (m := seqItems? (.ref TI)) (wpAny_seqItems hTI rfl ?_)
  refine wpAny_bind (m := Builtin.SmallTypes.ownedTupleIsFree (.ref z)) ?_
  (unfold Builtin.SmallTypes.ownedTupleIsFree; refine wpAny_bind (m := field (.ref z) 0) (wpAny_field hz rfl (x := .none) rfl (wpAny_pure ?_)))
  simp only [if_true]
  refine wpAny_bind (wpAny_rule ?_); refine wpAny_bind (m := field (.ref z) 4) (wpAny_field hz rfl (x := .ref TO) rfl ?_)
  refine wpAny_bind (wpAny_setField_rec hz (by simp) fun k1 zk1 sk1 => ?_)
  replace zk1 : IsZip k1 z TI TO .ellipsis := zk1
  replace sk1 : Heap.SameBut z hp k1 := sk1
  refine wpAny_bind ?_; simp only [List.zipIdx_cons, List.zipIdx_nil, List.forIn_cons, List.forIn_nil]
  refine wpAny_bind (wpAny_bind (wpAny_onRaise ?_)); refine wpAny_bind (m := Builtin.SmallTypes.nextOf (.ref i1)) ?_
  refine D1.item i _ _ _ l1 (D1.frame _ _ _ h1 fun c hc o e => sk1.extBut _ _ (nm hc Z.z1) e) fun x k2 tk2 px st2 sk2 => wpAny_pure ?_
  replace sk2 : Heap.SameBut i1 k1 k2 := sk2
  have to2 : IsPair k2 TO a b := sk2.extBut _ _ (Ne.symm i1o) (sk1.extBut _ _ Z.oz hTO)
  refine wpAny_bind (m := seqItems? (.ref TO)) (wpAny_seqItems to2 rfl ?_)
  refine wpAny_bind (wpAny_updateSeq_pair to2 fun k3 to3 sk3 => ?_)
  replace to3 : IsPair k3 TO x b := to3
  replace sk3 : Heap.SameBut TO k2 k3 := sk3
  refine wpAny_bind (wpAny_letGo (wpAny_pure ?_)); refine wpAny_bind (wpAny_bind (wpAny_onRaise ?_))
  refine wpAny_bind (m := Builtin.SmallTypes.nextOf (.ref i2)) ?_
  refine D2.item i _ _ _ l2 (D2.frame _ _ _ h2 fun c hc o e => sk3.extBut _ _ (nm hc Z.o2) (sk2.extBut _ _ (nm hc Z.c1) (sk1.extBut _ _ (nm hc Z.z2) e))) fun y k4 tk4 py st4 sk4 => wpAny_pure ?_
  replace sk4 : Heap.SameBut i2 k3 k4 := sk4
  have to4 : IsPair k4 TO x b := sk4.extBut _ _ (Ne.symm i2o) to3
  refine wpAny_bind (m := seqItems? (.ref TO)) (wpAny_seqItems to4 rfl ?_)
  refine wpAny_bind (wpAny_updateSeq_pair to4 fun k5 to5 sk5 => ?_)
  replace to5 : IsPair k5 TO x y := to5
  replace sk5 : Heap.SameBut TO k4 k5 := sk5
  refine wpAny_bind (wpAny_letGo (wpAny_pure (wpAny_pure ?_))); refine wpAny_bind (m := seqItems? (.ref TO)) (wpAny_seqItems to5 rfl ?_)
  refine wpAny_bind (wpAny_newTuple ?_)
  have sz : k5.objs.size = hp.objs.size := by rw [sk5.1, sk4.1, sk3.1, sk2.1, sk1.1]
  have z5 : IsZip k5 z TI TO .ellipsis := sk5.extBut _ _ (Ne.symm Z.oz) (sk4.extBut _ _ (Ne.symm i2z) (sk3.extBut _ _ (Ne.symm Z.oz) (sk2.extBut _ _ (Ne.symm i1z) zk1)))
  have kp : ∀ c o, c ≠ z → c ≠ TO → c ≠ i1 → c ≠ i2 → hp.get? c = some o → k5.get? c = some o := fun c o c1 c2 c3 c4 e => sk5.extBut _ _ c2 (sk4.extBut _ _ c4 (sk3.extBut _ _ c2 (sk2.extBut _ _ c3 (sk1.extBut _ _ c1 e))))
  have s15 : S1 (i + 1) k5 := D1.frame _ _ _ st2 fun c hc o e => sk5.extBut _ _ (nm hc Z.o1) (sk4.extBut _ _ (nm hc Z.c2) (sk3.extBut _ _ (nm hc Z.o1) e))
  have s25 : S2 (i + 1) k5 := D2.frame _ _ _ st4 fun c hc o e => sk5.extBut _ _ (nm hc Z.o2) e
  have zl : z < k5.objs.size := Heap.lt_size z5
  refine wpAny_bind (m := Builtin.SmallTypes.ownedTupleHandOut (.ref z) (.ref k5.objs.size)) ?_
  have z6 : IsZip (k5.push { cls := .type "tuple", data := .seq #[x, y] }) z TI TO .ellipsis := Heap.get?_push_of_some _ z5
  (unfold Builtin.SmallTypes.ownedTupleHandOut; refine wpAny_bind (wpAny_setField_rec z6 (by simp) fun k7 z7 s7 => ?_))
  replace z7 : IsZip k7 z TI TO (rawInt k5.objs.size) := z7
  refine wpAny_setField_rec z7 (by simp) fun k8 z8 s8 => ?_
  replace z8 : IsZip k8 z TI TO (rawInt k5.objs.size) := z8
  have up : ∀ c o, c ≠ z → k5.get? c = some o → k8.get? c = some o := fun c o c1 e => s8.extBut _ _ c1 (s7.extBut _ _ c1 (Heap.get?_push_of_some _ e))
  have t8 : IsPair k8 k5.objs.size x y := s8.extBut _ _ (Nat.ne_of_gt zl) (s7.extBut _ _ (Nat.ne_of_gt zl) (Heap.get?_push_size _ rfl))
  have e8 : k8.objs.size = k5.objs.size + 1 := by rw [s8.1, s7.1, Heap.size_push]
  rw [sz] at z8 t8 e8
  refine wpAny_pure ⟨_, rfl, ?_⟩
  show Q (.ref k5.objs.size) _
  rw [sz]
  exact hQ x y k8 tk4 px py z8 (up _ _ Z.oz to5) (D1.frame _ _ _ s15 fun c hc o e => up c o (nm hc Z.z1) e) (D2.frame _ _ _ s25 fun c hc o e => up c o (nm hc Z.z2) e) t8 e8 fun c o c1 c2 c3 c4 e => up c o c1 (kp c o c1 c2 c3 c4 e)
theorem zipD_end {Q : Fin → Shared → Prop} (D1 : Draws prog w A i1 f1 n1 P1 S1) (Z : ZA z TI TO i1 i2 f1 f2)
    (hz : IsZip s.heap z TI TO .none) (hTI : IsPair s.heap TI (.ref i1) (.ref i2)) (hTO : IsPair s.heap TO a b) (h1 : S1 n1 s.heap)
    (hE : ∀ h' e, (∀ c o, c ≠ z → c ≠ TO → c ≠ i1 → c ≠ i2 → s.heap.get? c = some o → h'.get? c = some o) → (∃ o, h'.get? e = some o ∧ o.cls = .type "StopIteration") → E (.ref e) { s with heap := h' }) :
    wpAny (model prog w) A (Builtin.«zip.__next__» ⟨[.ref z], []⟩) Q E s := by
  obtain ⟨hp, g, d, tk0, os⟩ := s
  have i1z := nm Z.m1 Z.z1
  refine wpAny_bind (m := field (.ref z) 2) (wpAny_field hz rfl (x := .bool false) rfl ?_)
  refine wpAny_bind (m := field (.ref z) 3) (wpAny_field hz rfl (x := .ref TI) rfl ?_)
  refine wpAny_bind (m := seqItems? (.ref TI)) (wpAny_seqItems hTI rfl ?_)
  refine wpAny_bind (m := Builtin.SmallTypes.ownedTupleIsFree (.ref z)) ?_
  (unfold Builtin.SmallTypes.ownedTupleIsFree; refine wpAny_bind (m := field (.ref z) 0) (wpAny_field hz rfl (x := .none) rfl (wpAny_pure ?_)))
  simp only [if_true]
  refine wpAny_bind (wpAny_rule ?_); refine wpAny_bind (m := field (.ref z) 4) (wpAny_field hz rfl (x := .ref TO) rfl ?_)
  refine wpAny_bind (wpAny_setField_rec hz (by simp) fun k1 zk1 sk1 => ?_)
  replace zk1 : IsZip k1 z TI TO .ellipsis := zk1
  replace sk1 : Heap.SameBut z hp k1 := sk1
  refine wpAny_bind ?_; simp only [List.zipIdx_cons, List.zipIdx_nil, List.forIn_cons, List.forIn_nil]
  refine wpAny_bind (wpAny_bind (wpAny_onRaise ?_)); refine wpAny_bind (m := Builtin.SmallTypes.nextOf (.ref i1)) ?_
  refine D1.done _ _ _ (D1.frame _ _ _ h1 fun c hc o e => sk1.extBut _ _ (nm hc Z.z1) e) fun k2 e sk2 he => ?_
  obtain ⟨oe, hoe, hce⟩ := he
  have z2 : IsZip k2 z TI TO .ellipsis := sk2 _ _ (Ne.symm i1z) zk1
  have ez : e ≠ z := fun x => by subst x; rw [z2] at hoe; cases hoe; simp at hce
  refine wpAny_setField_rec z2 (by simp) fun k3 _ sk3 => hE k3 e (fun c o c1 _ c3 _ x => sk3.extBut _ _ c1 (sk2 _ _ c3 (sk1.extBut _ _ c1 x))) ⟨oe, sk3.extBut _ _ ez hoe, hce⟩
theorem nextZ_item {Q : Option Value → Shared → Prop} (D1 : Draws prog w A.in1 i1 f1 n1 P1 S1) (D2 : Draws prog w A.in1 i2 f2 n2 P2 S2) (Z : ZA z TI TO i1 i2 f1 f2)
    (hz : IsZip s.heap z TI TO .none) (hTI : IsPair s.heap TI (.ref i1) (.ref i2)) (hTO : IsPair s.heap TO a b) (h1 : S1 i s.heap) (h2 : S2 i s.heap) (l1 : i < n1) (l2 : i < n2)
    (hQ : ∀ x y h' tk, P1 i x → P2 i y → IsZip h' z TI TO (rawInt s.heap.objs.size) → IsPair h' TO x y → S1 (i + 1) h' → S2 (i + 1) h' → IsPair h' s.heap.objs.size x y → h'.objs.size = s.heap.objs.size + 1 →
      (∀ c o, c ≠ z → c ≠ TO → c ≠ i1 → c ≠ i2 → s.heap.get? c = some o → h'.get? c = some o) → Q (some (.ref s.heap.objs.size)) { s with heap := h', toks := tk }) :
    wpAny (model prog w) A (pyNext (.ref z)) Q E s := by
  have hT : s.TypeIs (.ref z) "zip" := ⟨_, hz, rfl⟩
  unfold pyNext
  exact wpAny_bind (wpAny_attempt (wpAny_callSpecial?_slot (name := Str.ofString "__next__") hT F.slot_zip_next (wpAny_call_entry F.slot_zip_next hT F.entry_zip_next
      (zipD_item D1 D2 Z hz hTI hTO h1 h2 l1 l2 fun x y h' tk p1 p2 a1 a2 a3 a4 a5 a6 a7 => wpAny_pure (hQ x y h' tk p1 p2 a1 a2 a3 a4 a5 a6 a7)) (F.args_zip_next_1 _))))
theorem nextZ_end {Q : Option Value → Shared → Prop} (D1 : Draws prog w A.in1 i1 f1 n1 P1 S1) (Z : ZA z TI TO i1 i2 f1 f2)
    (hz : IsZip s.heap z TI TO .none) (hTI : IsPair s.heap TI (.ref i1) (.ref i2)) (hTO : IsPair s.heap TO a b) (h1 : S1 n1 s.heap)
    (hQ : ∀ h', (∀ c o, c ≠ z → c ≠ TO → c ≠ i1 → c ≠ i2 → s.heap.get? c = some o → h'.get? c = some o) → Q none { s with heap := h' }) : wpAny (model prog w) A (pyNext (.ref z)) Q E s := by
  have hT : s.TypeIs (.ref z) "zip" := ⟨_, hz, rfl⟩
  unfold pyNext
  refine wpAny_bind (wpAny_attempt (wpAny_callSpecial?_slot (name := Str.ofString "__next__") hT F.slot_zip_next (wpAny_call_entry F.slot_zip_next hT F.entry_zip_next (zipD_end D1 Z hz hTI hTO h1 fun h' e hk he => ?_) (F.args_zip_next_1 _))))
  obtain ⟨o, ho, hc⟩ := he
  refine wpAny_bind (wpAny_isInstance (T := "StopIteration") (b := true) ⟨o, ho, hc⟩ isSubtype_stop (wpAny_pure (hQ _ hk)))
end
/-- one of a zip's two sequences -/
structure ZS (P : Program) (w : World) (K : PySem.W.Frag) (a it : Addr) (Sq : Hp → List V → Prop) (IT : Nat → Heap → Prop) : Prop where
  obj : ∀ i h, IT i h → ∃ o, h.get? it = some o ∧ ∀ v, o.data ≠ .cell v
  keep : ∀ i h h', IT i h → (∀ o, h.get? it = some o → h'.get? it = some o) → IT i h'
  inj : ∀ (X : Cx), X.K = K → ∀ (pins : List (Addr × Obj)) (s : Shared) (σ : St) (H : Hp), Inv X pins σ H s → ∀ xs ys, Sq H xs → Sq H ys → xs = ys
  draws : ∀ (X : Cx), X.prog = P → X.w = w → X.K = K → X.calm = true → ∀ (pins : List (Addr × Obj)) (s : Shared) (σ : St) (H : Hp), Inv X pins σ H s → ∀ xs, Sq H xs → a ≠ it →
    ∃ (its : List Value) (SS : Nat → Heap → Prop), Vals xs its ∧ Draws P w X.A.in1 it [it, a] its.length (fun i v => its[i]? = some v) SS ∧ (∀ i, IT i s.heap → SS i s.heap) ∧ ∀ i h, SS i h → IT i h
theorem zs_tup {P : Program} {w : World} {K : PySem.W.Frag} (a it : Addr) : ZS P w K a it (fun H xs => SqT K H a xs) (fun i h => h.IsTupleIter it a i) where
  obj := fun i h st => by
    obtain ⟨o, ho, hc, hd⟩ := st
    exact ⟨o, ho, fun v z => by rw [hd] at z; cases z⟩
  keep := fun i h h' st k => by
    obtain ⟨o, ho, r⟩ := st
    exact ⟨o, k o ho, r⟩
  inj := fun X hK pins s σ H I xs ys h1 h2 => by subst hK; exact I.tuple_inj h1 h2
  draws := fun X hP hw hK hc pins s σ H I xs hq ne => by
    subst hP hw hK
    obtain ⟨its, rv, p, _⟩ := I.tuple hq
    have D := draws_tuple (prog := X.prog) (w := X.w) (A := X.A.in1) (I.ok.hd hc) it a ne its.toArray
    refine ⟨its, fun i h => h.IsTupleIter it a i ∧ h.IsTuple a its.toArray, rv, ?_, fun i h => ⟨h, p⟩, fun i h z => z.1⟩
    have e : its.toArray.size = its.length := List.size_toArray
    rw [← e]
    refine ⟨D.live, D.frame, fun i s Q E hi st q => D.item i s Q E hi st fun x h' tk hx => q x h' tk (by simpa using hx), D.done⟩
theorem zs_lst {P : Program} {w : World} {K : PySem.W.Frag} (a it : Addr) : ZS P w K a it (fun H xs => SqL K H a xs) (fun i h => h.IsListIter it a i) where
  obj := fun i h st => by
    obtain ⟨o, ho, hc, hd⟩ := st
    exact ⟨o, ho, fun v z => by rw [hd] at z; cases z⟩
  keep := fun i h h' st k => by
    obtain ⟨o, ho, r⟩ := st
    exact ⟨o, k o ho, r⟩
  inj := fun X hK pins s σ H I xs ys h1 h2 => by subst hK; exact I.list_inj h1 h2
  draws := fun X hP hw hK hc pins s σ H I xs hq ne => by
    subst hP hw hK
    obtain ⟨its, rv, p, _⟩ := I.list hq
    have D := Draws.list (prog := X.prog) (w := X.w) (A := X.A.in1) (I.ok.hd hc) it a ne its.toArray
    refine ⟨its, fun i h => h.IsListIter it a i ∧ h.IsList a its.toArray, rv, ?_, fun i h => ⟨h, p.isList⟩, fun i h z => z.1⟩
    have e : its.toArray.size = its.length := List.size_toArray
    rw [← e]
    refine ⟨D.live, D.frame, fun i s Q E hi st q => D.item i s Q E hi st fun x h' tk hx => q x h' tk (by simpa using hx), D.done⟩
/-- a zip of two sequences of one length -/
def ItZ (Sq1 Sq2 : Hp → List V → Prop) : It := ⟨fun i H => ∃ xs ys x y, Sq1 H xs ∧ Sq2 H ys ∧ xs[i]? = some x ∧ ys[i]? = some y,
  fun i H x H' => ∃ T u v, (∀ xs, Sq1 H xs → xs[i]? = some u) ∧ (∀ ys, Sq2 H ys → ys[i]? = some v) ∧ x = .ref T ∧ H T = none ∧ H' = upd H T (.tup [u, v]),
  fun i H => ∃ xs, Sq1 H xs ∧ (∃ ys, Sq2 H ys) ∧ xs.length = i⟩
theorem turn_zip {P : Program} {w : World} {K : PySem.W.Frag} {elts : List Expr} {k : Nat} {pos : Pos} {a1 a2 z TI TO i1 i2 : Addr} {Sq1 Sq2 : Hp → List V → Prop} {I1 I2 : Nat → Heap → Prop}
    (W1 : ZS P w K a1 i1 Sq1 I1) (W2 : ZS P w K a2 i2 Sq2 I2) (Z : ZA z TI TO i1 i2 [i1, a1] [i2, a2]) (n1 : a1 ≠ i1) (n2 : a2 ≠ i2) :
    Turn P w K (.Tuple elts k pos) (ItZ Sq1 Sq2) [z, TI, TO, i1, i2] z (fun i h => IsZip h z TI TO .none ∧ IsPair h TI (.ref i1) (.ref i2) ∧ (∃ a b, IsPair h TO a b) ∧ I1 i h ∧ I2 i h) where
  mem := by simp
  obj := fun i h st b hb => by
    obtain ⟨q1, q2, ⟨a, b', q3⟩, q4, q5⟩ := st
    simp only [List.mem_cons, List.not_mem_nil, or_false] at hb
    rcases hb with g | g | g | g | g <;> rw [g]
    · exact ⟨_, q1, fun v z => by cases z⟩
    · exact ⟨_, q2, fun v z => by cases z⟩
    · exact ⟨_, q3, fun v z => by cases z⟩
    · exact W1.obj i h q4
    · exact W2.obj i h q5
  keep := fun i h h' st kp => by
    obtain ⟨q1, q2, ⟨a, b', q3⟩, q4, q5⟩ := st
    exact ⟨kp z (by simp) _ q1, kp TI (by simp) _ q2, ⟨a, b', kp TO (by simp) _ q3⟩, W1.keep _ _ _ q4 fun o e => kp i1 (by simp) o e, W2.keep _ _ _ q5 fun o e => kp i2 (by simp) o e⟩
  item := by
    intro X hP hw hK hc i pins s σ H E I hf st hg
    obtain ⟨q1, q2, ⟨a, b', q3⟩, q4, q5⟩ := st
    obtain ⟨xs, ys, x, y, hx, hy, gx, gy⟩ := hg
    obtain ⟨xi, SX, rx, DX, ux, vx⟩ := W1.draws X hP hw hK hc pins s σ H I xs hx n1
    obtain ⟨yi, SY, ry, DY, uy, vy⟩ := W2.draws X hP hw hK hc pins s σ H I ys hy n2
    obtain ⟨u0, hu, ru⟩ := rx.get gx
    obtain ⟨w0, hw0, rw0⟩ := ry.get gy
    have ij1 := W1.inj X hK pins s σ H I
    have ij2 := W2.inj X hK pins s σ H I
    subst hP hw hK
    refine nextZ_item DX DY Z q1 q2 q3 (ux i q4) (uy i q5) (List.getElem?_eq_some_iff.mp hu).1 (List.getElem?_eq_some_iff.mp hw0).1 fun x2 y2 h' tk p1 p2 e1 e2 e3 e4 e5 e6 e7 => ⟨_, rfl, ?_⟩
    have ex : x2 = u0 := Option.some.inj (p1.symm.trans hu)
    have ey : y2 = w0 := Option.some.inj (p2.symm.trans hw0)
    subst ex
    subst ey
    have lt : ∀ {c o}, s.heap.get? c = some o → s.heap.objs.size ≠ c := fun e => Nat.ne_of_gt (Heap.lt_size e)
    obtain ⟨o1, g1⟩ := DX.live _ _ (ux i q4)
    obtain ⟨o2, g2⟩ := DY.live _ _ (uy i q5)
    have hTw : s.heap.objs.size ∉ [z, TI, TO, i1, i2] := by
      simp only [List.mem_cons, List.not_mem_nil, or_false, not_or]
      exact ⟨lt q1, lt q2, lt q3, lt g1, lt g2⟩
    refine wpAny_letOwnedTupleGo_zip e1 fun h2 z2 sb => ?_
    have kk : ∀ b o, b ∉ [z, TI, TO, i1, i2] → s.heap.get? b = some o → h2.get? b = some o := fun b o hb e => by
      simp only [List.mem_cons, List.not_mem_nil, or_false, not_or] at hb
      exact sb.extBut _ _ hb.1 (e7 b o hb.1 hb.2.2.1 hb.2.2.2.1 hb.2.2.2.2 e)
    have hTup2 : h2.IsTuple s.heap.objs.size #[x2, y2] := ⟨_, sb.extBut _ _ (lt q1) e5, rfl, _, rfl⟩
    refine ⟨.ref s.heap.objs.size, upd H s.heap.objs.size (.tup [x, y]), ?_, rfl, ⟨s.heap.objs.size, x, y, fun zs hzs => by rw [ij1 zs xs hzs hx]; exact gx, fun zs hzs => by rw [ij2 zs ys hzs hy]; exact gy, rfl, I.hok.fresh (Nat.le_refl _), rfl⟩,
      ⟨z2, sb.extBut _ _ Z.tz (e7 _ _ Z.tz Z.tt Z.t1 Z.t2 q2), ⟨_, _, sb.extBut _ _ Z.oz e2⟩, vx _ _ (DX.frame _ _ _ e3 fun c hc o e => sb.extBut _ _ (nm hc Z.z1) e), vy _ _ (DY.frame _ _ _ e4 fun c hc o e => sb.extBut _ _ (nm hc Z.z2) e)⟩, fun b hb => ?_⟩
    · refine I.turnLaid (t' := tk) (h' := h2) kk hf (Nat.le_refl _) ?_
      exact ⟨by show 2 ≤ sizeLine; decide, [x2, y2], .cons ru (.cons rw0 .nil), hTup2⟩
    · rw [upd_ne (fun q : b = s.heap.objs.size => hTw (q ▸ hb))]; exact (hf b hb).1
  done := by
    intro X hP hw hK hc i pins s σ H E I hf st hg
    obtain ⟨q1, q2, ⟨a, b', q3⟩, q4, q5⟩ := st
    obtain ⟨xs, hx, ⟨ys, hy⟩, el⟩ := hg
    obtain ⟨xi, SX, rx, DX, ux, vx⟩ := W1.draws X hP hw hK hc pins s σ H I xs hx n1
    have hl := rx.length
    subst hP hw hK
    have e0 : i = xi.length := by omega
    subst e0
    refine nextZ_end DX Z q1 q2 q3 (ux _ q4) fun h' hk => ⟨rfl, I.turnedL (t' := s.toks) (ch := [z, TI, TO, i1, i2]) (fun b o hb e => ?_) hf⟩
    simp only [List.mem_cons, List.not_mem_nil, or_false, not_or] at hb
    exact hk b o hb.1 hb.2.2.1 hb.2.2.2.1 hb.2.2.2.2 e
  self := fun _ _ s _ _ st h => wpAny_pyIter_zip st.1 h
/-- the heap behind a zip's making -/
abbrev zmA (h : Heap) (c : String) (l : Addr) : Heap := h.push { cls := .type c, data := .fields #[.ref l, .int 0 0] }
abbrev zmB (h : Heap) (c d : String) (l m : Addr) : Heap := zmA (zmA h c l) d m
abbrev zmC (h : Heap) (c d : String) (l m : Addr) : Heap := (zmB h c d l m).push { cls := .type "tuple", data := .seq #[.ref h.objs.size, .ref (zmA h c l).objs.size] }
abbrev zmD (h : Heap) (c d : String) (l m : Addr) : Heap := (zmC h c d l m).push { cls := .type "tuple", data := .seq #[.none, .none] }
abbrev zmE (h : Heap) (c d : String) (l m : Addr) : Heap := (zmD h c d l m).push { cls := .type "zip", data := .fields #[.none, .bool false, .bool false, .ref (zmB h c d l m).objs.size, .ref (zmC h c d l m).objs.size] }
theorem meets_zipLT (l m : Addr) (xs ys : Array Value) : Meets (Builtin.«zip.__new__» ⟨[.type "zip", .ref l, .ref m], []⟩) (fun _ R s => s.heap.IsList l xs ∧ s.heap.IsTuple m ys ∧ R (.ok (.ret (.ref (zmD s.heap "list_iterator" "tuple_iterator" l m).objs.size))) { s with heap := zmE s.heap "list_iterator" "tuple_iterator" l m }) :=
  .of_wp fun prog w A R s h => by
    obtain ⟨hp, g, d, tk, os⟩ := s; obtain ⟨q1, q2, h⟩ := h; have hsub := sub_zip
    have k1 : Heap.IsList (Shared.heap ⟨hp, g, d, tk, os⟩) l xs := q1
    have k2 : Heap.IsTuple (Shared.heap ⟨hp.push { cls := .type "list_iterator", data := .fields #[.ref l, .int 0 0] }, g, d, tk, os⟩) m ys := by
      obtain ⟨o, e, r⟩ := q2
      exact ⟨o, Heap.get?_push_of_some _ e, r⟩
    wp_walk using wpAny_pyIter_list k1, wpAny_pyIter_tuple k2
    exact ⟨_, rfl, h⟩
/-- how a zip of two sequences is made: its five objects -/
def ZMk (c d : String) (P1 P2 : Heap → Prop) (l m : Addr) : Prop := ∀ (prog : Program) (w : World) (A : Around) (E : Value → Shared → Prop) (s : Shared) (Q : Value → Shared → Prop), P1 s.heap → P2 s.heap →
    (∀ h', IsZip h' (s.heap.objs.size + 4) (s.heap.objs.size + 2) (s.heap.objs.size + 3) .none → IsPair h' (s.heap.objs.size + 2) (.ref s.heap.objs.size) (.ref (s.heap.objs.size + 1)) →
      IsPair h' (s.heap.objs.size + 3) .none .none → h'.get? s.heap.objs.size = some { cls := .type c, data := .fields #[.ref l, .int 0 0] } → h'.get? (s.heap.objs.size + 1) = some { cls := .type d, data := .fields #[.ref m, .int 0 0] } →
      (∀ b o, s.heap.get? b = some o → h'.get? b = some o) → Q (.ref (s.heap.objs.size + 4)) { s with heap := h' }) →
    wpAny (model prog w) A (call (.type "zip") [.ref l, .ref m]) Q E s
theorem zmk_of {c d : String} {P1 P2 : Heap → Prop} {l m : Addr} (M : Meets (Builtin.«zip.__new__» ⟨[.type "zip", .ref l, .ref m], []⟩) (fun _ R s => P1 s.heap ∧ P2 s.heap ∧ R (.ok (.ret (.ref (zmD s.heap c d l m).objs.size))) { s with heap := zmE s.heap c d l m })) : ZMk c d P1 P2 l m := by
  intro prog w A E s Q p1 p2 h
  refine callType_new F.called_zip (by decide) (F.typeCall_zip_2 _ _) (F.newCall_zip_2 _ _) (fun ob => F.args_object_init_3 ob _ _) F.entry_zip_new M ⟨p1, p2, ?_⟩
  have e1 : (zmA s.heap c l).objs.size = s.heap.objs.size + 1 := Heap.size_push ..
  have e2 : (zmB s.heap c d l m).objs.size = s.heap.objs.size + 2 := by rw [Heap.size_push, e1]
  have e3 : (zmC s.heap c d l m).objs.size = s.heap.objs.size + 3 := by rw [Heap.size_push, e2]
  have e4 : (zmD s.heap c d l m).objs.size = s.heap.objs.size + 4 := by rw [Heap.size_push, e3]
  have g5 : (zmE s.heap c d l m).get? (zmD s.heap c d l m).objs.size = some _ := Heap.get?_push_size _ rfl
  have g4 : (zmE s.heap c d l m).get? (zmC s.heap c d l m).objs.size = some _ := Heap.get?_push_of_some _ (Heap.get?_push_size _ rfl)
  have g3 : (zmE s.heap c d l m).get? (zmB s.heap c d l m).objs.size = some _ := Heap.get?_push_of_some _ (Heap.get?_push_of_some _ (Heap.get?_push_size _ rfl))
  have g2 : (zmE s.heap c d l m).get? (zmA s.heap c l).objs.size = some _ := Heap.get?_push_of_some _ (Heap.get?_push_of_some _ (Heap.get?_push_of_some _ (Heap.get?_push_size _ rfl)))
  have g1 : (zmE s.heap c d l m).get? s.heap.objs.size = some _ := Heap.get?_push_of_some _ (Heap.get?_push_of_some _ (Heap.get?_push_of_some _ (Heap.get?_push_of_some _ (Heap.get?_push_size _ rfl))))
  show _ ∧ _
  rw [e2, e3, e4] at g5
  rw [e1, e2] at g3
  rw [e3] at g4
  rw [e1] at g2
  rw [e4]
  exact ⟨⟨_, g5, rfl⟩, h _ g5 g3 g4 g1 g2 fun b o x => Heap.get?_push_of_some _ (Heap.get?_push_of_some _ (Heap.get?_push_of_some _ (Heap.get?_push_of_some _ (Heap.get?_push_of_some _ x))))⟩
theorem nin {a b c : Nat} (h1 : a ≠ b) (h2 : a ≠ c) : (a : Addr) ∉ ([b, c] : List Addr) := fun h => by
  rcases List.mem_cons.mp h with e | e
  · exact h1 e
  · exact h2 (List.mem_singleton.mp e)
theorem nne {a b : Nat} (h : a ≠ b) : (a : Addr) ≠ (b : Addr) := h
theorem za_new {n l m : Nat} (h1 : l < n) (h2 : m < n) : ZA (n + 4 : Nat) (n + 2 : Nat) (n + 3 : Nat) n (n + 1 : Nat) [n, l] [(n + 1 : Nat), m] :=
  ⟨List.mem_cons_self, List.mem_cons_self, nin (a := n + 4) (b := n) (c := l) (by omega) (by omega), nin (a := n + 4) (b := n + 1) (c := m) (by omega) (by omega), nin (a := n + 3) (b := n) (c := l) (by omega) (by omega), nin (a := n + 3) (b := n + 1) (c := m) (by omega) (by omega),
    nin (a := n) (b := n + 1) (c := m) (by omega) (by omega), nin (a := n + 1) (b := n) (c := l) (by omega) (by omega), nne (a := n + 2) (b := n + 4) (by omega), nne (a := n + 2) (b := n + 3) (by omega), nne (a := n + 2) (b := n) (by omega), nne (a := n + 2) (b := n + 1) (by omega), nne (a := n + 3) (b := n + 4) (by omega)⟩
end
/-- zip of two sequences -/
def iZip (Sq1 Sq2 : Addr → Hp → List V → Prop) (ta : TA) : TI := fun σ H R => ta σ H fun vs H1 => ∃ a b, vs = [.ref a, .ref b] ∧ (∃ xs, Sq1 a H1 xs) ∧ (∃ ys, Sq2 b H1 ys) ∧ R (ItZ (Sq1 a) (Sq2 b)) H1
abbrev SqTa (K : PySem.W.Frag) : Addr → Hp → List V → Prop := fun a H xs => SqT K H a xs
abbrev SqLa (K : PySem.W.Frag) : Addr → Hp → List V → Prop := fun a H xs => SqL K H a xs
section
variable {X : Cx} {elts : List Expr} {k : Nat} {pos' : Pos} {a b : Expr} {ta : TA} {p pos : Pos}
theorem pi_zipG {Sq1 Sq2 : Addr → Hp → List V → Prop} (hg : Gl X "zip") (hm : X.mg "zip" = none) (ha : PA X [a, b] ta) (hs : starEach [a, b] X.env = [(false, eval a X.env), (false, eval b X.env)]) (hs2 : starEach [b] X.env = [(false, eval b X.env)])
    (hk : ∀ (pins : List (Addr × Obj)) (s : Shared) (σ : St) (H : Hp), Inv X pins σ H s → ∀ u v xs ys, Sq1 u H xs → Sq2 v H ys → u < s.heap.objs.size ∧ v < s.heap.objs.size ∧ ∃ (c d : String) (P1 P2 : Heap → Prop) (I1 I2 : Nat → Heap → Prop), ZMk c d P1 P2 u v ∧ P1 s.heap ∧ P2 s.heap ∧
      ZS X.prog X.w X.K u s.heap.objs.size (Sq1 u) I1 ∧ ZS X.prog X.w X.K v (s.heap.objs.size + 1) (Sq2 v) I2 ∧ (∀ h' : Heap, h'.get? s.heap.objs.size = some { cls := .type c, data := .fields #[.ref u, .int 0 0] } → I1 0 h') ∧ ∀ h' : Heap, h'.get? (s.heap.objs.size + 1) = some { cls := .type d, data := .fields #[.ref v, .int 0 0] } → I2 0 h') :
    PI X (.Tuple elts k pos') (.Call (.Name "zip" p) [a, b] [] pos) (iZip Sq1 Sq2 ta) := by
  intro pins s σ H R I h
  refine Call_ (ld_blt I hg hm boot_zip (PyProof.Rows.callWith_type1 (thn (ha pos pins s σ H _ I h) fun us s1 ⟨vs, H1, I1, r1, q1⟩ => ?_) (by rw [hs, hs2]) (by rw [hs2]; rfl)))
  obtain ⟨u, v, rfl, ⟨xs, hx⟩, ⟨ys, hy⟩, q⟩ := q1
  obtain ⟨u', v', rfl, ru, rv⟩ := vals2 r1
  cases ru
  cases rv
  obtain ⟨lu, lv, c, d, P1, P2, J1, J2, M, p1, p2, W1, W2, j1, j2⟩ := hk pins s1 σ H1 I1 u v xs ys hx hy
  refine M X.prog X.w X.A X.xe s1 _ p1 p2 fun h' z1 z2 z3 z4 z5 kk => wpAny_pyIter_zip z1 ?_
  refine ⟨s1.heap.objs.size + 4, [s1.heap.objs.size + 4, s1.heap.objs.size + 2, s1.heap.objs.size + 3, s1.heap.objs.size, s1.heap.objs.size + 1], _, _, H1, rfl, I1.kept (t' := s1.toks) kk, turn_zip W1 W2 (za_new lu lv) (Nat.ne_of_lt lu) (Nat.ne_of_lt (Nat.lt_succ_of_lt lv)), ⟨z1, z2, ⟨_, _, z3⟩, j1 h' z4, j2 h' z5⟩, fun e he => ?_, q⟩
  have he2 : s1.heap.objs.size ≤ e := by
    simp only [List.mem_cons, List.not_mem_nil, or_false] at he
    rcases he with g | g | g | g | g <;> rw [g] <;> omega
  exact I1.fpOk he2 (I1.hok.fresh he2)
theorem pi_zipLT (K : PySem.W.Frag) (hK : X.K = K) (hg : Gl X "zip") (hm : X.mg "zip" = none) (ha : PA X [a, b] ta) (hs : starEach [a, b] X.env = [(false, eval a X.env), (false, eval b X.env)] := by rfl) (hs2 : starEach [b] X.env = [(false, eval b X.env)] := by rfl) : PI X (.Tuple elts k pos') (.Call (.Name "zip" p) [a, b] [] pos) (iZip (SqLa K) (SqTa K) ta) := by
  subst hK
  refine pi_zipG hg hm ha hs hs2 fun pins s σ H I u v xs ys hx hy => ?_
  obtain ⟨xi, _, px, _⟩ := I.list hx
  obtain ⟨yi, _, py, _⟩ := I.tuple hy
  obtain ⟨ox, ex, _⟩ := id px.isList
  obtain ⟨oy, ey, _⟩ := id py
  exact ⟨Heap.lt_size ex, Heap.lt_size ey, _, _, (fun h => h.IsList u xi.toArray), (fun h => h.IsTuple v yi.toArray), _, _, zmk_of (meets_zipLT u v xi.toArray yi.toArray), px.isList, py, zs_lst u _, zs_tup v _, fun h' e => ⟨_, e, rfl, rfl⟩, fun h' e => ⟨_, e, rfl, rfl⟩⟩
end
/-- a loop over a zip -/
theorem for_zip {Sq1 Sq2 : Hp → List V → Prop} {xs ys : List V} {g : TG} {tb : TS} {D : Ends} {σ : St} {H : Hp} (Pv : Nat → St → Hp → Prop) (hlen : xs.length = ys.length) (h0 : Pv 0 σ H) (hl : ∀ i σ H, i ≤ xs.length → Pv i σ H → Sq1 H xs ∧ Sq2 H ys)
    (hs : ∀ i x y σ H T, xs[i]? = some x → ys[i]? = some y → Pv i σ H → H T = none → g (.ref T) σ (upd H T (.tup [x, y])) fun σ2 H2 => tb { D with nx := Pv (i + 1), ct := Pv (i + 1), bk := D.nx } σ2 H2) (hd : ∀ σ H, Pv xs.length σ H → D.nx σ H) :
    ∃ W : Nat → Nat → St → Hp → Prop, (∃ m, W 0 m σ H) ∧ ∀ i m σ H, W i m σ H →
      ((ItZ Sq1 Sq2).stop i H ∧ D.nx σ H) ∨ ((ItZ Sq1 Sq2).go i H ∧ ∃ N : St → Hp → Prop, (∀ σ' H', N σ' H' → ∃ m', m' < m ∧ W (i + 1) m' σ' H') ∧ ∀ x H', (ItZ Sq1 Sq2).yld i H x H' → g x σ H' fun σ2 H2 => tb { D with nx := N, ct := N, bk := D.nx } σ2 H2) := by
  refine ⟨fun i m σ H => m = xs.length - i ∧ i ≤ xs.length ∧ Pv i σ H, ⟨xs.length, by simp, Nat.zero_le _, h0⟩, ?_⟩
  rintro i m σ H ⟨rfl, hi, p⟩
  obtain ⟨q1, q2⟩ := hl i σ H hi p
  by_cases hlt : i < xs.length
  · have hlt2 : i < ys.length := by omega
    refine .inr ⟨⟨xs, ys, xs[i], ys[i], q1, q2, by simp [hlt], by simp [hlt2]⟩, Pv (i + 1), fun σ' H' p' => ⟨xs.length - (i + 1), by omega, rfl, hlt, p'⟩, fun x H' y => ?_⟩
    obtain ⟨T, u, v, hu, hv, rfl, hn, rfl⟩ := y
    exact hs i u v σ _ T (hu xs q1) (hv ys q2) p hn
  · have e : i = xs.length := by omega
    subst e
    exact .inl ⟨⟨xs, q1, ⟨ys, q2⟩, rfl⟩, hd σ H p⟩
end L2
namespace PySem
end PySem
namespace L2
open PySem PySem.Spec PyProof.Rows
/-! ### tokens: a call that asks something of the state ahead, tells something of the state behind -/
structure FnOkG (P : Program) (w : World) (K : PySem.W.Frag) (mg : Str → Option Value) (base : Heap) (k : Nat) (f : Addr) (fd : FuncData) (ps : List Str) (sp : Sp) (pre : List Value → Shared → Prop) (post : Shared → Prop) : Prop where
  len : ∀ vs H Q E, sp vs H Q E → vs.length = ps.length
  run : ∀ (A : Around) (outer : List Env) (s : Shared) (H : Hp) (args : Args) (us : List Value) (vs : List V) (Q : VK) (E : XK), Room k A → Env0 P w K mg base A outer s H → BindsTo s fd args (ps.zip us) → Vals vs us → pre us s → sp vs H Q E →
    codeAny (model P w) A (.call (.ref f) args) (fun r s' => CR CX0 outer P w H s Q E r s' ∧ post s') s
theorem FnOkG.mono {P : Program} {w : World} {K : PySem.W.Frag} {mg : Str → Option Value} {base : Heap} {j k : Nat} {f : Addr} {fd : FuncData} {ps : List Str} {sp : Sp} {pre : List Value → Shared → Prop} {post : Shared → Prop}
    (F : FnOkG P w K mg base j f fd ps sp pre post) (h : j ≤ k) : FnOkG P w K mg base k f fd ps sp pre post := ⟨F.len, fun A outer s H args us vs Q E hr => F.run A outer s H args us vs Q E (hr.mono h)⟩
section
variable {P : Program} {w : World} {K : PySem.W.Frag} {mg : Str → Option Value} {base : Heap}
end
end L2
/-! ### a text cut at each sign c -/
namespace L2
open PySem PySem.Spec PyProof.Rows
def spl (c : Nat) : List Nat → List (List Nat)
  | [] => [[]]
  | d :: r => if d = c then [] :: spl c r else match spl c r with | [] => [[d]] | p :: ps => (d :: p) :: ps
theorem spl_ne (c : Nat) : ∀ l, ∃ p ps, spl c l = p :: ps
  | [] => ⟨_, _, rfl⟩
  | d :: r => by
    unfold spl
    split
    · exact ⟨_, _, rfl⟩
    · obtain ⟨p, ps, e⟩ := spl_ne c r
      rw [e]; exact ⟨_, _, rfl⟩
/-- where c stands, from a on -/
def ats (c : Nat) : Nat → List Nat → List Nat
  | _, [] => []
  | a, d :: r => if d = c then a :: ats c (a + 1) r else ats c (a + 1) r
theorem occ_ats (l : List Nat) (c lim : Nat) : ∀ (r : List Nat) (a : Nat) (st : Array Nat × Nat), l.drop a = r → st.2 ≤ a → st.1.size + r.length < lim →
    (forIn (List.range' a (r.length + 1)) st (StrLaws.occBody (S l) (S [c]) l.length lim)).run.fst.toList = st.1.toList ++ ats c a r
  | [], a, st, hd, hf, hl => by
    have hal : l.length ≤ a := List.drop_eq_nil_iff.mp hd
    show (forIn [a] st (StrLaws.occBody (S l) (S [c]) l.length lim)).run.fst.toList = st.1.toList ++ []
    rw [List.forIn_cons, List.append_nil]
    unfold StrLaws.occBody
    rw [if_neg (by rw [S_len]; simp only [List.length_cons, List.length_nil]; omega)]
    rfl
  | d :: r, a, st, hd, hf, hl => by
    have hal : a < l.length := by
      have := congrArg List.length hd
      simp only [List.length_drop, List.length_cons] at this
      omega
    have hget : l[a]? = some d := by
      have := congrArg (fun z => z[0]?) hd
      simpa using this
    have hd' : l.drop (a + 1) = r := by
      have := congrArg List.tail hd
      simpa using this
    show (forIn (a :: List.range' (a + 1) (r.length + 1)) st (StrLaws.occBody (S l) (S [c]) l.length lim)).run.fst.toList = _
    rw [List.forIn_cons]
    have hsub : Builtin.Str.subAt (S l) (S [c]) a = (l[a]? == some c) := subAt_one l c a
    simp only [List.length_cons] at hl
    by_cases h : d = c
    · subst h
      unfold StrLaws.occBody
      rw [if_pos (by rw [hsub, hget, S_len]; simp only [List.length_cons, List.length_nil]; exact ⟨⟨⟨by omega, hf⟩, by omega⟩, by simp⟩)]
      have ih := occ_ats l d lim r (a + 1) (st.1.push a, a + (S [d]).length) hd' (by rw [S_len]; simp) (by simp only [Array.size_push]; omega)
      unfold ats
      rw [if_pos rfl]
      refine Eq.trans ih ?_
      simp
    · unfold StrLaws.occBody
      rw [if_neg (by rw [hsub, hget]; simp [h])]
      have ih := occ_ats l c lim r (a + 1) st hd' (by omega) (by omega)
      unfold ats
      rw [if_neg h]
      exact ih
theorem occ_all (l : List Nat) (c lim : Nat) (h : l.length < lim) : Builtin.Str.occurrences (S l) (S [c]) 0 (S l).length lim = ats c 0 l := by
  rw [StrLaws.occ_eq, S_len]
  exact (occ_ats l c lim l 0 (#[], 0) rfl (Nat.le_refl _) (by simpa using h)).trans (by simp)
theorem strSub_S (l : List Nat) (i j : Nat) : Builtin.Str.strSub (S l) i j = S ((l.drop i).take (j - i)) := by
  apply Str.ext'
  apply Array.toList_inj.mp
  rw [StrLaws.strSub_toList]
  simp [S]
theorem parts_spl (l : List Nat) (c : Nat) : ∀ (r : List Nat) (a b : Nat), b ≤ a → l.drop a = r → (∀ d ∈ (l.drop b).take (a - b), d ≠ c) →
    StrLaws.partsFrom (S l) 1 b (ats c a r) = ((match spl c r with | [] => [] | p :: ps => ((l.drop b).take (a - b) ++ p) :: ps)).map S
  | [], a, b, hba, hd, hn => by
    have hal : l.length ≤ a := List.drop_eq_nil_iff.mp hd
    show [Builtin.Str.strSub (S l) b (S l).length] = [S ((l.drop b).take (a - b) ++ [])]
    rw [strSub_S, S_len, List.append_nil]
    congr 2
    rw [List.take_of_length_le (by rw [List.length_drop]; omega), List.take_of_length_le (by rw [List.length_drop]; omega)]
  | d :: r, a, b, hba, hd, hn => by
    have hal : a < l.length := by
      have := congrArg List.length hd
      simp only [List.length_drop, List.length_cons] at this
      omega
    have hd' : l.drop (a + 1) = r := by
      have := congrArg List.tail hd
      simpa using this
    have hget : l[a]? = some d := by
      have := congrArg (fun z => z[0]?) hd
      simpa using this
    by_cases h : d = c
    · subst h
      unfold ats spl
      rw [if_pos rfl, if_pos rfl]
      show Builtin.Str.strSub (S l) b a :: StrLaws.partsFrom (S l) 1 (a + 1) (ats d (a + 1) r) = S _ :: (spl d r).map S
      rw [strSub_S, List.append_nil, parts_spl l d r (a + 1) (a + 1) (Nat.le_refl _) hd' (by simp)]
      obtain ⟨p, ps, e⟩ := spl_ne d r
      rw [e]
      simp
    · have e1 : (l.drop b).take (a + 1 - b) = (l.drop b).take (a - b) ++ [d] := by
        have e0 : a + 1 - b = (a - b) + 1 := by omega
        rw [e0, List.take_add_one, List.getElem?_drop]
        have e2 : b + (a - b) = a := by omega
        rw [e2, hget]
        rfl
      have ih := parts_spl l c r (a + 1) b (by omega) hd' (by
        rw [e1]
        intro z hz
        rcases List.mem_append.mp hz with q | q
        · exact hn z q
        · rw [List.mem_singleton.mp q]; exact h)
      unfold ats spl
      rw [if_neg h, if_neg h, ih]
      obtain ⟨p, ps, e⟩ := spl_ne c r
      rw [e, e1]
      simp
theorem split_S (l : List Nat) (c lim : Nat) (h : l.length < lim) : Builtin.Str.partsBetween (S l) (Builtin.Str.occurrences (S l) (S [c]) 0 (S l).length lim) 1 = (spl c l).map S := by
  rw [StrLaws.partsBetween_eq, occ_all l c lim h, parts_spl l c l 0 0 (Nat.le_refl _) rfl (by simp)]
  obtain ⟨p, ps, e⟩ := spl_ne c l
  rw [e]
  simp
/-- sign c replaced by nothing -/
theorem ats_none (c : Nat) : ∀ (l : List Nat) (a : Nat), ats c a l = [] → l.filter (fun d => decide (d ≠ c)) = l
  | [], _, _ => rfl
  | d :: r, a, h => by
    unfold ats at h
    by_cases e : d = c
    · rw [if_pos e] at h; cases h
    · rw [if_neg e] at h
      rw [List.filter_cons_of_pos (by simpa using e), ats_none c r (a + 1) h]
end L2
/-! ### sep.join(texts), text.split(sign), f'{i}.{j}', str(i) -/
namespace L2
open PySem PySem.Spec PyProof.Rows
def joinc (c : Nat) : List (List Nat) → List Nat
  | [] => []
  | [p] => p
  | p :: q :: r => p ++ c :: joinc c (q :: r)
theorem glued_S (c : Nat) : ∀ (ps : List (List Nat)), Builtin.Str.glued (S [c]) (ps.map S) = S (joinc c ps)
  | [] => rfl
  | [p] => rfl
  | p :: q :: r => by
    have ih := glued_S c (q :: r)
    rw [StrLaws.glued_eq_join] at ih ⊢
    show S p ++ S [c] ++ Str.join (S [c]) ((q :: r).map S) = _
    rw [ih, S_app, S_app, List.append_assoc]
    rfl
theorem joinc_len (c : Nat) : ∀ ps : List (List Nat), (joinc c ps).length ≤ (ps.map List.length).sum + ps.length
  | [] => Nat.le_refl _
  | [p] => by simp [joinc]
  | p :: q :: r => by
    have ih := joinc_len c (q :: r)
    unfold joinc
    simp only [List.length_append, List.length_cons, List.map_cons, List.sum_cons] at ih ⊢
    omega
theorem spl_app {c : Nat} : ∀ {p : List Nat} (r : List Nat), c ∉ p → spl c (p ++ c :: r) = p :: spl c r
  | [], r, _ => by
    show spl c (c :: r) = _
    conv => lhs; unfold spl
    rw [if_pos rfl]
  | d :: p, r, h => by
    have hd : d ≠ c := fun z => h (by rw [z]; exact List.mem_cons_self)
    have ih := spl_app r (fun z => h (List.mem_cons_of_mem _ z) : c ∉ p)
    show spl c (d :: (p ++ c :: r)) = _
    conv => lhs; unfold spl
    rw [if_neg hd, ih]
theorem spl_one {c : Nat} : ∀ {p : List Nat}, c ∉ p → spl c p = [p]
  | [], _ => rfl
  | d :: p, h => by
    have hd : d ≠ c := fun z => h (by rw [z]; exact List.mem_cons_self)
    have ih := spl_one (fun z => h (List.mem_cons_of_mem _ z) : c ∉ p)
    unfold spl
    rw [if_neg hd, ih]
theorem spl_join {c : Nat} : ∀ {ps : List (List Nat)}, ps ≠ [] → (∀ p ∈ ps, c ∉ p) → spl c (joinc c ps) = ps
  | [], h, _ => absurd rfl h
  | [p], _, h => spl_one (h p List.mem_cons_self)
  | p :: q :: r, _, h => by
    show spl c (p ++ c :: joinc c (q :: r)) = _
    rw [spl_app _ (h p List.mem_cons_self), spl_join (by simp) (fun x hx => h x (List.mem_cons_of_mem _ hx))]
theorem spl_sum (c : Nat) : ∀ l : List Nat, (spl c l).length ≤ l.length + 1
  | [] => Nat.le_refl _
  | d :: r => by
    have ih := spl_sum c r
    unfold spl
    split
    · simp only [List.length_cons]; omega
    · obtain ⟨p, ps, e⟩ := spl_ne c r
      rw [e] at ih ⊢
      simp only [List.length_cons] at ih ⊢
      omega
theorem txtSplit (l : List Nat) (c : Nat) : Txt.split (S l) (S [c]) = (spl c l).map S := by
  have hp := split_S l c (l.length + 1) (Nat.lt_succ_self _)
  have ho := occ_all l c (l.length + 1) (Nat.lt_succ_self _)
  have hnone : ats c 0 l = [] → (spl c l).map S = [S l] := fun e => by
    have hc : c ∉ l := fun z => by
      have e2 := ats_none c l 0 e
      have : c ∈ l.filter fun d => decide (d ≠ c) := by rw [e2]; exact z
      have := (List.mem_filter.mp this).2
      simp at this
    rw [spl_one hc]; rfl
  unfold Txt.split
  have e0 : (S l).length + 1 = l.length + 1 := by rw [S_len]
  have e1 : (S [c]).length = 1 := by rw [S_len]; rfl
  rw [e0, ho]
  split
  · rename_i h
    by_cases hz : ats c 0 l = []
    · exact (hnone hz).symm
    · exfalso
      rw [Bool.or_eq_true] at h
      have hcl : c ∈ l := by
        by_cases z : c ∈ l
        · exact z
        · exfalso
          apply hz
          have : ∀ (r : List Nat) (a : Nat), c ∉ r → ats c a r = [] := by
            intro r
            induction r with
            | nil => intro a _; rfl
            | cons d r ih =>
              intro a hn
              unfold ats
              rw [if_neg (fun q : d = c => hn (by rw [q]; exact List.mem_cons_self)), ih (a + 1) (fun q => hn (List.mem_cons_of_mem _ q))]
          exact this l 0 z
      rcases h with h | h
      · have h' := of_decide_eq_true h
        rw [S_len, e1] at h'
        have := List.length_pos_of_mem hcl
        omega
      · have h' := of_decide_eq_true h
        unfold Builtin.Str.strKind at h'
        have k1 : ∀ b : Nat, (S l).cps.all (· < b) = true → (S [c]).cps.all (· < b) = true := fun b hb => by
          have ea : ∀ m : List Nat, (S m).cps.all (· < b) = m.all fun x => decide (x < b) := fun m => by simp [S]
          rw [ea, List.all_eq_true] at hb
          rw [ea, List.all_eq_true]
          intro x hx
          rw [List.mem_singleton.mp hx]
          exact hb c hcl
        by_cases a1 : (S l).cps.all (· < 256) = true
        · rw [if_pos a1, if_pos (k1 256 a1)] at h'; omega
        · rw [if_neg a1] at h'
          by_cases a2 : (S l).cps.all (· < 65536) = true
          · rw [if_pos a2] at h'
            split at h'
            · omega
            · rw [if_pos (k1 65536 a2)] at h'; omega
          · rw [if_neg a2] at h'
            repeat' split at h'
            all_goals omega
  · split
    · rename_i h
      exact (hnone (List.isEmpty_iff.mp h)).symm
    · rw [← ho, e1]
      exact hp
section
variable {X : Cx}
def rJoinC (K : PySem.W.Frag) (c : Nat) : V → List V → Hp → VK → Prop := fun x vs H Q => ∃ (p : Addr) (ls : List (List Nat)), x = .str (S [c]) ∧ vs = [.ref p] ∧ SqL K H p (ls.map fun l => V.str (S l)) ∧ (ls.map List.length).sum + ls.length ≤ 16777216 ∧ Q (.str (S (joinc c ls))) H
theorem mt_joinC (K : PySem.W.Frag) (c : Nat) (hK : X.K = K) : MtR X "str.join" (rJoinC K c) := by
  subst hK
  intro pins s σ H x xs v us Q I rx rv h
  obtain ⟨p, ls, rfl, rfl, hq, hz, q⟩ := h
  obtain ⟨t, rfl⟩ := rx
  obtain ⟨u, rfl, ru⟩ := vals1 rv
  cases ru
  obtain ⟨its, r, pl, _⟩ := I.list hq
  have e : (S [c]).length = 1 := by rw [S_len]; rfl
  refine join_list pl.isList (by simpa using strsAre_of r) ?_ fun t' k => ?_
  · rw [e, Nat.mul_one, List.map_map, List.length_map]
    have : ((ls.map ((fun x : Str => x.length) ∘ S)).sum) = (ls.map List.length).sum := congrArg List.sum (List.map_congr_left fun l _ => S_len l)
    rw [this]; exact hz
  · have e2 : Txt.join (S [c]) (ls.map S) = S (joinc c ls) := glued_S c ls
    rw [e2]
    exact ⟨.str (S (joinc c ls)), H, I.tok _, ⟨_, rfl⟩, q⟩
def rSplitC (c : Nat) : V → List V → Hp → VK → Prop := fun x vs H Q => ∃ l, x = .str (S l) ∧ vs = [.str (S [c])] ∧ l.length ≤ 1000000 ∧ ∀ p, H p = none → Q (.ref p) (upd H p (.lst ((spl c l).map fun l => V.str (S l))))
theorem vals_numbered : ∀ (ps : List (List Nat)) (tv : List (Str × Tok)), tv.map (·.1) = ps.map S → Vals (ps.map fun l => V.str (S l)) (strValues tv)
  | [], [], _ => .nil
  | p :: ps, (a, t) :: tv, h => by
    simp only [List.map_cons, List.cons.injEq] at h
    obtain ⟨rfl, h⟩ := h
    exact .cons ⟨t, rfl⟩ (vals_numbered ps tv h)
  | [], _ :: _, h => by simp at h
  | _ :: _, [], h => by simp at h
theorem mt_splitC (c : Nat) : MtR X "str.split" (rSplitC c) := by
  intro pins s σ H x xs v us Q I rx rv h
  obtain ⟨l, rfl, rfl, hz, q⟩ := h
  obtain ⟨t, rfl⟩ := rx
  obtain ⟨u, rfl, tu, rfl⟩ := vals1 rv
  have hn := line63
  have hlen := spl_sum c l
  have fin : ∀ (tv : List (Str × Tok)) (k : Nat), tv.map (·.1) = Txt.split (S l) (S [c]) → EP X pins σ Q (.ref s.heap.objs.size) { s with heap := s.heap.push { cls := .type "list", data := .seq (strValues tv).toArray }, toks := k } := fun tv k e => by
    rw [txtSplit] at e
    have hf : H s.heap.objs.size = none := I.hok.fresh (Nat.le_refl _)
    refine ⟨.ref s.heap.objs.size, _, I.laid (o := .lst ((spl c l).map fun l => V.str (S l))) (t' := k) (fun b u e => Heap.get?_push_of_some _ e) (Nat.le_refl _) ?_, rfl, q _ hf⟩
    refine ⟨by rw [List.length_map]; have : (1000001 : Nat) ≤ sizeLine := by decide
               omega, strValues tv, 0, vals_numbered _ _ e, Heap.get?_push_size _ rfl⟩
  have hxs : (S l).length ≤ sizeLine := by rw [S_len]; have : (1000001 : Nat) ≤ sizeLine := by decide
                                           omega
  have hps : (Builtin.Str.partsBetween (S l) (Builtin.Str.occurrences (S l) (S [c]) 0 (S l).length ((S l).length + 1)) (S [c]).length).length ≤ sizeLine := by
    have e1 : (S [c]).length = 1 := by rw [S_len]; rfl
    rw [e1, split_S l c _ (by rw [S_len]; exact Nat.lt_succ_self _), List.length_map]
    have : (1000001 : Nat) ≤ sizeLine := by decide
    omega
  have hy : ((S [c]).length == 0) = false := by rw [S_len]; rfl
  show wpAny _ _ (call (.builtin "str.split") [.str (S l) t, .str (S [c]) tu]) _ _ s
  cases h1 : (decide ((S l).length < (S [c]).length) || decide (Builtin.Str.strKind (S l) < Builtin.Str.strKind (S [c])))
  · cases hf : (Builtin.Str.occurrences (S l) (S [c]) 0 (S l).length ((S l).length + 1)).isEmpty
    · refine call_meets F.slot_str_split (typeIs_str _ _ _) F.entry_str_split (F.args_str_split_2 _ _) (meets_str_split_sep (S l) (S [c]) t tu h1 hy hf hxs hps) ?_
      show wants _ _ _ { s with toks := _, heap := s.heap.push { cls := .type "list", data := .seq (strsFrom s.toks _).toArray } }
      rw [strsFrom_eq]
      exact fin (numbered s.toks _) _ ((numbered_texts _ _).trans ((if_neg (ne_true_of_eq_false h1)).trans (if_neg (ne_true_of_eq_false hf))).symm)
    · exact call_meets F.slot_str_split (typeIs_str _ _ _) F.entry_str_split (F.args_str_split_2 _ _) (meets_str_split_not_found (S l) (S [c]) t tu h1 hy hf)
        (fin [(S l, t)] s.toks ((if_neg (ne_true_of_eq_false h1)).trans (if_pos hf)).symm)
  · exact call_meets F.slot_str_split (typeIs_str _ _ _) F.entry_str_split (F.args_str_split_2 _ _) (meets_str_split_cannot_occur (S l) (S [c]) t tu h1)
      (fin [(S l, t)] s.toks (if_pos h1).symm)
/-- a number's text -/
def dg (n : Nat) : List Nat := ((toString (n : Int) : String) : Str).cps.toList
theorem dg_S (n : Nat) : ((toString (n : Int) : String) : Str) = S (dg n) := S_of _
theorem log_small {n : Nat} (h : n < 2 ^ 60) : ((n : Int)).natAbs.log2 < 1920 := by
  rw [Int.natAbs_natCast]
  by_cases z : n = 0
  · subst z; decide
  · exact (Nat.log2_lt z).mpr (Nat.lt_of_lt_of_le h (Nat.pow_le_pow_right (by decide) (by decide)))
theorem call_strN : CallR X (.type "str") (fun xs H Q => ∃ n : Nat, xs = [.int n] ∧ n < 2 ^ 60 ∧ Q (.str (S (dg n))) H) := by
  intro pins s σ H xs us Q I r h
  obtain ⟨n, rfl, hz, q⟩ := h
  refine call_str_int pins s σ H _ us Q I r ⟨n, rfl, log_small hz, ?_⟩
  rw [dg_S]
  exact q
/-- f'{a}.{b}' of numbers -/
def tFmt2 (c : Nat) (ta tb : TE) : TE := fun σ H Q => ta σ H fun x H1 => ∃ n : Nat, x = .int n ∧ n < 1000000 ∧ (dg n).length ≤ 400 ∧ tb σ H1 fun y H2 => ∃ m : Nat, y = .int m ∧ m < 1000000 ∧ (dg m).length ≤ 400 ∧ Q (.str (S (dg n ++ c :: dg m))) H2
theorem pe_fmt2 {a b : Expr} {ta tb : TE} {x : Str} {kk : Nat} {p1 p2 p3 pos : Pos} (c : Nat) (hx : x = S [c]) (ha : PE X a ta) (hb : PE X b tb) :
    PE X (.JoinedStr [.FormattedValue a (-1) none p1, .Constant (.str x) kk p2, .FormattedValue b (-1) none p3] pos) (tFmt2 c ta tb) := by
  subst hx
  intro pins s σ H Q I h
  have hz : (1000 : Nat) ≤ sizeLine := by decide
  refine JoinedStr_many (joinParts_cons (FormattedValue_plain (thn (ha pins s σ H _ I h) fun v s1 ⟨x, H1, I1, r1, n, e1, hn, hn2, q1⟩ => ?_)))
  subst e1
  obtain ⟨t, rfl⟩ := r1
  refine formatField_int_small (log_small (by omega)) ?_
  have e0 : Str.empty ++ ((toString (n : Int) : String) : Str) = S (dg n) := by rw [dg_S]; exact S_app [] (dg n)
  show (Str.empty ++ ((toString (n : Int) : String) : Str)).length ≤ sizeLine ∧ wpAny _ _ (joinParts (Str.empty ++ ((toString (n : Int) : String) : Str)) _) _ _ _
  rw [e0]
  have I1' : Inv X pins σ H1 { s1 with toks := s1.toks + 1 + 1 } := I1.tok _
  have I1'' : Inv X pins σ H1 { s1 with toks := s1.toks + 1 + 1 + 1 } := I1.tok _
  refine ⟨by rw [S_len]; omega, ?_⟩
  refine joinParts_cons (Calls.Constant_str (k := kk) (pos := p2) ?_)
  show (S (dg n) ++ S [c]).length ≤ sizeLine ∧ wpAny _ _ (joinParts (S (dg n) ++ S [c]) _) _ _ _
  rw [S_app]
  refine ⟨by rw [S_len, List.length_append, List.length_singleton]; omega, ?_⟩
  refine joinParts_cons (FormattedValue_plain (thn (hb pins _ σ H1 _ I1'' q1) fun v s2 ⟨y, H2, I2, r2, m, e2, hm, hl, q2⟩ => ?_))
  subst e2
  obtain ⟨t2, rfl⟩ := r2
  refine formatField_int_small (log_small (by omega)) ?_
  show (S (dg n ++ [c]) ++ ((toString (m : Int) : String) : Str)).length ≤ sizeLine ∧ wpAny _ _ (joinParts (S (dg n ++ [c]) ++ ((toString (m : Int) : String) : Str)) []) _ _ _
  rw [dg_S, S_app, List.append_assoc, List.singleton_append]
  have hl3 : (dg n ++ c :: dg m).length ≤ 1000 := by rw [List.length_append, List.length_cons]; omega
  refine ⟨by rw [S_len]; omega, joinParts_nil ?_ (by rw [S_len]; omega)⟩
  exact ⟨.str (S (dg n ++ c :: dg m)), H2, (I2.tok _).tok _, ⟨_, rfl⟩, q2⟩
end
end L2
/-! ### zip(text, tuple) -/
namespace L2
open PySem PySem.Spec PyProof.Rows
structure ZT (P : Program) (w : World) (K : PySem.W.Frag) (fp : List Addr) (it : Addr) (Sq : Hp → List V → Prop) (IT : Nat → Heap → Prop) : Prop where
  obj : ∀ i h, IT i h → ∃ o, h.get? it = some o ∧ ∀ v, o.data ≠ .cell v
  keep : ∀ i h h', IT i h → (∀ o, h.get? it = some o → h'.get? it = some o) → IT i h'
  inj : ∀ (X : Cx), X.K = K → ∀ (pins : List (Addr × Obj)) (s : Shared) (σ : St) (H : Hp), Inv X pins σ H s → ∀ xs ys, Sq H xs → Sq H ys → xs = ys
  draws : ∀ (X : Cx), X.prog = P → X.w = w → X.K = K → X.calm = true → ∀ (pins : List (Addr × Obj)) (s : Shared) (σ : St) (H : Hp), Inv X pins σ H s → ∀ xs, Sq H xs →
    ∃ (PP : Nat → Value → Prop) (SS : Nat → Heap → Prop), (∀ i x v, xs[i]? = some x → PP i v → RelV x v) ∧ Draws P w X.A.in1 it fp xs.length PP SS ∧ (∀ i, IT i s.heap → SS i s.heap) ∧ ∀ i h, SS i h → IT i h
theorem ZS.zt {P : Program} {w : World} {K : PySem.W.Frag} {a it : Addr} {Sq : Hp → List V → Prop} {IT : Nat → Heap → Prop} (Z : ZS P w K a it Sq IT) (ne : a ≠ it) : ZT P w K [it, a] it Sq IT where
  obj := Z.obj
  keep := Z.keep
  inj := Z.inj
  draws := fun X hP hw hK hc pins s σ H I xs hq => by
    obtain ⟨its, SS, rv, D, h1, h2⟩ := Z.draws X hP hw hK hc pins s σ H I xs hq ne
    rw [← rv.length] at D
    refine ⟨_, SS, fun i x v hx hv => ?_, D, h1, h2⟩
    obtain ⟨u, hu, ru⟩ := rv.get hx
    have : v = u := Option.some.inj (hv.symm.trans hu)
    rw [this]; exact ru
theorem zt_str {P : Program} {w : World} {K : PySem.W.Frag} (it : Addr) (l : List Nat) (t : Tok) : ZT P w K [it] it (fun _ xs => xs = sgs l) (fun i h => h.IsStrIter it (strIterType (S l)) (S l) t i) where
  obj := fun i h st => by
    obtain ⟨o, ho, hc, hd⟩ := st
    exact ⟨o, ho, fun v z => by rw [hd] at z; cases z⟩
  keep := fun i h h' st k => by
    obtain ⟨o, ho, r⟩ := st
    exact ⟨o, k o ho, r⟩
  inj := fun X hK pins s σ H I xs ys h1 h2 => h1.trans h2.symm
  draws := fun X hP hw hK hc pins s σ H I xs hq => by
    subst hP hw hK hq
    have rel : ∀ i x v, (sgs l)[i]? = some x → (∃ (c : Nat) (u : Tok), (S l).cps[i]? = some c ∧ v = Value.str ⟨#[c]⟩ u) → RelV x v := fun i x v hx hh => by
      obtain ⟨c, u, e1, e2⟩ := hh
      obtain ⟨d, hd, rfl⟩ := sgs_get hx
      have e3 : l[i]? = some c := by rw [← e1]; show l[i]? = l.toArray[i]?; exact (List.getElem?_toArray ..).symm
      rw [hd] at e3; cases e3
      exact ⟨u, e2⟩
    have e : (S l).cps.size = (sgs l).length := by rw [S_size, sgs_len]
    by_cases ha : (S l).cps.all (· < 128) = true
    · have et : strIterType (S l) = "str_ascii_iterator" := by unfold strIterType; rw [if_pos ha]
      have D := Draws.strAscii (prog := X.prog) (w := X.w) (A := X.A.in1) (I.ok.hd hc) it (S l) t
      rw [e] at D
      exact ⟨_, _, rel, D, fun i h => by rw [et] at h; exact h, fun i h z => by rw [et]; exact z⟩
    · have et : strIterType (S l) = "str_iterator" := by unfold strIterType; rw [if_neg ha]
      have D := Draws.strWide (prog := X.prog) (w := X.w) (A := X.A.in1) (I.ok.hd hc) it (S l) t
      rw [e] at D
      exact ⟨_, _, rel, D, fun i h => by rw [et] at h; exact h, fun i h z => by rw [et]; exact z⟩
theorem turn_zipT {P : Program} {w : World} {K : PySem.W.Frag} {elts : List Expr} {k : Nat} {pos : Pos} {z TI TO i1 i2 : Addr} {f1 f2 : List Addr} {Sq1 Sq2 : Hp → List V → Prop} {I1 I2 : Nat → Heap → Prop}
    (W1 : ZT P w K f1 i1 Sq1 I1) (W2 : ZT P w K f2 i2 Sq2 I2) (Z : ZA z TI TO i1 i2 f1 f2) :
    Turn P w K (.Tuple elts k pos) (ItZ Sq1 Sq2) [z, TI, TO, i1, i2] z (fun i h => IsZip h z TI TO .none ∧ IsPair h TI (.ref i1) (.ref i2) ∧ (∃ a b, IsPair h TO a b) ∧ I1 i h ∧ I2 i h) where
  mem := by simp
  obj := fun i h st b hb => by
    obtain ⟨q1, q2, ⟨a, b', q3⟩, q4, q5⟩ := st
    simp only [List.mem_cons, List.not_mem_nil, or_false] at hb
    rcases hb with g | g | g | g | g <;> rw [g]
    · exact ⟨_, q1, fun v z => by cases z⟩
    · exact ⟨_, q2, fun v z => by cases z⟩
    · exact ⟨_, q3, fun v z => by cases z⟩
    · exact W1.obj i h q4
    · exact W2.obj i h q5
  keep := fun i h h' st kp => by
    obtain ⟨q1, q2, ⟨a, b', q3⟩, q4, q5⟩ := st
    exact ⟨kp z (by simp) _ q1, kp TI (by simp) _ q2, ⟨a, b', kp TO (by simp) _ q3⟩, W1.keep _ _ _ q4 fun o e => kp i1 (by simp) o e, W2.keep _ _ _ q5 fun o e => kp i2 (by simp) o e⟩
  item := by
    intro X hP hw hK hc i pins s σ H E I hf st hg
    obtain ⟨q1, q2, ⟨a, b', q3⟩, q4, q5⟩ := st
    obtain ⟨xs, ys, x, y, hx, hy, gx, gy⟩ := hg
    obtain ⟨PX, SX, rx, DX, ux, vx⟩ := W1.draws X hP hw hK hc pins s σ H I xs hx
    obtain ⟨PY, SY, ry, DY, uy, vy⟩ := W2.draws X hP hw hK hc pins s σ H I ys hy
    have ij1 := W1.inj X hK pins s σ H I
    have ij2 := W2.inj X hK pins s σ H I
    subst hP hw hK
    refine nextZ_item DX DY Z q1 q2 q3 (ux i q4) (uy i q5) (List.getElem?_eq_some_iff.mp gx).1 (List.getElem?_eq_some_iff.mp gy).1 fun x2 y2 h' tk p1 p2 e1 e2 e3 e4 e5 e6 e7 => ⟨_, rfl, ?_⟩
    have ru := rx i x x2 gx p1
    have rw0 := ry i y y2 gy p2
    have lt : ∀ {c o}, s.heap.get? c = some o → s.heap.objs.size ≠ c := fun e => Nat.ne_of_gt (Heap.lt_size e)
    obtain ⟨o1, g1⟩ := DX.live _ _ (ux i q4)
    obtain ⟨o2, g2⟩ := DY.live _ _ (uy i q5)
    have hTw : s.heap.objs.size ∉ [z, TI, TO, i1, i2] := by
      simp only [List.mem_cons, List.not_mem_nil, or_false, not_or]
      exact ⟨lt q1, lt q2, lt q3, lt g1, lt g2⟩
    refine wpAny_letOwnedTupleGo_zip e1 fun h2 z2 sb => ?_
    have kk : ∀ b o, b ∉ [z, TI, TO, i1, i2] → s.heap.get? b = some o → h2.get? b = some o := fun b o hb e => by
      simp only [List.mem_cons, List.not_mem_nil, or_false, not_or] at hb
      exact sb.extBut _ _ hb.1 (e7 b o hb.1 hb.2.2.1 hb.2.2.2.1 hb.2.2.2.2 e)
    have hTup2 : h2.IsTuple s.heap.objs.size #[x2, y2] := ⟨_, sb.extBut _ _ (lt q1) e5, rfl, _, rfl⟩
    refine ⟨.ref s.heap.objs.size, upd H s.heap.objs.size (.tup [x, y]), ?_, rfl, ⟨s.heap.objs.size, x, y, fun zs hzs => by rw [ij1 zs xs hzs hx]; exact gx, fun zs hzs => by rw [ij2 zs ys hzs hy]; exact gy, rfl, I.hok.fresh (Nat.le_refl _), rfl⟩,
      ⟨z2, sb.extBut _ _ Z.tz (e7 _ _ Z.tz Z.tt Z.t1 Z.t2 q2), ⟨_, _, sb.extBut _ _ Z.oz e2⟩, vx _ _ (DX.frame _ _ _ e3 fun c hc o e => sb.extBut _ _ (nm hc Z.z1) e), vy _ _ (DY.frame _ _ _ e4 fun c hc o e => sb.extBut _ _ (nm hc Z.z2) e)⟩, fun b hb => ?_⟩
    · refine I.turnLaid (t' := tk) (h' := h2) kk hf (Nat.le_refl _) ?_
      exact ⟨by show 2 ≤ sizeLine; decide, [x2, y2], .cons ru (.cons rw0 .nil), hTup2⟩
    · rw [upd_ne (fun q : b = s.heap.objs.size => hTw (q ▸ hb))]; exact (hf b hb).1
  done := by
    intro X hP hw hK hc i pins s σ H E I hf st hg
    obtain ⟨q1, q2, ⟨a, b', q3⟩, q4, q5⟩ := st
    obtain ⟨xs, hx, ⟨ys, hy⟩, el⟩ := hg
    obtain ⟨PX, SX, rx, DX, ux, vx⟩ := W1.draws X hP hw hK hc pins s σ H I xs hx
    subst hP hw hK
    subst el
    refine nextZ_end DX Z q1 q2 q3 (ux _ q4) fun h' hk => ⟨rfl, I.turnedL (t' := s.toks) (ch := [z, TI, TO, i1, i2]) (fun b o hb e => ?_) hf⟩
    simp only [List.mem_cons, List.not_mem_nil, or_false, not_or] at hb
    exact hk b o hb.1 hb.2.2.1 hb.2.2.2.1 hb.2.2.2.2 e
  self := fun _ _ s _ _ st h => wpAny_pyIter_zip st.1 h
abbrev zsA (h : Heap) (x : Str) (t : Tok) : Heap := h.push { cls := .type (strIterType x), data := .fields #[.str x t, .int 0 0] }
abbrev zsB (h : Heap) (x : Str) (t : Tok) (m : Addr) : Heap := zmA (zsA h x t) "tuple_iterator" m
abbrev zsC (h : Heap) (x : Str) (t : Tok) (m : Addr) : Heap := (zsB h x t m).push { cls := .type "tuple", data := .seq #[.ref h.objs.size, .ref (zsA h x t).objs.size] }
abbrev zsD (h : Heap) (x : Str) (t : Tok) (m : Addr) : Heap := (zsC h x t m).push { cls := .type "tuple", data := .seq #[.none, .none] }
abbrev zsE (h : Heap) (x : Str) (t : Tok) (m : Addr) : Heap := (zsD h x t m).push { cls := .type "zip", data := .fields #[.none, .bool false, .bool false, .ref (zsB h x t m).objs.size, .ref (zsC h x t m).objs.size] }
set_option maxHeartbeats 4000000 in
theorem meets_zipST (x : Str) (t : Tok) (m : Addr) (ys : Array Value) : Meets (Builtin.«zip.__new__» ⟨[.type "zip", .str x t, .ref m], []⟩) (fun _ R s => s.heap.IsTuple m ys ∧ R (.ok (.ret (.ref (zsD s.heap x t m).objs.size))) { s with heap := zsE s.heap x t m }) :=
  .of_wp fun prog w A R s h => by
    obtain ⟨hp, g, d, tk, os⟩ := s; obtain ⟨q2, h⟩ := h; have hsub := sub_zip
    have k2 : Heap.IsTuple (Shared.heap ⟨hp.push { cls := .type (strIterType x), data := .fields #[.str x t, .int 0 0] }, g, d, tk, os⟩) m ys := by
      obtain ⟨o, e, r⟩ := q2
      exact ⟨o, Heap.get?_push_of_some _ e, r⟩
    have k1 : ∀ {A' : Around} {E' : Value → Shared → Prop} {Q' : Value → Shared → Prop}, Q' (.ref hp.objs.size) ⟨hp.push { cls := .type (strIterType x), data := .fields #[.str x t, .int 0 0] }, g, d, tk, os⟩ → wpAny (model prog w) A' (pyIter (.str x t)) Q' E' ⟨hp, g, d, tk, os⟩ := fun h => wpAny_pyIter_strU (s := ⟨hp, g, d, tk, os⟩) h
    wp_walk using k1, wpAny_pyIter_tuple k2
    exact ⟨_, rfl, h⟩
theorem zmk_ST (x : Str) (t : Tok) (m : Addr) (ys : Array Value) {prog : Program} {w : World} {A : Around} {E : Value → Shared → Prop} {s : Shared} {Q : Value → Shared → Prop} (p2 : s.heap.IsTuple m ys)
    (h : ∀ h', IsZip h' (s.heap.objs.size + 4) (s.heap.objs.size + 2) (s.heap.objs.size + 3) .none → IsPair h' (s.heap.objs.size + 2) (.ref s.heap.objs.size) (.ref (s.heap.objs.size + 1)) →
      IsPair h' (s.heap.objs.size + 3) .none .none → h'.get? s.heap.objs.size = some { cls := .type (strIterType x), data := .fields #[.str x t, .int 0 0] } → h'.get? (s.heap.objs.size + 1) = some { cls := .type "tuple_iterator", data := .fields #[.ref m, .int 0 0] } →
      (∀ b o, s.heap.get? b = some o → h'.get? b = some o) → Q (.ref (s.heap.objs.size + 4)) { s with heap := h' }) :
    wpAny (model prog w) A (call (.type "zip") [.str x t, .ref m]) Q E s := by
  refine callType_new F.called_zip (by decide) (F.typeCall_zip_2 _ _) (F.newCall_zip_2 _ _) (fun ob => F.args_object_init_3 ob _ _) F.entry_zip_new (meets_zipST x t m ys) ⟨p2, ?_⟩
  have e1 : (zsA s.heap x t).objs.size = s.heap.objs.size + 1 := Heap.size_push ..
  have e2 : (zsB s.heap x t m).objs.size = s.heap.objs.size + 2 := by rw [Heap.size_push, e1]
  have e3 : (zsC s.heap x t m).objs.size = s.heap.objs.size + 3 := by rw [Heap.size_push, e2]
  have e4 : (zsD s.heap x t m).objs.size = s.heap.objs.size + 4 := by rw [Heap.size_push, e3]
  have g5 : (zsE s.heap x t m).get? (zsD s.heap x t m).objs.size = some _ := Heap.get?_push_size _ rfl
  have g4 : (zsE s.heap x t m).get? (zsC s.heap x t m).objs.size = some _ := Heap.get?_push_of_some _ (Heap.get?_push_size _ rfl)
  have g3 : (zsE s.heap x t m).get? (zsB s.heap x t m).objs.size = some _ := Heap.get?_push_of_some _ (Heap.get?_push_of_some _ (Heap.get?_push_size _ rfl))
  have g2 : (zsE s.heap x t m).get? (zsA s.heap x t).objs.size = some _ := Heap.get?_push_of_some _ (Heap.get?_push_of_some _ (Heap.get?_push_of_some _ (Heap.get?_push_size _ rfl)))
  have g1 : (zsE s.heap x t m).get? s.heap.objs.size = some _ := Heap.get?_push_of_some _ (Heap.get?_push_of_some _ (Heap.get?_push_of_some _ (Heap.get?_push_of_some _ (Heap.get?_push_size _ rfl))))
  show _ ∧ _
  rw [e2, e3, e4] at g5
  rw [e1, e2] at g3
  rw [e3] at g4
  rw [e1] at g2
  rw [e4]
  exact ⟨⟨_, g5, rfl⟩, h _ g5 g3 g4 g1 g2 fun b o x => Heap.get?_push_of_some _ (Heap.get?_push_of_some _ (Heap.get?_push_of_some _ (Heap.get?_push_of_some _ (Heap.get?_push_of_some _ x))))⟩
theorem za_newS {n m : Nat} (h2 : m < n) : ZA (n + 4 : Nat) (n + 2 : Nat) (n + 3 : Nat) n (n + 1 : Nat) [n] [(n + 1 : Nat), m] := by
  have n1 : ∀ {a b : Nat}, a ≠ b → (a : Addr) ∉ ([b] : List Addr) := fun h q => h (List.mem_singleton.mp q)
  exact ⟨List.mem_cons_self, List.mem_cons_self, n1 (a := n + 4) (by omega), nin (a := n + 4) (b := n + 1) (c := m) (by omega) (by omega), n1 (a := n + 3) (by omega), nin (a := n + 3) (b := n + 1) (c := m) (by omega) (by omega),
    nin (a := n) (b := n + 1) (c := m) (by omega) (by omega), n1 (a := n + 1) (by omega), nne (a := n + 2) (b := n + 4) (by omega), nne (a := n + 2) (b := n + 3) (by omega), nne (a := n + 2) (b := n) (by omega), nne (a := n + 2) (b := n + 1) (by omega), nne (a := n + 3) (b := n + 4) (by omega)⟩
section
variable {X : Cx} {elts : List Expr} {k : Nat} {pos' : Pos} {a b : Expr} {ta : TA} {p pos : Pos}
abbrev SqSa (l : List Nat) : Hp → List V → Prop := fun _ xs => xs = sgs l
def iZipST (K : PySem.W.Frag) (ta : TA) : TI := fun σ H R => ta σ H fun vs H1 => ∃ l b, vs = [.str (S l), .ref b] ∧ (∃ ys, SqT K H1 b ys) ∧ R (ItZ (SqSa l) (SqTa K b)) H1
theorem pi_zipST (K : PySem.W.Frag) (hK : X.K = K) (hg : Gl X "zip") (hm : X.mg "zip" = none) (ha : PA X [a, b] ta) (hs : starEach [a, b] X.env = [(false, eval a X.env), (false, eval b X.env)] := by rfl) (hs2 : starEach [b] X.env = [(false, eval b X.env)] := by rfl) :
    PI X (.Tuple elts k pos') (.Call (.Name "zip" p) [a, b] [] pos) (iZipST K ta) := by
  subst hK
  intro pins s σ H R I h
  refine Call_ (ld_blt I hg hm boot_zip (PyProof.Rows.callWith_type1 (thn (ha pos pins s σ H _ I h) fun us s1 ⟨vs, H1, I1, r1, q1⟩ => ?_) (by rw [hs, hs2]) (by rw [hs2]; rfl)))
  obtain ⟨l, v, rfl, ⟨ys, hy⟩, q⟩ := q1
  obtain ⟨u', v', rfl, ru, rv⟩ := vals2 r1
  obtain ⟨t, rfl⟩ := ru
  cases rv
  obtain ⟨yi, _, py, _⟩ := I1.tuple hy
  obtain ⟨oy, ey, _⟩ := id py
  have lv := Heap.lt_size ey
  refine zmk_ST (S l) t v yi.toArray py fun h' z1 z2 z3 z4 z5 kk => wpAny_pyIter_zip z1 ?_
  refine ⟨s1.heap.objs.size + 4, [s1.heap.objs.size + 4, s1.heap.objs.size + 2, s1.heap.objs.size + 3, s1.heap.objs.size, s1.heap.objs.size + 1], _, _, H1, rfl, I1.kept (t' := s1.toks) kk, turn_zipT (zt_str s1.heap.objs.size l t) ((zs_tup v (s1.heap.objs.size + 1)).zt (Nat.ne_of_lt (Nat.lt_succ_of_lt lv))) (za_newS lv),
    ⟨z1, z2, ⟨_, _, z3⟩, ⟨_, z4, rfl, rfl⟩, ⟨_, z5, rfl, rfl⟩⟩, fun e he => ?_, q⟩
  have he2 : s1.heap.objs.size ≤ e := by
    simp only [List.mem_cons, List.not_mem_nil, or_false] at he
    rcases he with g | g | g | g | g <;> rw [g] <;> omega
  exact I1.fpOk he2 (I1.hok.fresh he2)
end
end L2
set_option maxHeartbeats 1000000
/-! ### sorted(dict with texts for keys) -/
namespace L2
open PySem PySem.Spec PyProof.Rows
theorem dictLenLook : typeLookup (.type "dict") "__len__" = pure (some (.builtin "dict.__len__")) := PySem.F.slot_dict_len.lookup
section
variable {prog : Program} {w : World} {A : Around} {E : Value → Shared → Prop} {s : Shared} {KK : Type} [DecidableEq KK] {knd : PySem.KeyKind prog w KK}
theorem collect_dict {Q : List Value → Shared → Prop} (hh : A.handled = none) (d : Addr) (kvs : List (KK × Value)) (ep : Nat) (hd : (d == sysModules) = false) (hm : s.heap.DictAt knd d kvs ep) (hn : kvs.length ≤ sizeLine)
    (hQ : ∀ s' acc, (∀ b o, s.heap.get? b = some o → s'.heap.get? b = some o) → s'.gens = s.gens → s'.drawn = s.drawn → s'.os = s.os → ItemsOf (fun i v => ∃ k x, kvs[i]? = some (k, x) ∧ knd.is k v = true) acc kvs.length → Q acc.toList s') :
    wpAny (model prog w) A (collect (.ref d)) Q E s := by
  have hT : s.TypeIs (.ref d) "dict" := hm.dictOf.typeIs
  obtain ⟨od, hod, hodc⟩ := id hT
  have hdlt := Heap.lt_size hod
  unfold collect
  refine wpAny_bind (wpAny_runValue (codeAny_builtin PySem.F.entry_proto_collect ?_))
  rw [Around.under_plainId PySem.F.plain_proto_collect _]
  show wpAny _ A.in1 (newList [] >>= fun l => again (.builtin "list.__iadd__" ⟨[l, .ref d], []⟩)) _ _ s
  refine wpAny_bind (wpAny_newObj_type ?_)
  refine wpAny_pure ⟨plainId_quiet PySem.F.plain_list_iadd _, codeAny_builtin PySem.F.entry_list_iadd ?_⟩
  rw [Around.under_plainId PySem.F.plain_list_iadd _]
  show wpAny _ A.in1 (Builtin.List.listExtendWith (.ref s.heap.objs.size) (.ref d) (.ref s.heap.objs.size)) _ _ _
  generalize hH : s.heap.push { cls := .type "list", data := .seq ([] : List Value).toArray } = H
  have hHs : H.objs.size = s.heap.objs.size + 1 := by rw [← hH, Heap.size_push]
  have hm1 : H.DictAt knd d kvs ep := hm.at' fun o e => by rw [← hH]; exact Heap.get?_push_of_some _ e
  have hT1 : Shared.TypeIs { s with heap := H } (.ref d) "dict" := hm1.dictOf.typeIs
  have hSd : s.heap.objs.size ≠ d := Nat.ne_of_gt hdlt
  unfold Builtin.List.listExtendWith
  refine wpAny_bind (wpAny_typeOf hT1 ?_)
  have h1 : Builtin.List.listSameRef (.ref s.heap.objs.size) (.ref d) = false := by simp [Builtin.List.listSameRef, hSd]
  rw [if_neg (by rw [h1]; decide)]
  refine wpAny_bind (wpAny_pyIter_dict (s := { s with heap := H }) hd hm1 ?_)
  show wpAny _ A.in1 _ _ _ { s with heap := H.push { cls := .type "dict_keyiterator", data := .fields #[.ref d, .int 0 0, .int kvs.length 0, .int ep 0] } }
  generalize hH2 : H.push { cls := .type "dict_keyiterator", data := .fields #[.ref d, .int 0 0, .int kvs.length 0, .int ep 0] } = H2
  have hm2 : H2.DictAt knd d kvs ep := hm1.at' fun o e => by rw [← hH2]; exact Heap.get?_push_of_some _ e
  have hT2 : Shared.TypeIs { s with heap := H2 } (.ref d) "dict" := hm2.dictOf.typeIs
  refine wpAny_bind (wpAny_holding ?_)
  unfold Builtin.List.listLengthHint
  refine wpAny_bind (wpAny_specialOf hT2 dictLenLook ?_)
  wp_delta
  refine wpAny_bind (wpAny_isInstance (T := "dict") (b := true) hT2 (by rw [isSubtype_type]; kernel_rfl) ?_)
  show wpAny _ A.in1 (typeOf (Value.ref d) >>= _) _ _ _
  refine wpAny_bind (wpAny_typeOf hT2 ?_)
  refine wpAny_pure ?_
  rw [if_pos (by decide +kernel)]
  refine wpAny_bind (wpAny_rule ?_)
  refine wpAny_bind ?_
  unfold Builtin.List.listTouch
  have hS : H2.get? s.heap.objs.size = some { cls := .type "list", data := .seq ([] : List Value).toArray } := by
    rw [← hH2]; exact Heap.get?_push_of_some _ (by rw [← hH]; exact Heap.get?_push_size _ rfl)
  refine wpAny_bind (wpAny_updateSeq hS rfl ?_ (Nat.zero_le _) (Nat.succ_le_succ (Nat.zero_le _)))
  have hS2 := Heap.get?_update_self (Obj.mapSeq (fun l : Array Value => l.push .none)) hS rfl
  refine wpAny_updateSeq hS2 rfl ?_ (by show 1 ≤ sizeLine; decide) (Nat.zero_le _)
  have hS3 := Heap.get?_update_self (Obj.mapSeq (fun l : Array Value => l.pop)) hS2 rfl
  have oth : ∀ b o, b ≠ s.heap.objs.size → H2.get? b = some o → ((H2.update s.heap.objs.size (Obj.mapSeq (fun l : Array Value => l.push .none))).update s.heap.objs.size (Obj.mapSeq (fun l : Array Value => l.pop))).get? b = some o := fun b o hb e =>
    (Heap.get?_update_other _ _ (Ne.symm hb)).trans ((Heap.get?_update_other _ _ (Ne.symm hb)).trans e)
  have hit : H2.get? H.objs.size = some { cls := .type "dict_keyiterator", data := .fields #[.ref d, .int 0 0, .int kvs.length 0, .int ep 0] } := by rw [← hH2]; exact Heap.get?_push_size _ rfl
  have hIS : H.objs.size ≠ s.heap.objs.size := by rw [hHs]; exact Nat.succ_ne_self _
  have hdI : d ≠ H.objs.size := by rw [hHs]; exact Nat.ne_of_lt (Nat.lt_succ_of_lt hdlt)
  have hSf : s.heap.objs.size ∉ [H.objs.size, d] := fun hmm => by
    rcases List.mem_cons.mp hmm with z | z
    · exact hIS z.symm
    · exact hSd (List.mem_singleton.mp z)
  refine wpAny_pure ⟨plainId_quiet PySem.F.plain_extend_loop _, codeAny_extend_loopS (Walks.dictKeys (knd := knd) (A := A.in1) hh H.objs.size d hdI kvs ep).toS hn _ hSf _ kvs.length 0 _ _ _ rfl (Nat.zero_le _)
    ⟨⟨_, oth _ _ hIS hit, rfl, rfl⟩, hm2.at' fun o e => oth d o (Ne.symm hSd) e⟩ hS3 (ItemsOf.nil _) fun s' acc' c' hmv hS' hacc => ?_⟩
  show wpAny _ A (load s.heap.objs.size >>= _) _ _ s'
  refine wpAny_bind (wpAny_load hS' ?_)
  refine wpAny_pure (hQ s' acc' (fun b ob e => hmv.heap b ob (fun hb => ?_) (oth b ob (Nat.ne_of_lt (Heap.lt_size e)) (by rw [← hH2]; exact Heap.get?_push_of_some _ (by rw [← hH]; exact Heap.get?_push_of_some _ e)))) hmv.gens hmv.drawn hmv.os hacc)
  have hlt := Heap.lt_size e
  rcases List.mem_cons.mp hb with h | h
  · exact absurd hlt (h ▸ Nat.lt_irrefl _)
  · rw [List.mem_singleton.mp h, hHs] at hlt; exact absurd hlt (Nat.not_lt.mpr (Nat.le_succ _))
theorem sorted_keys {Q : Value → Shared → Prop} (hh : A.handled = none) (d : Addr) (kvs : List (Key × Value)) (ep : Nat) (ls : List (List Nat)) (hk : kvs.map (·.1) = ls.map fun l => Sum.inr (S l)) (hd : (d == sysModules) = false) (hm : s.heap.DictAt (mixKind prog w) d kvs ep) (h64 : kvs.length < 64)
    (h : ∀ (h1 h' : Heap) (tk : Nat) (a : Addr) (out : Array Value) (ss' : List Str) (e : Nat), (∀ b o, s.heap.get? b = some o → h1.get? b = some o) → (∀ b o, h1.get? b = some o → h'.get? b = some o) → a = h1.objs.size → h'.get? a = some (seqObj "list" out e) → StrsAre out.toList ss' → ss'.Perm (ls.map S) → sortedS ss' = true → Q (.ref a) { s with heap := h', toks := tk }) :
    wpAny (model prog w) A (call (.builtin "sorted") [.ref d]) Q E s := by
  refine Calls.call_function_entry kind_sorted plain_sorted entry_sorted (args_sorted1 _) ?_
  unfold Builtin.«sorted»
  refine wpAny_bind (m := checkCount "sorted" 1 1 _) (wpAny_pure ?_)
  have hline : (64 : Nat) < sizeLine := by decide
  refine wpAny_bind (collect_dict (A := A.in1) (show A.in1.handled = none from hh) d kvs ep hd hm (by omega) (fun s' acc hkk hg hdr ho hacc => ?_))
  obtain ⟨h1, h2⟩ := hacc
  have hlen : kvs.length = ls.length := by have := congrArg List.length hk; simpa using this
  have rv : Vals (ls.map fun l => V.str (S l)) acc.toList := by
    have key : ∀ (ls : List (List Nat)) (vs : List Value), vs.length = ls.length → (∀ (j : Nat) (v : Value), vs[j]? = some v → ∃ l t, ls[j]? = some l ∧ v = Value.str (S l) t) → Vals (ls.map fun l => V.str (S l)) vs := by
      intro ls
      induction ls with
      | nil => intro vs hl _; have : vs = [] := List.eq_nil_of_length_eq_zero hl; subst this; exact .nil
      | cons l ls ih =>
        intro vs hl hv
        cases vs with
        | nil => simp at hl
        | cons v vs =>
          obtain ⟨l', t, e1, e2⟩ := hv 0 v rfl
          have e1' : l = l' := by simpa using e1
          subst e1'
          refine .cons ⟨t, e2⟩ (ih vs (by simpa using hl) fun j v' e => ?_)
          obtain ⟨l', t', g1, g2⟩ := hv (j + 1) v' (by simpa using e)
          exact ⟨l', t', by simpa using g1, g2⟩
    refine key ls acc.toList (by simpa [← hlen] using h1) fun j v e => ?_
    obtain ⟨k, x, e1, e2⟩ := h2 j v (by simpa using e)
    have e3 : (kvs.map (·.1))[j]? = some k := by rw [List.getElem?_map, e1]; rfl
    rw [hk, List.getElem?_map] at e3
    cases e4 : ls[j]? with
    | none => rw [e4] at e3; cases e3
    | some l =>
      rw [e4] at e3
      have e5 : k = Sum.inr (S l) := (Option.some.inj e3).symm
      subst e5
      obtain ⟨t, e6⟩ := Value.isStrOf_shape (x := S l) (v := v) e2
      exact ⟨l, t, rfl, e6⟩
  have hS := strs_of rv
  have hn : acc.toList.length = ls.length := by rw [← rv.length, List.length_map]
  refine wpAny_bind (wpAny_newList ?_)
  have hoL : (s'.heap.push (seqObj "list" acc.toList.toArray 0)).get? s'.heap.objs.size = some (seqObj "list" acc.toList.toArray 0) := Heap.get?_push_size _ rfl
  show wpAny _ _ _ _ _ { s' with heap := s'.heap.push (seqObj "list" acc.toList.toArray 0) }
  refine wpAny_bind (wpAny_holding (wpAny_call_entry slot_list_sort ⟨_, hoL, rfl⟩ entry_list_sort (list_sort_treeK (κ := strKind) strKind_oneLt hoL hS.keysOf (fun v₁ v₂ rest e => keyKind_strs (by rw [← e]; exact hS)) (by omega) fun st' hp hs => ⟨_, rfl, ?_⟩) (args_list_sort _)))
  obtain ⟨ss', k1, k2, k3⟩ := sorted_out_str hS hp hs
  obtain ⟨e, he⟩ := sortedHeap_at (out := (arrOf st').map (·.2)) hoL
  refine wpAny_pure ⟨_, rfl, ?_⟩
  have es : ∀ hh : Heap, ({ s' with heap := hh } : Shared) = { s with heap := hh, toks := s'.toks } := fun hh => by
    cases s; cases s'
    simp only at hg hdr ho
    subst hg hdr ho
    rfl
  show Q (.ref s'.heap.objs.size) { s' with heap := sortedHeap (s'.heap.push (seqObj "list" acc.toList.toArray 0)) s'.heap.objs.size acc.toList ((arrOf st').map (·.2)) }
  rw [es]
  refine h s'.heap _ _ _ _ ss' e hkk (fun b o hb => ?_) rfl he k1 k2 k3
  have hlt := Heap.lt_size hb
  rw [sortedHeap_old (Nat.ne_of_lt hlt) (by rw [size_push']; exact Nat.lt_succ_of_lt hlt)]
  exact Heap.get?_push_of_some _ hb
end
section
variable {X : Cx}
def rSortD : List V → Hp → VK → Prop := fun xs H Q => ∃ (d : Addr) (kvs : List (Key × V)) (ls : List (List Nat)), xs = [.ref d] ∧ H d = some (.dK kvs) ∧ kvs.map (·.1) = (ls.map fun l => Sum.inr (S l)) ∧ ls.length < 64 ∧ ∀ (q : Addr) (ms : List (List Nat)), H q = none → ms.Perm ls → (ms.Pairwise fun a b => ¬ b < a) → Q (.ref q) (upd H q (.lst (ms.map fun l => V.str (S l))))
theorem kv_keys {kvs : List (Key × V)} {vs : List (Key × Value)} (h : KV kvs vs) : vs.map (·.1) = kvs.map (·.1) := by
  induction h with
  | nil => rfl
  | cons r _ ih => rw [List.map_cons, List.map_cons, ih, r.1]
theorem call_sortedD (hc : X.calm = true) : CallR X (.builtin "sorted") rSortD := by
  intro pins s σ H xs us Q I r h
  obtain ⟨d, kvs, ls, rfl, hd, hk, hn, q⟩ := h
  obtain ⟨u, rfl, ru⟩ := vals1 r
  cases ru
  obtain ⟨hz, hsys, vs, kv, o, es, ep, e1, e2, e3, e4, e5, e6⟩ := I.hok d _ hd
  have hlen : vs.length = ls.length := by
    have a1 := congrArg List.length (kv_keys kv)
    have a2 := congrArg List.length hk
    simp only [List.length_map] at a1 a2
    omega
  refine sorted_keys (s := s) (I.ok.hd hc) d vs ep ls ((kv_keys kv).trans hk) hsys ⟨o, es, e1, e2, e3, e4, e5, e6⟩ (by omega) fun h1 h' tk a out ss' e k1 k2 ea he g1 g2 g3 => ?_
  have hperm : (ss'.map fun x => x.cps.toList).Perm ls := by
    have := g2.map fun x : Str => x.cps.toList
    rw [List.map_map] at this
    have e2 : ls.map ((fun x : Str => x.cps.toList) ∘ S) = ls := by
      calc ls.map _ = ls.map id := List.map_congr_left fun l _ => S_list l
        _ = _ := List.map_id _
    rwa [e2] at this
  have hv := of_strs g1
  have pw := sorted_pw g3
  have I1 : Inv X pins σ H { s with heap := h1, toks := tk } := I.kept k1
  have hsz : (64 : Nat) < sizeLine := by decide
  have I2 : Inv X pins σ (upd H a (.lst ((ss'.map fun x => x.cps.toList).map fun l => V.str (S l)))) { s with heap := h', toks := tk } :=
    I1.laid (t' := tk) (a := a) (o := .lst ((ss'.map fun x => x.cps.toList).map fun l => V.str (S l))) k2 (by rw [ea]; exact Nat.le_refl _) ⟨by rw [List.length_map, hperm.length_eq]; omega, out.toList, e, hv, by simpa [seqObj] using he⟩
  exact ⟨.ref a, _, I2, rfl, q _ _ (I1.hok.fresh (by rw [ea]; exact Nat.le_refl _)) hperm pw⟩
end
end L2
set_option maxHeartbeats 4000000
namespace My
open PySem PySem.Spec PyProof.Rows L2
/-! letters, contraries -/
def smalls : List Nat := [97, 98, 99, 100, 101, 102, 103, 104, 105, 106, 107, 108, 109, 110, 111, 112, 113, 114, 115, 116, 117, 118, 119, 120, 121, 122]
def caps : List Nat := [65, 66, 67, 68, 69, 70, 71, 72, 73, 74, 75, 76, 77, 78, 79, 80, 81, 82, 83, 84, 85, 86, 87, 88, 89, 90]
def Lt (c : Nat) : Prop := c ∈ smalls ∨ c ∈ caps
instance (c : Nat) : Decidable (Lt c) := by unfold Lt; infer_instance
def ctr (c : Nat) : Nat := if isLow c = true then PyProof.Rows.up1 c else PyProof.Rows.lo1 c
theorem lt_all : ∀ c ∈ smalls ++ caps, c < 128 ∧ ctr c ∈ smalls ++ caps ∧ ctr (ctr c) = c ∧ ctr c ≠ c := by decide +kernel
theorem Lt.mem {c : Nat} (h : Lt c) : c ∈ smalls ++ caps := List.mem_append.mpr h
theorem Lt.lt {c : Nat} (h : Lt c) : c < 128 := (lt_all c h.mem).1
theorem Lt.ctr {c : Nat} (h : Lt c) : Lt (ctr c) := List.mem_append.mp (lt_all c h.mem).2.1
theorem ctr_ctr {c : Nat} (h : Lt c) : ctr (ctr c) = c := (lt_all c h.mem).2.2.1
theorem ctr_ne {c : Nat} (h : Lt c) : ctr c ≠ c := (lt_all c h.mem).2.2.2
theorem ctr_inj {a b : Nat} (ha : Lt a) (hb : Lt b) (e : My.ctr a = My.ctr b) : a = b := by rw [← ctr_ctr ha, e, ctr_ctr hb]
theorem other_small : ∀ c ∈ smalls, atI caps ((smalls.idxOf c : Nat) : Int) = some (ctr c) := by decide +kernel
theorem other_cap : ∀ c ∈ caps, atI smalls ((caps.idxOf c : Nat) : Int) = some (ctr c) := by decide +kernel
/-- but for b all stays -/
def SameB (b : Addr) (H H' : Hp) : Prop := ∀ c o, H c = some o → c ≠ b → H' c = some o
theorem SameB.refl (b : Addr) (H : Hp) : SameB b H H := fun _ _ h _ => h
theorem SameB.trans {b : Addr} {H H1 H2 : Hp} (x : SameB b H H1) (y : SameB b H1 H2) : SameB b H H2 := fun c o h n => y c o (x c o h n) n
theorem SameB.of {b : Addr} {H H' : Hp} (x : Same H H') : SameB b H H' := fun c o h _ => x c o h
theorem SameB.upd (b : Addr) (H : Hp) (o : HO) : SameB b H (upd H b o) := fun c o h n => by rw [upd_ne n]; exact h
theorem Same.upd {H : Hp} {p : Addr} {o : HO} (h : H p = none) : Same H (L2.upd H p o) := fun c u e => by rw [upd_ne (ne_of_none e h)]; exact e
/-- the box of draws -/
def BoxAt (H : Hp) (b : Addr) : Prop := ∃ x y : Int, H b = some (.lst [.int x, .int y])
theorem BoxAt.same {H H' : Hp} {b : Addr} (h : BoxAt H b) (s : Same H H') : BoxAt H' b := let ⟨x, y, e⟩ := h; ⟨x, y, s _ _ e⟩
/-- a yard's ends -/
structure Yd (y : List Nat) : Prop where
  nd : y.Nodup
  lt : ∀ c ∈ y, Lt c
  cl : ∀ c ∈ y, ctr c ∈ y
def sp_Lother (_ : PySem.W.Frag) : Sp := fun vs H Q _ => ∃ c, vs = [.str (S [c])] ∧ Lt c ∧ Q (.str (S [ctr c])) H
theorem len_Lother {K : PySem.W.Frag} {vs : List V} {H : Hp} {Q : VK} {E : XK} (h : sp_Lother K vs H Q E) : vs.length = 1 := by obtain ⟨c, rfl, _⟩ := h; rfl
def sp_Lbox (K : PySem.W.Frag) : Sp := fun vs H Q _ => ∃ (a : Addr) (ns : List Int) (k : Nat), vs = [.ref a, .int k] ∧ SqL K H a (ns.map V.int) ∧ k ≤ 1000 ∧ ∀ b H', H b = none → BoxAt H' b → Same H H' → Q (.ref b) H'
theorem len_Lbox {K : PySem.W.Frag} {vs : List V} {H : Hp} {Q : VK} {E : XK} (h : sp_Lbox K vs H Q E) : vs.length = 2 := by obtain ⟨a, ns, k, rfl, _⟩ := h; rfl
def sp_Ltake (_ : PySem.W.Frag) : Sp := fun vs H Q _ => ∃ (b : Addr) (m : Int), vs = [.ref b, .int m] ∧ BoxAt H b ∧ 1 ≤ m ∧ m < 1000000 ∧ ∀ (r : Nat) H', (r : Int) < m → BoxAt H' b → SameB b H H' → Q (.int r) H'
theorem len_Ltake {K : PySem.W.Frag} {vs : List V} {H : Hp} {Q : VK} {E : XK} (h : sp_Ltake K vs H Q E) : vs.length = 2 := by obtain ⟨b, m, rfl, _⟩ := h; rfl
def sp_Lyard (_ : PySem.W.Frag) : Sp := fun vs H Q _ => ∃ (b : Addr) (few top : Nat), vs = [.ref b, .int few, .int top] ∧ BoxAt H b ∧ 1 ≤ few ∧ few ≤ top ∧ top ≤ 8 ∧ ∀ (y : List Nat) H', Yd y → 2 * few ≤ y.length → y.length ≤ 2 * top → BoxAt H' b → SameB b H H' → Q (.str (S y)) H'
theorem len_Lyard {K : PySem.W.Frag} {vs : List V} {H : Hp} {Q : VK} {E : XK} (h : sp_Lyard K vs H Q E) : vs.length = 3 := by obtain ⟨b, m, t, rfl, _⟩ := h; rfl
def sp_Lword (_ : PySem.W.Frag) : Sp := fun vs H Q _ => ∃ (b : Addr) (y : List Nat) (top : Nat), vs = [.ref b, .str (S y), .int top] ∧ BoxAt H b ∧ y ≠ [] ∧ y.length ≤ 1000 ∧ top ≤ 1000 ∧ ∀ (l : List Nat) H', (∀ c ∈ l, c ∈ y) → l.length ≤ top → BoxAt H' b → SameB b H H' → Q (.str (S l)) H'
theorem len_Lword {K : PySem.W.Frag} {vs : List V} {H : Hp} {Q : VK} {E : XK} (h : sp_Lword K vs H Q E) : vs.length = 3 := by obtain ⟨b, m, t, rfl, _⟩ := h; rfl
def sp_law (K : PySem.W.Frag) : Sp := fun vs H Q _ => ∃ (a : Addr) (ns : List Int), vs = [.ref a] ∧ SqL K H a (ns.map V.int) ∧ ns.length ≤ 63 ∧ ∀ H', Q (.bl true) H'
theorem len_law {K : PySem.W.Frag} {vs : List V} {H : Hp} {Q : VK} {E : XK} (h : sp_law K vs H Q E) : vs.length = 1 := by obtain ⟨b, m, rfl, _⟩ := h; rfl
theorem flat1 : ∀ l : List Nat, (l.map fun c => [c]).flatten = l
  | [] => rfl
  | c :: l => by rw [List.map_cons, List.flatten_cons, flat1 l]; rfl
theorem sum1 : ∀ l : List Nat, ((l.map fun c => [c]).map List.length).sum = l.length
  | [] => rfl
  | c :: l => by
    rw [List.map_cons, List.map_cons, List.sum_cons, sum1 l]
    show 1 + l.length = l.length + 1
    omega
theorem sgs_lists (l : List Nat) : sgs l = (l.map fun c => [c]).map fun l => V.str (S l) := by unfold sgs; rw [List.map_map]; rfl
theorem sgs_snoc (l : List Nat) (c : Nat) : sgs l ++ [V.str (S [c])] = sgs (l ++ [c]) := by unfold sgs; rw [List.map_append]; rfl
theorem take_snoc {α : Type} {l : List α} {i : Nat} {x : α} (h : l[i]? = some x) : l.take i ++ [x] = l.take (i + 1) := by rw [List.take_add_one, h]; rfl
theorem ints_at {ns : List Int} {i : Nat} (h : i < ns.length) : ∃ z, (ns.map V.int)[i]? = some (V.int z) := ⟨ns[i], by rw [List.getElem?_map, List.getElem?_eq_getElem h]; rfl⟩
theorem yes_ite {σ : L2.St} {H : Hp} {A B : Hp → Prop} (h : A H) : tYes σ H fun b H3 => if b = true then A H3 else B H3 := by
  show (if true = true then A H else B H)
  rw [if_pos rfl]
  exact h
theorem box_at (b : Bool) (z : Int) : ∃ y, atI [V.int 0, V.int z] (if b = true then 1 else 0) = some (V.int y) := by
  cases b
  · exact ⟨0, rfl⟩
  · exact ⟨z, rfl⟩
theorem erase_perm {α : Type} : ∀ {l : List α} {i : Nat} {x : α}, l[i]? = some x → (x :: l.eraseIdx i).Perm l
  | [], i, x, h => by simp at h
  | a :: l, 0, x, h => by
    have : a = x := by simpa using h
    subst this
    exact List.Perm.refl _
  | a :: l, i + 1, x, h => by
    have ih := erase_perm (l := l) (i := i) (x := x) (by simpa using h)
    rw [List.eraseIdx_cons_succ]
    exact (List.Perm.swap a x _).trans (List.Perm.cons a ih)
theorem sgs_erase (l : List Nat) (i : Nat) : (sgs l).eraseIdx i = sgs (l.eraseIdx i) := by
  unfold sgs
  induction l generalizing i with
  | nil => rfl
  | cons a l ih =>
    cases i with
    | zero => rfl
    | succ i => rw [List.map_cons, List.eraseIdx_cons_succ, ih, List.eraseIdx_cons_succ, List.map_cons]
theorem sgs_at {l : List Nat} {i : Nat} (h : i < l.length) : (sgs l)[i]? = some (V.str (S [l[i]])) := by unfold sgs; rw [List.getElem?_map, List.getElem?_eq_getElem h]; rfl
theorem sgs_app (a b : List Nat) : sgs a ++ sgs b = sgs (a ++ b) := by unfold sgs; rw [List.map_append]
theorem small_ctr : ∀ c ∈ smalls, ctr c ∉ smalls := by decide +kernel
theorem smalls_nd : smalls.Nodup := by decide +kernel
theorem Yd.perm {a b : List Nat} (h : Yd a) (p : a.Perm b) : Yd b :=
  ⟨p.nodup_iff.mp h.nd, fun c hc => h.lt c (p.mem_iff.mpr hc), fun c hc => p.mem_iff.mp (h.cl c (p.mem_iff.mpr hc))⟩
/-- the letters that are left, and the ends so far -/
structure YdW (i : Nat) (L E : List Nat) : Prop where
  yd : Yd E
  nd : L.Nodup
  sm : ∀ c ∈ L, c ∈ smalls
  ap : ∀ c ∈ L, c ∉ E
  ll : L.length = 26 - i
  el : E.length = 2 * i
theorem YdW.start : YdW 0 smalls [] := ⟨⟨List.nodup_nil, fun _ h => absurd h List.not_mem_nil, fun _ h => absurd h List.not_mem_nil⟩, smalls_nd, fun _ h => h, fun _ _ h => absurd h List.not_mem_nil, rfl, rfl⟩
theorem YdW.turn {i r : Nat} {L E : List Nat} (w : YdW i L E) (hi : i < 26) (hr : r < L.length) : YdW (i + 1) (L.eraseIdx r) (E ++ [L[r], ctr L[r]]) := by
  have hp := erase_perm (l := L) (List.getElem?_eq_getElem hr)
  have hm : L[r] ∈ L := List.getElem_mem hr
  have hs := w.sm _ hm
  have hl : Lt L[r] := .inl hs
  have nd2 := hp.nodup_iff.mpr w.nd
  have sub : ∀ c ∈ L.eraseIdx r, c ∈ L := fun c hc => hp.mem_iff.mp (List.mem_cons_of_mem _ hc)
  have ap1 := w.ap _ hm
  have ap2 : ctr L[r] ∉ E := fun z => ap1 (by have := w.yd.cl _ z; rwa [ctr_ctr hl] at this)
  refine ⟨⟨?_, fun c hc => ?_, fun c hc => ?_⟩, (List.nodup_cons.mp nd2).2, fun c hc => w.sm c (sub c hc), fun c hc hE => ?_, ?_, ?_⟩
  · rw [List.nodup_append]
    refine ⟨w.yd.nd, ?_, fun a ha b hb z => ?_⟩
    · rw [List.nodup_cons]
      refine ⟨fun z => (ctr_ne hl) (List.mem_singleton.mp z).symm, List.nodup_cons.mpr ⟨List.not_mem_nil, List.nodup_nil⟩⟩
    · subst z
      rcases List.mem_cons.mp hb with z | z
      · exact ap1 (z ▸ ha)
      · exact ap2 (List.mem_singleton.mp z ▸ ha)
  · rcases List.mem_append.mp hc with z | z
    · exact w.yd.lt c z
    · rcases List.mem_cons.mp z with z | z
      · rw [z]; exact hl
      · rw [List.mem_singleton.mp z]; exact hl.ctr
  · rcases List.mem_append.mp hc with z | z
    · exact List.mem_append_left _ (w.yd.cl c z)
    · refine List.mem_append_right _ ?_
      rcases List.mem_cons.mp z with z | z
      · rw [z]; exact List.mem_cons_of_mem _ (List.mem_singleton.mpr rfl)
      · rw [List.mem_singleton.mp z, ctr_ctr hl]; exact List.mem_cons_self
  · rcases List.mem_append.mp hE with z | z
    · exact w.ap c (sub c hc) z
    · rcases List.mem_cons.mp z with z | z
      · exact (List.nodup_cons.mp nd2).1 (z ▸ hc)
      · have e : c = ctr L[r] := List.mem_singleton.mp z
        exact small_ctr _ hs (e ▸ w.sm c (sub c hc))
  · have := hp.length_eq
    rw [List.length_cons, w.ll] at this
    omega
  · rw [List.length_append, w.el]
    show 2 * i + 2 = _
    omega
theorem SameB.updN {b p : Addr} {H H' : Hp} {o : HO} (h : SameB b H H') (n : H p = none) : SameB b H (L2.upd H' p o) := fun c u e z => by rw [upd_ne (ne_of_none e n)]; exact h c u e z
theorem BoxAt.updN {b p : Addr} {H : Hp} {o : HO} (h : BoxAt H b) (n : p ≠ b) : BoxAt (L2.upd H p o) b := let ⟨x, y, e⟩ := h; ⟨x, y, by rw [upd_ne (Ne.symm n)]; exact e⟩
theorem SameB.none {b p : Addr} {H H' : Hp} (h : SameB b H H') (n : H' p = none) (z : p ≠ b) : H p = none := by
  cases q : H p with
  | none => rfl
  | some o => rw [h p o q z] at n; cases n
theorem BoxAt.ne {b p : Addr} {H : Hp} (h : BoxAt H b) (n : H p = none) : p ≠ b := fun z => by obtain ⟨x, y, e⟩ := h; rw [← z, n] at e; cases e
theorem iteN {c : Bool} {A B : Prop} (h : c = false) (hB : B) : if c = true then A else B := by rw [h]; exact iteF hB
theorem iteY {c : Bool} {A B : Prop} (h : c = true) (hA : A) : if c = true then A else B := by rw [h]; exact iteT hA
theorem lt128 {l : List Nat} (h : ∀ c ∈ l, Lt c) : ∀ c ∈ l, c < 128 := fun c hc => (h c hc).lt
theorem sgs_take (a : List Nat) : a.take (sgs a).length = a := by rw [sgs_len]; exact List.take_of_length_le (Nat.le_refl _)
theorem seqB {K : PySem.W.Frag} {H H' : Hp} {a p : Addr} {xs : List V} (h : SqL K H a xs) (n : H p = none) (s : SameB p H H') : SqL K H' a xs := by
  rcases h with (h | ⟨o, h⟩) | h
  · exact .inl (.inl (s _ _ h (ne_of_none h n)))
  · exact .inl (.inr ⟨o, s _ _ h (ne_of_none h n)⟩)
  · exact .inr h
theorem SameB.same {b : Addr} {H H2 H3 : Hp} (n : H b = Option.none) (s : Same H H2) (t : SameB b H2 H3) : Same H H3 := fun c o e => t c o (s c o e) (ne_of_none e n)
theorem SameB.after {p : Addr} {H H1 H2 : Hp} (s : SameB p H H1) (t : Same H1 H2) : SameB p H H2 := fun c o e z => t c o (s c o e z)
/-- texts as values -/
def txs (ws : List (List Nat)) : List V := ws.map fun l => V.str (S l)
theorem txs_len (ws : List (List Nat)) : (txs ws).length = ws.length := by unfold txs; rw [List.length_map]
theorem txs_snoc (ws : List (List Nat)) (l : List Nat) : txs ws ++ [V.str (S l)] = txs (ws ++ [l]) := by unfold txs; rw [List.map_append]; rfl
theorem txs_at {ws : List (List Nat)} {i : Nat} (h : i < ws.length) : (txs ws)[i]? = some (V.str (S ws[i])) := by unfold txs; rw [List.getElem?_map, List.getElem?_eq_getElem h]; rfl
/-! words made shorter -/
/-- no letter beside its contrary -/
def Rdd : List Nat → Prop
  | [] => True
  | [_] => True
  | a :: b :: r => a ≠ ctr b ∧ Rdd (b :: r)
theorem Rdd.tail : ∀ {a : Nat} {r : List Nat}, Rdd (a :: r) → Rdd r
  | _, [], _ => trivial
  | _, _ :: _, h => h.2
theorem Rdd.snoc : ∀ {l : List Nat} {c : Nat}, Rdd l → l.getLast? ≠ some (ctr c) → Rdd (l ++ [c])
  | [], _, _, _ => trivial
  | [a], c, _, h => ⟨fun z => h (by rw [z]; rfl), trivial⟩
  | a :: b :: r, c, h, k => ⟨h.1, Rdd.snoc (l := b :: r) h.2 (by simpa using k)⟩
theorem Rdd.init : ∀ {l : List Nat} {c : Nat}, Rdd (l ++ [c]) → Rdd l ∧ l.getLast? ≠ some (ctr c)
  | [], _, _ => ⟨trivial, by simp⟩
  | [a], c, h => ⟨trivial, fun z => h.1 (by simpa using z)⟩
  | a :: b :: r, c, h => by
    have ih := Rdd.init (l := b :: r) (c := c) h.2
    exact ⟨⟨h.1, ih.1⟩, by simpa using ih.2⟩
/-- ends that are contraries fall off -/
def strip : Nat → List Nat → List Nat
  | 0, l => l
  | n + 1, l => match l with
    | [] => []
    | [a] => [a]
    | a :: b :: r => if a = ctr ((b :: r).getLast (by simp)) then strip n (b :: r).dropLast else a :: b :: r
/-- the shortest -/
def core (l : List Nat) : List Nat := strip l.length l
theorem cut_to {α : Type} (l : List α) (k : Nat) : cut l none (some (k : Int)) = l.take k := by
  unfold cut
  rw [HT.sIx_none, HT.sIx_nat, List.drop_zero, Nat.sub_zero]
  by_cases h : k ≤ l.length
  · rw [Nat.min_eq_left h]
  · rw [Nat.min_eq_right (by omega), List.take_of_length_le (Nat.le_refl _), List.take_of_length_le (by omega)]
theorem cut_from {α : Type} (l : List α) (k : Nat) : cut l (some (k : Int)) none = l.drop k := by
  unfold cut
  rw [HT.sIx_none, HT.sIx_nat]
  by_cases h : k ≤ l.length
  · rw [Nat.min_eq_left h, List.take_of_length_le (by rw [List.length_drop]; exact Nat.le_refl _)]
  · rw [Nat.min_eq_right (by omega), List.drop_of_length_le (Nat.le_refl _), List.drop_of_length_le (by omega)]
    simp
def tds (ws : List (List Nat)) : List PyData := ws.map fun l => PyData.str (S l)
theorem rdds_txs {K : PySem.W.Frag} {H : Hp} : ∀ ws : List (List Nat), RdDs K H (txs ws) (tds ws)
  | [] => .nil
  | w :: ws => .cons (.str _) (rdds_txs ws)
theorem str_ok {l : List Nat} (h : ∀ c ∈ l, c < 128) : PyData.strOk (S l) = true := by
  unfold PyData.strOk
  rw [Array.all_eq_true_iff_forall_mem]
  intro c hc
  have : c ∈ l := by simpa [S] using hc
  have := h c this
  simp; omega
theorem lay_txs : ∀ {ws : List (List Nat)}, (∀ l ∈ ws, ∀ c ∈ l, c < 128) → PyData.canLayAll0 (tds ws) = true
  | [], _ => rfl
  | w :: ws, h => by
    show (PyData.strOk (S w) && PyData.canLayAll0 (tds ws)) = true
    rw [str_ok (h w List.mem_cons_self), lay_txs fun l hl => h l (List.mem_cons_of_mem _ hl)]
    rfl
theorem depth_txs : ∀ ws : List (List Nat), PyData.depthAll (tds ws) = 0
  | [] => rfl
  | k :: ks => by show max (PyData.depth (.str _)) (PyData.depthAll (tds ks)) = 0; rw [depth_txs ks]; rfl
mutual
theorem eqv_refl : ∀ d : PyData, d.hasDict = false → PyData.eqv d d = true
  | .none, _ => rfl
  | .bool b, _ => by simp [PyData.eqv]
  | .int i, _ => by simp [PyData.eqv]
  | .str x, _ => by simp [PyData.eqv]
  | .list xs, h => by show PyData.eqvAll xs xs = true; exact eqvAll_refl xs (by simpa [PyData.hasDict] using h)
  | .tuple xs, h => by show PyData.eqvAll xs xs = true; exact eqvAll_refl xs (by simpa [PyData.hasDict] using h)
  | .dict kvs, h => by simp [PyData.hasDict] at h
theorem eqvAll_refl : ∀ ds : List PyData, PyData.hasDictAll ds = false → PyData.eqvAll ds ds = true
  | [], _ => rfl
  | d :: ds, h => by
    simp [PyData.hasDictAll] at h
    show (PyData.eqv d d && PyData.eqvAll ds ds) = true
    rw [eqv_refl d h.1, eqvAll_refl ds h.2]
    rfl
end
/-! yards: letters, bands, what goes round -/
def letters : List Nat := [97, 98, 99, 100, 101, 102, 103, 104, 105, 106, 107, 108, 109, 110, 111, 112, 113, 114, 115, 116, 117, 118, 119, 120, 121, 122, 65, 66, 67, 68, 69, 70, 71, 72, 73, 74, 75, 76, 77, 78, 79, 80, 81, 82, 83, 84, 85, 86, 87, 88, 89, 90]
theorem Lt.letters {c : Nat} (h : Lt c) : c ∈ letters := h.mem
theorem low_of_small : ∀ c ∈ smalls, isLow c = true ∧ PyProof.Rows.lo1 c = c ∧ ctr c ∈ caps := by decide +kernel
theorem low_of_cap : ∀ c ∈ caps, isLow c = false ∧ PyProof.Rows.lo1 c = ctr c ∧ c ∉ smalls ∧ ctr c ∈ smalls := by decide +kernel
theorem cap_small : ∀ c ∈ caps, c ∉ smalls := by decide +kernel
theorem isLow_iff {c : Nat} (h : Lt c) : isLow c = decide (c ∈ smalls) := by
  rcases h with h | h
  · rw [(low_of_small c h).1, decide_eq_true h]
  · rw [(low_of_cap c h).1, decide_eq_false (low_of_cap c h).2.2.1]
/-- the ends of some bands -/
def kept (sm : List Nat) (c : Nat) : Bool := decide (PyProof.Rows.lo1 c ∈ sm)
theorem kept_or {sm : List Nat} {c : Nat} (hs : ∀ d ∈ sm, d ∈ smalls) (h : Lt c) : kept sm c = (decide (c ∈ sm) || decide (ctr c ∈ sm)) := by
  unfold kept
  rcases h with h | h
  · obtain ⟨_, e, e2⟩ := low_of_small c h
    have : ctr c ∉ sm := fun z => cap_small _ e2 (hs _ z)
    rw [e, decide_eq_false this, Bool.or_false]
  · obtain ⟨_, e, e2, _⟩ := low_of_cap c h
    have : c ∉ sm := fun z => e2 (hs _ z)
    rw [e, decide_eq_false this, Bool.false_or]
theorem kept_ctr {sm : List Nat} {c : Nat} (hs : ∀ d ∈ sm, d ∈ smalls) (h : Lt c) : kept sm (ctr c) = kept sm c := by
  rw [kept_or hs h, kept_or hs h.ctr, ctr_ctr h, Bool.or_comm]
theorem Yd.within {y sm : List Nat} (h : Yd y) (hs : ∀ d ∈ sm, d ∈ smalls) : Yd (y.filter (kept sm)) :=
  ⟨h.nd.filter _, fun c hc => h.lt c (List.mem_filter.mp hc).1, fun c hc => by
    obtain ⟨h1, h2⟩ := List.mem_filter.mp hc
    exact List.mem_filter.mpr ⟨h.cl c h1, by rw [kept_ctr hs (h.lt c h1)]; exact h2⟩⟩
def cyc (i j k : Nat) : Prop := (i < j ∧ j < k) ∨ (j < k ∧ k < i) ∨ (k < i ∧ i < j)
instance (i j k : Nat) : Decidable (cyc i j k) := by unfold cyc; infer_instance
/-- of just as many, sorted, the same -/
theorem sorted_eq {a b : List Nat} (h : a.Perm b) (ha : a.Pairwise (· ≤ ·)) (hb : b.Pairwise (· ≤ ·)) : a = b :=
  List.Perm.eq_of_pairwise (le := fun x y => x ≤ y) (fun _ _ _ _ h1 h2 => Nat.le_antisymm h1 h2) ha hb h
/-! specs of the yards' own -/
def sp_bands (_ : PySem.W.Frag) : Sp := fun vs H Q _ => ∃ l : List Nat, vs = [.str (S l)] ∧ (∀ c ∈ l, c < 128) ∧ l.length < 64 ∧ ∀ l' H', l'.Perm (l.filter isLow) → l'.Pairwise (· ≤ ·) → Same H H' → Q (.str (S l')) H'
theorem len_bands {K : PySem.W.Frag} {vs : List V} {H : Hp} {Q : VK} {E : XK} (h : sp_bands K vs H Q E) : vs.length = 1 := by obtain ⟨c, rfl, _⟩ := h; rfl
def sp_Lbands (_ : PySem.W.Frag) : Sp := fun vs H Q _ => ∃ y : List Nat, vs = [.str (S y)] ∧ y.length < 64 ∧ ∀ q l' H', H q = none → H' q = some (.lst (sgs l')) → l'.Perm (y.filter fun c => decide (c ∈ smalls)) → l'.Pairwise (· ≤ ·) → Same H H' → Q (.ref q) H'
theorem len_Lbands {K : PySem.W.Frag} {vs : List V} {H : Hp} {Q : VK} {E : XK} (h : sp_Lbands K vs H Q E) : vs.length = 1 := by obtain ⟨c, rfl, _⟩ := h; rfl
theorem filter_take {p : Nat → Bool} {l : List Nat} {i c : Nat} (h : l[i]? = some c) : (l.take (i + 1)).filter p = (l.take i).filter p ++ if p c = true then [c] else [] := by
  rw [← take_snoc h, List.filter_append]
  congr 1
  by_cases z : p c = true
  · rw [if_pos z, List.filter_cons_of_pos z]; rfl
  · rw [if_neg z, List.filter_cons_of_neg z]; rfl
theorem dict_txs : ∀ ws : List (List Nat), PyData.hasDictAll (tds ws) = false
  | [] => rfl
  | w :: ws => by show (PyData.hasDict (.str (S w)) || PyData.hasDictAll (tds ws)) = false; rw [dict_txs ws]; rfl
/-- half of the ends are small -/
theorem half_low {y : List Nat} (h : Yd y) : 2 * (y.filter isLow).length = y.length := by
  have key : ∀ p q : Nat → Bool, (∀ c ∈ y, p c = true → q (ctr c) = true) → (y.filter p).length ≤ (y.filter q).length := fun p q hpq => by
    have hn : ((y.filter p).map ctr).Nodup := by
      show ((y.filter p).map ctr).Pairwise (· ≠ ·)
      rw [List.pairwise_map]
      refine (h.nd.filter p).imp_of_mem fun {a b} ha hb z e => z ?_
      exact ctr_inj (h.lt a (List.mem_filter.mp ha).1) (h.lt b (List.mem_filter.mp hb).1) e
    have := hn.length_le_of_subset (l₂ := y.filter q) fun c hc => by
      obtain ⟨d, hd, rfl⟩ := List.mem_map.mp hc
      obtain ⟨d1, d2⟩ := List.mem_filter.mp hd
      exact List.mem_filter.mpr ⟨h.cl d d1, hpq d d1 d2⟩
    rwa [List.length_map] at this
  have k1 := key isLow (fun c => !isLow c) fun c hc z => by
    rw [isLow_iff (h.lt c hc)] at z
    have hs := of_decide_eq_true z
    rw [(low_of_cap _ (low_of_small c hs).2.2).1]; rfl
  have k2 := key (fun c => !isLow c) isLow fun c hc z => by
    rcases h.lt c hc with q | q
    · rw [(low_of_small c q).1] at z; cases z
    · exact (low_of_small _ (low_of_cap c q).2.2.2).1
  have k3 : (y.filter isLow).length + (y.filter fun c => !isLow c).length = y.length := by
    clear k1 k2 key h
    induction y with
    | nil => rfl
    | cons a r ih =>
      cases hq : isLow a
      · rw [List.filter_cons_of_neg (by simp [hq]), List.filter_cons_of_pos (by simp [hq]), List.length_cons, List.length_cons]; omega
      · rw [List.filter_cons_of_pos hq, List.filter_cons_of_neg (by simp [hq]), List.length_cons, List.length_cons]; omega
  omega
/-! drawings: strands, orders, points -/
/-- the bands, rising -/
def bsOf (y : List Nat) : List Nat := (y.filter isLow).mergeSort fun a b => decide (a ≤ b)
theorem bsOf_perm (y : List Nat) : (bsOf y).Perm (y.filter isLow) := List.mergeSort_perm _ _
theorem bsOf_sorted (y : List Nat) : (bsOf y).Pairwise (· ≤ ·) :=
  (List.pairwise_mergeSort (le := fun a b => decide (a ≤ b)) (fun a b c h1 h2 => decide_eq_true (Nat.le_trans (of_decide_eq_true h1) (of_decide_eq_true h2))) (fun a b => by
    rcases Nat.le_total a b with z | z
    · rw [decide_eq_true z]; rfl
    · rw [decide_eq_true z, Bool.or_true]) (y.filter isLow)).imp fun z => of_decide_eq_true z
theorem bsOf_eq {y l : List Nat} (h : l.Perm (y.filter isLow)) (p : l.Pairwise (· ≤ ·)) : l = bsOf y := sorted_eq (h.trans (bsOf_perm y).symm) p (bsOf_sorted y)
theorem smalls_low {y : List Nat} (h : ∀ c ∈ y, Lt c) : (y.filter fun c => decide (c ∈ smalls)) = y.filter isLow := List.filter_congr fun c hc => (isLow_iff (h c hc)).symm
theorem bsOf_len {y : List Nat} (h : Yd y) : 2 * (bsOf y).length = y.length := by rw [(bsOf_perm y).length_eq]; exact half_low h
/-- a strand, at t -/
structure Pr where
  t : Addr
  c : Nat
  i : Nat
def prv (ps : List Pr) : List V := ps.map fun p => V.ref p.t
theorem prv_len (ps : List Pr) : (prv ps).length = ps.length := by unfold prv; rw [List.length_map]
theorem prv_app (a b : List Pr) : prv a ++ prv b = prv (a ++ b) := by unfold prv; rw [List.map_append]
theorem prv_snoc (a : List Pr) (p : Pr) : prv a ++ [V.ref p.t] = prv (a ++ [p]) := by unfold prv; rw [List.map_append]; rfl
theorem prv_at {ps : List Pr} {i : Nat} {x : V} (h : (prv ps)[i]? = some x) : ∃ p, ps[i]? = some p ∧ x = V.ref p.t := by
  unfold prv at h
  rw [List.getElem?_map] at h
  cases e : ps[i]? with
  | none => rw [e] at h; cases h
  | some p => rw [e] at h; cases h; exact ⟨p, rfl, rfl⟩
structure PrOk (H : Hp) (p : Pr) : Prop where
  tp : H p.t = some (.tup [.int p.c, .int p.i])
  cz : p.c < 1000
  iz : p.i < 1000
theorem PrOk.same {H H' : Hp} {p : Pr} (h : PrOk H p) (s : Same H H') : PrOk H' p := ⟨s _ _ h.tp, h.cz, h.iz⟩
/-- an order, at o -/
structure Od where
  o : Addr
  ps : List Pr
structure OdOk (H : Hp) (o : Od) : Prop where
  tp : H o.o = some (.tup (prv o.ps))
  pr : ∀ p ∈ o.ps, PrOk H p
  fw : o.ps.length ≤ 100
theorem OdOk.same {H H' : Hp} {o : Od} (h : OdOk H o) (s : Same H H') : OdOk H' o := ⟨s _ _ h.tp, fun p hp => (h.pr p hp).same s, h.fw⟩
def odv (os : List Od) : List V := os.map fun o => V.ref o.o
theorem odv_len (os : List Od) : (odv os).length = os.length := by unfold odv; rw [List.length_map]
theorem odv_snoc (a : List Od) (p : Od) : odv a ++ [V.ref p.o] = odv (a ++ [p]) := by unfold odv; rw [List.map_append]; rfl
theorem odv_at {os : List Od} {i : Nat} {o : Od} (h : os[i]? = some o) : (odv os)[i]? = some (V.ref o.o) := by unfold odv; rw [List.getElem?_map, h]; rfl
/-- a drawing, at dr: its words and its orders -/
structure DrAt (H : Hp) (dr : Addr) (ws : List (List Nat)) (os : List Od) : Prop where
  ex : ∃ wt ot, H dr = some (.tup [.ref wt, .ref ot]) ∧ H wt = some (.tup (txs ws)) ∧ H ot = some (.tup (odv os))
  od : ∀ o ∈ os, OdOk H o
theorem DrAt.same {H H' : Hp} {dr : Addr} {ws : List (List Nat)} {os : List Od} (h : DrAt H dr ws os) (s : Same H H') : DrAt H' dr ws os := by
  obtain ⟨⟨wt, ot, h1, h2, h3⟩, g⟩ := h
  exact ⟨⟨wt, ot, s _ _ h1, s _ _ h2, s _ _ h3⟩, fun o ho => (g o ho).same s⟩
/-- a point, at t -/
structure Pt where
  t : Addr
  c : Nat
  i : Nat
  e : Nat
def Pt.is (p : Pt) : Nat × Nat × Nat := (p.c, p.i, p.e)
structure PtOk (H : Hp) (p : Pt) : Prop where
  tp : H p.t = some (.tup [.int p.c, .int p.i, .str (S [p.e])])
  cz : p.c < 1000
  iz : p.i < 1000
  ez : p.e < 128
theorem PtOk.same {H H' : Hp} {p : Pt} (h : PtOk H p) (s : Same H H') : PtOk H' p := ⟨s _ _ h.tp, h.cz, h.iz, h.ez⟩
theorem PtOk.upd {H : Hp} {p : Pt} {q : Addr} {o : HO} (h : PtOk H p) (n : p.t ≠ q) : PtOk (L2.upd H q o) p := ⟨by rw [upd_ne n]; exact h.tp, h.cz, h.iz, h.ez⟩
/-! of any things: an order drawn -/
def ThingsAt (K : PySem.W.Frag) (H : Hp) (x : V) (ys : List V) : Prop := (∃ p, x = .ref p ∧ (SqL K H p ys ∨ SqT K H p ys)) ∨ ∃ l : List Nat, x = .str (S l) ∧ ys = sgs l
def sp_Lorder (K : PySem.W.Frag) : Sp := fun vs H Q _ => ∃ (b : Addr) (x : V) (ys : List V), vs = [.ref b, x] ∧ BoxAt H b ∧ ThingsAt K H x ys ∧ ys.length ≤ 1000 ∧ ∀ q ys' H', H q = none → q ≠ b → H' q = some (.lst ys') → ys'.Perm ys → BoxAt H' b → SameB b H H' → Q (.ref q) H'
theorem len_Lorder {K : PySem.W.Frag} {vs : List V} {H : Hp} {Q : VK} {E : XK} (h : sp_Lorder K vs H Q E) : vs.length = 2 := by obtain ⟨c, _, _, rfl, _⟩ := h; rfl
theorem perm_unmap {α β : Type} {f : α → β} {ys zs : List β} (h : ys.Perm zs) : ∀ l : List α, zs = l.map f → ∃ l' : List α, ys = l'.map f ∧ l'.Perm l := by
  induction h with
  | nil => intro l e; cases l with
    | nil => exact ⟨[], rfl, List.Perm.refl _⟩
    | cons a l => cases e
  | cons x h ih =>
    intro l e
    cases l with
    | nil => cases e
    | cons a l =>
      injection e with e1 e2
      obtain ⟨l', g1, g2⟩ := ih l e2
      exact ⟨a :: l', by rw [g1, e1]; rfl, g2.cons a⟩
  | swap x y t =>
    intro l e
    cases l with
    | nil => cases e
    | cons a l =>
      cases l with
      | nil => cases e
      | cons b l =>
        injection e with e1 e2
        injection e2 with e2 e3
        exact ⟨b :: a :: l, by rw [e1, e2, e3]; rfl, List.Perm.swap a b l⟩
  | trans h1 h2 i1 i2 =>
    intro l e
    obtain ⟨l1, g1, g2⟩ := i2 l e
    obtain ⟨l2, g3, g4⟩ := i1 l1 g1
    exact ⟨l2, g3, g4.trans g2⟩
/-! the strands of words -/
def Pr.pair (p : Pr) : Nat × Nat := (p.c, p.i)
def onB (band l : Nat) : Bool := decide (l = band) || decide (l = ctr band)
def strUp (band c : Nat) (w : List Nat) (n : Nat) : List (Nat × Nat) := ((List.range n).filter fun i => onB band (w.getD i 0)).map fun i => (c, i)
def strAll (band : Nat) (ws : List (List Nat)) (n : Nat) : List (Nat × Nat) := (List.range n).flatMap fun c => strUp band c (ws.getD c []) (ws.getD c []).length
theorem strUp_succ {band c i l : Nat} {w : List Nat} (h : w[i]? = some l) : strUp band c w (i + 1) = strUp band c w i ++ if onB band l = true then [(c, i)] else [] := by
  have e : w.getD i 0 = l := by rw [List.getD_eq_getElem?_getD, h]; rfl
  unfold strUp
  rw [List.range_succ, List.filter_append, List.map_append]
  congr 1
  by_cases z : onB band l = true
  · rw [if_pos z, List.filter_cons_of_pos (by rw [e]; exact z)]; rfl
  · rw [if_neg z, List.filter_cons_of_neg (by rw [e]; exact z)]; rfl
theorem strAll_succ {band i : Nat} {ws : List (List Nat)} {w : List Nat} (h : ws[i]? = some w) : strAll band ws (i + 1) = strAll band ws i ++ strUp band i w w.length := by
  have e : ws.getD i [] = w := by rw [List.getD_eq_getElem?_getD, h]; rfl
  unfold strAll
  rw [List.range_succ, List.flatMap_append]
  congr 1
  rw [List.flatMap_cons, List.flatMap_nil, List.append_nil, e]
theorem strUp_len (band c : Nat) (w : List Nat) (n : Nat) : (strUp band c w n).length ≤ n := by
  unfold strUp
  rw [List.length_map]
  exact Nat.le_trans (List.length_filter_le _ _) (by rw [List.length_range]; exact Nat.le_refl _)
/-- words of a yard -/
structure WsOk (y : List Nat) (ws : List (List Nat)) : Prop where
  few : ws.length ≤ 4
  all : ∀ w ∈ ws, (∀ c ∈ w, c ∈ y) ∧ w.length ≤ 12
/-- each order has its band's strands -/
def OsOk (y : List Nat) (ws : List (List Nat)) (os : List Od) : Prop := os.length = (bsOf y).length ∧ ∀ (j : Nat) (o : Od) (b : Nat), os[j]? = some o → (bsOf y)[j]? = some b → (o.ps.map Pr.pair).Perm (strAll b ws ws.length)
def sp_Lwords (_ : PySem.W.Frag) : Sp := fun vs H Q _ => ∃ (b : Addr) (y : List Nat), vs = [.ref b, .str (S y)] ∧ BoxAt H b ∧ y ≠ [] ∧ y.length ≤ 8 ∧ ∀ (t : Addr) (ws : List (List Nat)) (H' : Hp), H t = none → t ≠ b → H' t = some (.tup (txs ws)) → WsOk y ws → BoxAt H' b → SameB b H H' → Q (.ref t) H'
theorem len_Lwords {K : PySem.W.Frag} {vs : List V} {H : Hp} {Q : VK} {E : XK} (h : sp_Lwords K vs H Q E) : vs.length = 2 := by obtain ⟨c, _, rfl, _⟩ := h; rfl
def sp_Ldrawing (_ : PySem.W.Frag) : Sp := fun vs H Q _ => ∃ (b : Addr) (y : List Nat) (wt : Addr) (ws : List (List Nat)), vs = [.ref b, .str (S y), .ref wt] ∧ BoxAt H b ∧ Yd y ∧ y.length ≤ 8 ∧ wt ≠ b ∧ H wt = some (.tup (txs ws)) ∧ WsOk y ws ∧ ∀ (dr : Addr) (os : List Od) (H' : Hp), DrAt H' dr ws os → OsOk y ws os → BoxAt H' b → SameB b H H' → Q (.ref dr) H'
theorem len_Ldrawing {K : PySem.W.Frag} {vs : List V} {H : Hp} {Q : VK} {E : XK} (h : sp_Ldrawing K vs H Q E) : vs.length = 3 := by obtain ⟨c, _, _, _, rfl, _⟩ := h; rfl
theorem TSame.box {H H' : Hp} {b : Addr} (h : BoxAt H b) (s : SameB b H H') : TSame H H' := fun c xs e => s c _ e fun z => by
  obtain ⟨x, y, g⟩ := h
  rw [z, g] at e; cases e
theorem PrOk.ts {H H' : Hp} {p : Pr} (h : PrOk H p) (s : TSame H H') : PrOk H' p := ⟨s _ _ h.tp, h.cz, h.iz⟩
theorem OdOk.ts {H H' : Hp} {o : Od} (h : OdOk H o) (s : TSame H H') : OdOk H' o := ⟨s _ _ h.tp, fun p hp => (h.pr p hp).ts s, h.fw⟩
theorem DrAt.ts {H H' : Hp} {dr : Addr} {ws : List (List Nat)} {os : List Od} (h : DrAt H dr ws os) (s : TSame H H') : DrAt H' dr ws os := by
  obtain ⟨⟨wt, ot, h1, h2, h3⟩, g⟩ := h
  exact ⟨⟨wt, ot, s _ _ h1, s _ _ h2, s _ _ h3⟩, fun o ho => (g o ho).ts s⟩
theorem PtOk.ts {H H' : Hp} {p : Pt} (h : PtOk H p) (s : TSame H H') : PtOk H' p := ⟨s _ _ h.tp, h.cz, h.iz, h.ez⟩
theorem low_on {band l : Nat} (hb : band ∈ smalls) (hl : Lt l) : decide (PyProof.Rows.lo1 l = band) = onB band l := by
  unfold onB
  rcases hl with h | h
  · have e := (low_of_small l h).2.1
    have n : l ≠ ctr band := fun z => cap_small _ (low_of_small band hb).2.2 (z ▸ h)
    rw [e, decide_eq_false n, Bool.or_false]
  · have e := (low_of_cap l h).2.1
    have n : l ≠ band := fun z => cap_small l h (z ▸ hb)
    rw [e, decide_eq_false n, Bool.false_or]
    refine decide_eq_decide.mpr ⟨fun z => by rw [← z, ctr_ctr (.inr h)], fun z => by rw [z, ctr_ctr (.inl hb)]⟩
/-! k14's own: orders just as plain tells them -/
theorem strAll_len (band : Nat) {ws : List (List Nat)} (hw : ∀ w ∈ ws, w.length ≤ 12) : ∀ n, n ≤ ws.length → (strAll band ws n).length ≤ 12 * n
  | 0, _ => Nat.le_refl _
  | n + 1, h => by
    have hn : n < ws.length := by omega
    rw [strAll_succ (List.getElem?_eq_getElem hn), List.length_append]
    have h1 := strAll_len band hw n (by omega)
    have h2 := strUp_len band n ws[n] ws[n].length
    have h3 := hw _ (List.getElem_mem hn)
    omega
def prD (p : Nat × Nat) : PyData := .tuple [.int p.1, .int p.2]
theorem rdds_prs {K : PySem.W.Frag} {H : Hp} : ∀ {ps : List Pr}, (∀ p ∈ ps, PrOk H p) → RdDs K H (prv ps) ((ps.map Pr.pair).map prD)
  | [], _ => .nil
  | p :: ps, h => .cons (.tup (SqT.of (h p List.mem_cons_self).tp) (.cons (.int _) (.cons (.int _) .nil))) (rdds_prs fun q hq => h q (List.mem_cons_of_mem _ hq))
theorem sms_prs {H : Hp} {ps : List Pr} (h : ∀ p ∈ ps, PrOk H p) {k : Nat} : SmDs (k + 1) (90 * ps.length) ((ps.map Pr.pair).map prD) := by
  refine .all (a := 89) (fun x hx => ?_) (by rw [List.length_map, List.length_map]; omega)
  obtain ⟨q, hq, rfl⟩ := List.mem_map.mp hx
  obtain ⟨p, hp, rfl⟩ := List.mem_map.mp hq
  have ok := h p hp
  have b1 : (p.c : Int).natAbs < 10 ^ 12 := by have := ok.cz; omega
  have b2 : (p.i : Int).natAbs < 10 ^ 12 := by have := ok.iz; omega
  exact .tup (.cons (a := 40) (b := 41) (.int b1 (by decide)) (.cons (a := 40) (b := 0) (.int b2 (by decide)) .nil (by decide)) (by decide))
/-- orders as data -/
def odD (o : Od) : PyData := .tuple ((o.ps.map Pr.pair).map prD)
theorem rdds_ods {K : PySem.W.Frag} {H : Hp} : ∀ {os : List Od}, (∀ o ∈ os, OdOk H o) → RdDs K H (odv os) (os.map odD)
  | [], _ => .nil
  | o :: os, h => .cons (.tup (SqT.of (h o List.mem_cons_self).tp) (rdds_prs (h o List.mem_cons_self).pr)) (rdds_ods fun q hq => h q (List.mem_cons_of_mem _ hq))
/-- each order has just its band's strands, rising -/
def OsEx (y : List Nat) (ws : List (List Nat)) (os : List Od) : Prop := os.map (fun o => o.ps.map Pr.pair) = (bsOf y).map fun b => strAll b ws ws.length
theorem OsEx.data {y : List Nat} {ws : List (List Nat)} {os : List Od} (h : OsEx y ws os) : os.map odD = ((bsOf y).map fun b => strAll b ws ws.length).map fun ns => PyData.tuple (ns.map prD) := by
  rw [← h, List.map_map]
  rfl
theorem sm_dr {H : Hp} {ws : List (List Nat)} {os : List Od} (hw : ∀ w ∈ ws, (∀ c ∈ w, c < 128) ∧ w.length ≤ 12) (hf : ws.length ≤ 4) (ho : ∀ o ∈ os, OdOk H o) (hz : os.length ≤ 4) : SmD 40 100000 (.tuple [.tuple (tds ws), .tuple (os.map odD)]) := by
  have s1 : SmD 39 60 (.tuple (tds ws)) := .tup (.all (a := 12) (fun x hx => by
    obtain ⟨w, hw', rfl⟩ := List.mem_map.mp hx
    exact .str (hw w hw').1 (hw w hw').2) (by unfold tds; rw [List.length_map]; omega))
  have s2 : SmD 39 40000 (.tuple (os.map odD)) := .tup (.all (a := 9000) (fun x hx => by
    obtain ⟨o, ho', rfl⟩ := List.mem_map.mp hx
    have k := ho o ho'
    have m := sms_prs (k := 36) k.pr
    exact .tup ⟨m.lv, m.sh, m.ly, m.dp, Nat.le_trans m.wt (by have := k.fw; omega)⟩) (by rw [List.length_map]; omega))
  exact .tup (.cons (a := 60) (b := 40001) s1 (.cons (a := 40000) (b := 0) s2 .nil (by decide)) (by decide))
def sp_foreign_sign (_ : PySem.W.Frag) : Sp := fun vs H Q _ => ∃ (y w : List Nat), vs = [.str (S y), .str (S w)] ∧ (∀ c ∈ w, c ∈ y) ∧ ∀ H', Same H H' → Q .non H'
theorem len_foreign_sign {K : PySem.W.Frag} {vs : List V} {H : Hp} {Q : VK} {E : XK} (h : sp_foreign_sign K vs H Q E) : vs.length = 2 := by obtain ⟨c, _, rfl, _⟩ := h; rfl
def sp_strands_in (_ : PySem.W.Frag) : Sp := fun vs H Q _ => ∃ (wt : Addr) (ws : List (List Nat)) (band : Nat), vs = [.ref wt, .str (S [band])] ∧ H wt = some (.tup (txs ws)) ∧ ws.length ≤ 4 ∧ (∀ w ∈ ws, (∀ c ∈ w, Lt c) ∧ w.length ≤ 12) ∧ band ∈ smalls ∧ ∀ (q : Addr) (ps : List Pr) (H' : Hp), H q = none → H' q = some (.lst (prv ps)) → (∀ p ∈ ps, PrOk H' p) → ps.map Pr.pair = strAll band ws ws.length → Same H H' → Q (.ref q) H'
theorem len_strands_in {K : PySem.W.Frag} {vs : List V} {H : Hp} {Q : VK} {E : XK} (h : sp_strands_in K vs H Q E) : vs.length = 2 := by obtain ⟨c, _, _, rfl, _⟩ := h; rfl
theorem bs_small {y : List Nat} (h : Yd y) {b : Nat} (hb : b ∈ bsOf y) : b ∈ smalls := by
  obtain ⟨h1, h2⟩ := List.mem_filter.mp ((bsOf_perm y).mem_iff.mp hb)
  rw [isLow_iff (h.lt b h1)] at h2
  exact of_decide_eq_true h2
/-- what is asked -/
structure Ask where
  t : Addr
  u : List Nat
  wt : Addr
  ws : List (List Nat)
  ot : Addr
  os : List Od
structure AskOk (H : Hp) (k : Ask) : Prop where
  tp : H k.t = some (.tup [.str (S k.u), .ref k.wt, .ref k.ot])
  yd : Yd k.u
  yz : k.u.length ≤ 8
  wo : WsOk k.u k.ws
  hw : H k.wt = some (.tup (txs k.ws))
  ho : H k.ot = some (.tup (odv k.os))
  od : ∀ o ∈ k.os, OdOk H o
  ex : OsEx k.u k.ws k.os
theorem AskOk.ts {H H' : Hp} {k : Ask} (h : AskOk H k) (s : TSame H H') : AskOk H' k := ⟨s _ _ h.tp, h.yd, h.yz, h.wo, s _ _ h.hw, s _ _ h.ho, fun o ho => (h.od o ho).ts s, h.ex⟩
/-! k17's own: drawings as texts -/
theorem dg_all : ∀ n, n < 30 → (46 ∉ dg n) ∧ 32 ∉ dg n ∧ 10 ∉ dg n ∧ (dg n).length ≤ 3 := by decide +kernel
theorem dg_inj : ∀ n, n < 30 → ∀ m, m < 30 → dg n = dg m → n = m := by decide +kernel
def stx (p : Nat × Nat) : List Nat := dg p.1 ++ 46 :: dg p.2
def SmP (p : Nat × Nat) : Prop := p.1 < 30 ∧ p.2 < 30
theorem stx_inj {p q : Nat × Nat} (hp : SmP p) (hq : SmP q) (h : stx p = stx q) : p = q := by
  have e := congrArg (spl 46) h
  unfold stx at e
  rw [spl_app _ (dg_all _ hp.1).1, spl_app _ (dg_all _ hq.1).1, spl_one (dg_all _ hp.2).1, spl_one (dg_all _ hq.2).1] at e
  simp only [List.cons.injEq, and_true] at e
  exact Prod.ext (dg_inj _ hp.1 _ hq.1 e.1) (dg_inj _ hp.2 _ hq.2 e.2)
theorem stx_no {p : Nat × Nat} (hp : SmP p) : 32 ∉ stx p ∧ 10 ∉ stx p ∧ (stx p).length ≤ 7 := by
  obtain ⟨_, a2, a3, a4⟩ := dg_all _ hp.1
  obtain ⟨_, b2, b3, b4⟩ := dg_all _ hp.2
  unfold stx
  refine ⟨fun z => ?_, fun z => ?_, by rw [List.length_append, List.length_cons]; omega⟩
  · rcases List.mem_append.mp z with g | g
    · exact a2 g
    · rcases List.mem_cons.mp g with g | g
      · cases g
      · exact b2 g
  · rcases List.mem_append.mp z with g | g
    · exact a3 g
    · rcases List.mem_cons.mp g with g | g
      · cases g
      · exact b3 g
def wCord : List Nat := [99, 111, 114, 100]
def wBand : List Nat := [98, 97, 110, 100]
def cordW (w : List Nat) : List Nat := if w = [] then [45] else w
def cordR (w : List Nat) : List Nat := joinc 32 [wCord, cordW w]
def bandP (b : Nat) (ps : List (Nat × Nat)) : List (List Nat) := wBand :: [b] :: ps.map stx
def bandR (b : Nat) (ps : List (Nat × Nat)) : List Nat := joinc 32 (bandP b ps)
def rowsOf (y : List Nat) (ws : List (List Nat)) (os : List (List (Nat × Nat))) : List (List Nat) := ws.map cordR ++ List.zipWith bandR (bsOf y) os
def textOf (y : List Nat) (ws : List (List Nat)) (os : List (List (Nat × Nat))) : List Nat := joinc 10 (rowsOf y ws os)
theorem lt_no : ∀ c ∈ smalls ++ caps, c ≠ 32 ∧ c ≠ 10 ∧ c ≠ 45 := by decide +kernel
theorem joinc_mem {c d : Nat} : ∀ {ps : List (List Nat)}, d ∈ joinc c ps → d = c ∨ ∃ p ∈ ps, d ∈ p
  | [], h => by simp [joinc] at h
  | [p], h => .inr ⟨p, List.mem_cons_self, h⟩
  | p :: q :: r, h => by
    have h' : d ∈ p ++ c :: joinc c (q :: r) := h
    rcases List.mem_append.mp h' with g | g
    · exact .inr ⟨p, List.mem_cons_self, g⟩
    · rcases List.mem_cons.mp g with g | g
      · exact .inl g
      · rcases joinc_mem g with g | ⟨x, hx, g⟩
        · exact .inl g
        · exact .inr ⟨x, List.mem_cons_of_mem _ hx, g⟩
theorem cordW_no {w : List Nat} (h : ∀ c ∈ w, Lt c) : 32 ∉ cordW w ∧ 10 ∉ cordW w ∧ cordW w ≠ [] := by
  unfold cordW
  split
  · exact ⟨by decide, by decide, by decide⟩
  · rename_i hw
    exact ⟨fun z => (lt_no _ (h _ z).mem).1 rfl, fun z => (lt_no _ (h _ z).mem).2.1 rfl, hw⟩
theorem cordR_spl {w : List Nat} (h : ∀ c ∈ w, Lt c) : spl 32 (cordR w) = [wCord, cordW w] := spl_join (by simp) fun p hp => by
  rcases List.mem_cons.mp hp with g | g
  · rw [g]; decide
  · rw [List.mem_singleton.mp g]; exact (cordW_no h).1
theorem cordR_no {w : List Nat} (h : ∀ c ∈ w, Lt c) : 10 ∉ cordR w := fun z => by
  rcases joinc_mem z with g | ⟨p, hp, g⟩
  · cases g
  · rcases List.mem_cons.mp hp with e | e
    · rw [e] at g; revert g; decide
    · rw [List.mem_singleton.mp e] at g; exact (cordW_no h).2.1 g
theorem bandP_no {b : Nat} {ps : List (Nat × Nat)} (hb : Lt b) (h : ∀ p ∈ ps, SmP p) : ∀ x ∈ bandP b ps, 32 ∉ x ∧ 10 ∉ x ∧ x.length ≤ 7 := fun x hx => by
  rcases List.mem_cons.mp hx with g | g
  · rw [g]; exact ⟨by decide, by decide, by decide⟩
  · rcases List.mem_cons.mp g with g | g
    · rw [g]
      exact ⟨fun z => (lt_no _ hb.mem).1 (List.mem_singleton.mp z).symm, fun z => (lt_no _ hb.mem).2.1 (List.mem_singleton.mp z).symm, by simp⟩
    · obtain ⟨p, hp, rfl⟩ := List.mem_map.mp g
      exact stx_no (h p hp)
theorem bandR_spl {b : Nat} {ps : List (Nat × Nat)} (hb : Lt b) (h : ∀ p ∈ ps, SmP p) : spl 32 (bandR b ps) = bandP b ps := spl_join (by unfold bandP; simp) fun x hx => (bandP_no hb h x hx).1
theorem bandR_no {b : Nat} {ps : List (Nat × Nat)} (hb : Lt b) (h : ∀ p ∈ ps, SmP p) : 10 ∉ bandR b ps := fun z => by
  rcases joinc_mem z with g | ⟨p, hp, g⟩
  · cases g
  · exact (bandP_no hb h p hp).2.1 g
theorem sum_le_mul {k : Nat} : ∀ {ps : List (List Nat)}, (∀ p ∈ ps, p.length ≤ k) → (ps.map List.length).sum ≤ k * ps.length
  | [], _ => Nat.zero_le _
  | p :: ps, h => by
    have ih := sum_le_mul (ps := ps) (fun x hx => h x (List.mem_cons_of_mem _ hx))
    have := h p List.mem_cons_self
    rw [List.map_cons, List.sum_cons, List.length_cons, Nat.mul_succ]
    omega
theorem bandR_len {b : Nat} {ps : List (Nat × Nat)} (hb : Lt b) (h : ∀ p ∈ ps, SmP p) (hz : ps.length ≤ 100) : (bandR b ps).length ≤ 1000 := by
  have h1 := joinc_len 32 (bandP b ps)
  have h2 := sum_le_mul fun x hx => (bandP_no hb h x hx).2.2
  have h3 : (bandP b ps).length = ps.length + 2 := by unfold bandP; simp
  unfold bandR
  omega
theorem cordR_len {w : List Nat} (h : w.length ≤ 12) : (cordR w).length ≤ 20 := by
  have e : cordR w = wCord ++ 32 :: cordW w := rfl
  rw [e]
  unfold cordW wCord
  split <;> simp <;> omega
theorem strAll_sm {y : List Nat} {ws : List (List Nat)} (h : WsOk y ws) {b : Nat} : ∀ p ∈ strAll b ws ws.length, SmP p := fun p hp => by
  unfold strAll at hp
  obtain ⟨c, hc, hp⟩ := List.mem_flatMap.mp hp
  unfold strUp at hp
  obtain ⟨i, hi, rfl⟩ := List.mem_map.mp hp
  have h1 := List.mem_range.mp hc
  have h2 := List.mem_range.mp (List.mem_filter.mp hi).1
  have h3 : (ws.getD c []).length ≤ 12 := by
    rw [List.getD_eq_getElem?_getD, List.getElem?_eq_getElem h1]
    exact (h.all _ (List.getElem_mem h1)).2
  have := h.few
  exact ⟨by show c < 30; omega, by show i < 30; omega⟩
theorem strAll_nd (b : Nat) (ws : List (List Nat)) : ∀ n, (strAll b ws n).Nodup := fun n => by
  unfold strAll
  refine List.pairwise_flatMap.mpr ⟨fun c _ => ?_, ?_⟩
  · unfold strUp
    refine List.pairwise_map.mpr (List.Pairwise.imp (fun {i j} h e => h (Prod.ext_iff.mp e).2) ((List.nodup_range (n := (ws.getD c []).length)).filter _))
  · refine List.Pairwise.imp (fun {c d} hcd => ?_) (List.nodup_range (n := n))
    intro p hp q hq e
    subst e
    unfold strUp at hp hq
    obtain ⟨i, _, rfl⟩ := List.mem_map.mp hp
    obtain ⟨j, _, e⟩ := List.mem_map.mp hq
    exact hcd (Prod.ext_iff.mp e).1.symm
/-- the rows, of strands that are the bands' -/
structure Told (y : List Nat) (ws : List (List Nat)) (os : List (List (Nat × Nat))) : Prop where
  yd : Yd y
  y2 : 2 ≤ y.length
  y8 : y.length ≤ 8
  wo : WsOk y ws
  ol : os.length = (bsOf y).length
  pm : ∀ (j : Nat) (o : List (Nat × Nat)) (b : Nat), os[j]? = some o → (bsOf y)[j]? = some b → o.Perm (strAll b ws ws.length)
theorem Told.wl {y : List Nat} {ws : List (List Nat)} {os : List (List (Nat × Nat))} (h : Told y ws os) : ∀ w ∈ ws, ∀ c ∈ w, Lt c := fun w hw c hc => h.yd.lt c ((h.wo.all w hw).1 c hc)
theorem Told.sm {y : List Nat} {ws : List (List Nat)} {os : List (List (Nat × Nat))} (h : Told y ws os) {j b : Nat} {o : List (Nat × Nat)} (e1 : os[j]? = some o) (e2 : (bsOf y)[j]? = some b) : ∀ p ∈ o, SmP p := fun p hp => strAll_sm h.wo p ((h.pm j o b e1 e2).mem_iff.mp hp)
theorem Told.blt {y : List Nat} {ws : List (List Nat)} {os : List (List (Nat × Nat))} (h : Told y ws os) {b : Nat} (hb : b ∈ bsOf y) : Lt b := .inl (bs_small h.yd hb)
theorem Told.few {y : List Nat} {ws : List (List Nat)} {os : List (List (Nat × Nat))} (h : Told y ws os) {j b : Nat} {o : List (Nat × Nat)} (e1 : os[j]? = some o) (e2 : (bsOf y)[j]? = some b) : o.length ≤ 48 := by
  rw [(h.pm j o b e1 e2).length_eq]
  have := strAll_len b (fun w hw => (h.wo.all w hw).2) ws.length (Nat.le_refl _)
  have := h.wo.few
  omega
theorem zw_get {y : List Nat} {os : List (List (Nat × Nat))} {x : List Nat} (h : x ∈ List.zipWith bandR (bsOf y) os) : ∃ (j b : Nat) (o : List (Nat × Nat)), os[j]? = some o ∧ (bsOf y)[j]? = some b ∧ x = bandR b o := by
  obtain ⟨j, hj, e⟩ := List.getElem_of_mem h
  rw [List.getElem_zipWith] at e
  rw [List.length_zipWith] at hj
  exact ⟨j, (bsOf y)[j], os[j], List.getElem?_eq_getElem (by omega), List.getElem?_eq_getElem (by omega), e.symm⟩
theorem Told.rows {y : List Nat} {ws : List (List Nat)} {os : List (List (Nat × Nat))} (h : Told y ws os) : ∀ x ∈ rowsOf y ws os, 10 ∉ x ∧ x.length ≤ 1000 := fun x hx => by
  rcases List.mem_append.mp hx with g | g
  · obtain ⟨w, hw, rfl⟩ := List.mem_map.mp g
    exact ⟨cordR_no (h.wl w hw), Nat.le_trans (cordR_len (h.wo.all w hw).2) (by decide)⟩
  · obtain ⟨j, b, o, e1, e2, rfl⟩ := zw_get g
    have hb := h.blt (List.mem_of_getElem? e2)
    exact ⟨bandR_no hb (h.sm e1 e2), bandR_len hb (h.sm e1 e2) (Nat.le_trans (h.few e1 e2) (by decide))⟩
theorem Told.bl {y : List Nat} {ws : List (List Nat)} {os : List (List (Nat × Nat))} (h : Told y ws os) : 1 ≤ os.length ∧ os.length ≤ 4 := by
  have h1 := bsOf_len h.yd
  have h2 := h.y2
  have h3 := h.y8
  rw [h.ol]
  omega
theorem rows_len {y : List Nat} {ws : List (List Nat)} {os : List (List (Nat × Nat))} (h : os.length = (bsOf y).length) : (rowsOf y ws os).length = ws.length + os.length := by unfold rowsOf; rw [List.length_append, List.length_map, List.length_zipWith]; omega
theorem Told.spl {y : List Nat} {ws : List (List Nat)} {os : List (List (Nat × Nat))} (h : Told y ws os) : L2.spl 10 (textOf y ws os) = rowsOf y ws os := spl_join (fun z => by
    have e := rows_len (ws := ws) h.ol
    have hb := h.bl
    rw [z] at e
    simp only [List.length_nil] at e
    omega) fun x hx => (h.rows x hx).1
theorem Told.tlen {y : List Nat} {ws : List (List Nat)} {os : List (List (Nat × Nat))} (h : Told y ws os) : (textOf y ws os).length ≤ 100000 := by
  have h1 := joinc_len 10 (rowsOf y ws os)
  have h2 := sum_le_mul fun x hx => (h.rows x hx).2
  have h3 := rows_len (ws := ws) h.ol
  have h4 := h.bl
  have h5 := h.wo.few
  unfold textOf
  omega
def ods (os : List Od) : List (List (Nat × Nat)) := os.map fun o => o.ps.map Pr.pair
theorem ods_len (os : List Od) : (ods os).length = os.length := by unfold ods; rw [List.length_map]
theorem ods_at {os : List Od} {j : Nat} {o : Od} (h : os[j]? = some o) : (ods os)[j]? = some (o.ps.map Pr.pair) := by unfold ods; rw [List.getElem?_map, h]; rfl
theorem Told.of {y : List Nat} {ws : List (List Nat)} {os : List Od} (hy : Yd y) (h2 : 2 ≤ y.length) (h8 : y.length ≤ 8) (hw : WsOk y ws) (ho : OsOk y ws os) : Told y ws (ods os) :=
  ⟨hy, h2, h8, hw, by rw [ods_len]; exact ho.1, fun j o b e1 e2 => by
    unfold ods at e1
    rw [List.getElem?_map] at e1
    cases e : os[j]? with
    | none => rw [e] at e1; cases e1
    | some o' => rw [e] at e1; cases e1; exact ho.2 j o' b e e2⟩
def sp_strand_text (_ : PySem.W.Frag) : Sp := fun vs H Q _ => ∃ p : Pr, vs = [.ref p.t] ∧ PrOk H p ∧ SmP p.pair ∧ Q (.str (S (stx p.pair))) H
theorem len_strand_text {K : PySem.W.Frag} {vs : List V} {H : Hp} {Q : VK} {E : XK} (h : sp_strand_text K vs H Q E) : vs.length = 1 := by obtain ⟨p, rfl, _⟩ := h; rfl
def sp_cord_row (_ : PySem.W.Frag) : Sp := fun vs H Q _ => ∃ w : List Nat, vs = [.str (S w)] ∧ w.length ≤ 12 ∧ ∀ H', Same H H' → Q (.str (S (cordR w))) H'
theorem len_cord_row {K : PySem.W.Frag} {vs : List V} {H : Hp} {Q : VK} {E : XK} (h : sp_cord_row K vs H Q E) : vs.length = 1 := by obtain ⟨p, rfl, _⟩ := h; rfl
def sp_band_row (_ : PySem.W.Frag) : Sp := fun vs H Q _ => ∃ (b : Nat) (o : Od), vs = [.str (S [b]), .ref o.o] ∧ OdOk H o ∧ (∀ p ∈ o.ps, SmP p.pair) ∧ ∀ H', Same H H' → Q (.str (S (bandR b (o.ps.map Pr.pair)))) H'
theorem len_band_row {K : PySem.W.Frag} {vs : List V} {H : Hp} {Q : VK} {E : XK} (h : sp_band_row K vs H Q E) : vs.length = 2 := by obtain ⟨p, _, rfl, _⟩ := h; rfl
def sp_show_drawing (_ : PySem.W.Frag) : Sp := fun vs H Q _ => ∃ (y : List Nat) (dr : Addr) (ws : List (List Nat)) (os : List Od), vs = [.str (S y), .ref dr] ∧ DrAt H dr ws os ∧ Told y ws (ods os) ∧ ∀ H', Same H H' → Q (.str (S (textOf y ws (ods os)))) H'
theorem len_show_drawing {K : PySem.W.Frag} {vs : List V} {H : Hp} {Q : VK} {E : XK} (h : sp_show_drawing K vs H Q E) : vs.length = 2 := by obtain ⟨p, _, _, _, rfl, _⟩ := h; rfl
def sp_Ltext (_ : PySem.W.Frag) : Sp := fun vs H Q _ => ∃ (y : List Nat) (dr : Addr) (ws : List (List Nat)) (os : List Od), vs = [.str (S y), .ref dr] ∧ DrAt H dr ws os ∧ Told y ws (ods os) ∧ ∀ H', Same H H' → Q (.str (S (textOf y ws (ods os)))) H'
theorem len_Ltext {K : PySem.W.Frag} {vs : List V} {H : Hp} {Q : VK} {E : XK} (h : sp_Ltext K vs H Q E) : vs.length = 2 := by obtain ⟨p, _, _, _, rfl, _⟩ := h; rfl
def sp_read_cord (_ : PySem.W.Frag) : Sp := fun vs H Q _ => ∃ (y row : List Nat), vs = [.str (S y), .str (S row)] ∧ ((∃ w, row = cordR w ∧ (∀ c ∈ w, c ∈ y ∧ Lt c) ∧ w.length ≤ 12 ∧ ∀ H', Same H H' → Q (.str (S w)) H') ∨
  ∃ (b : Nat) (ps : List (Nat × Nat)), row = bandR b ps ∧ Lt b ∧ (∀ p ∈ ps, SmP p) ∧ ps.length ≤ 48 ∧ ∀ H', Same H H' → Q .non H')
theorem len_read_cord {K : PySem.W.Frag} {vs : List V} {H : Hp} {Q : VK} {E : XK} (h : sp_read_cord K vs H Q E) : vs.length = 2 := by obtain ⟨p, _, rfl, _⟩ := h; rfl
def sp_read_words (_ : PySem.W.Frag) : Sp := fun vs H Q _ => ∃ (y : List Nat) (p : Addr) (ws : List (List Nat)) (os : List (List (Nat × Nat))), vs = [.str (S y), .ref p] ∧ H p = some (.lst (txs (rowsOf y ws os))) ∧ Told y ws os ∧ ∀ (t : Addr) H', H t = none → H' t = some (.tup (txs ws)) → Same H H' → Q (.ref t) H'
theorem len_read_words {K : PySem.W.Frag} {vs : List V} {H : Hp} {Q : VK} {E : XK} (h : sp_read_words K vs H Q E) : vs.length = 2 := by obtain ⟨p, _, _, _, rfl, _⟩ := h; rfl
def sp_read_order (_ : PySem.W.Frag) : Sp := fun vs H Q _ => ∃ (y : List Nat) (wt : Addr) (ws : List (List Nat)) (b : Nat) (ps : List (Nat × Nat)), vs = [.ref wt, .str (S [b]), .str (S (bandR b ps))] ∧ H wt = some (.tup (txs ws)) ∧ WsOk y ws ∧ (∀ w ∈ ws, ∀ c ∈ w, Lt c) ∧ b ∈ smalls ∧ ps.Perm (strAll b ws ws.length) ∧
  ∀ (o : Od) H', OdOk H' o → o.ps.map Pr.pair = ps → Same H H' → Q (.ref o.o) H'
theorem len_read_order {K : PySem.W.Frag} {vs : List V} {H : Hp} {Q : VK} {E : XK} (h : sp_read_order K vs H Q E) : vs.length = 3 := by obtain ⟨p, _, _, _, _, rfl, _⟩ := h; rfl
def sp_read_drawing (_ : PySem.W.Frag) : Sp := fun vs H Q _ => ∃ (y : List Nat) (ws : List (List Nat)) (os : List (List (Nat × Nat))), vs = [.str (S y), .str (S (textOf y ws os))] ∧ Told y ws os ∧ ∀ (dr : Addr) (os' : List Od) H', DrAt H' dr ws os' → ods os' = os → Same H H' → Q (.ref dr) H'
theorem len_read_drawing {K : PySem.W.Frag} {vs : List V} {H : Hp} {Q : VK} {E : XK} (h : sp_read_drawing K vs H Q E) : vs.length = 2 := by obtain ⟨p, _, _, rfl, _⟩ := h; rfl
theorem txs_get {ls : List (List Nat)} {i : Nat} {x : V} (h : (txs ls)[i]? = some x) : ∃ l, ls[i]? = some l ∧ x = V.str (S l) := by
  unfold txs at h
  rw [List.getElem?_map] at h
  cases e : ls[i]? with
  | none => rw [e] at h; cases h
  | some l => rw [e] at h; cases h; exact ⟨l, rfl, rfl⟩
theorem rows_cord {y : List Nat} {ws : List (List Nat)} {os : List (List (Nat × Nat))} {i : Nat} {w : List Nat} (h : ws[i]? = some w) : (rowsOf y ws os)[i]? = some (cordR w) := by
  have hi := (List.getElem?_eq_some_iff.mp h).1
  unfold rowsOf
  rw [List.getElem?_append_left (by rw [List.length_map]; exact hi), List.getElem?_map, h]
  rfl
theorem rows_band {y : List Nat} {ws : List (List Nat)} {os : List (List (Nat × Nat))} {j b : Nat} {o : List (Nat × Nat)} (h1 : os[j]? = some o) (h2 : (bsOf y)[j]? = some b) : (rowsOf y ws os)[ws.length + j]? = some (bandR b o) := by
  unfold rowsOf
  rw [List.getElem?_append_right (by rw [List.length_map]; omega), List.length_map, Nat.add_sub_cancel_left, List.getElem?_zipWith, h1, h2]
theorem Told.at_ {y : List Nat} {ws : List (List Nat)} {os : List (List (Nat × Nat))} (h : Told y ws os) {j : Nat} (hj : j < os.length) : ∃ b o, os[j]? = some o ∧ (bsOf y)[j]? = some b := ⟨(bsOf y)[j]'(by rw [← h.ol]; exact hj), os[j], List.getElem?_eq_getElem hj, List.getElem?_eq_getElem _⟩
theorem dg_lt : ∀ n, n < 30 → ∀ c ∈ dg n, c < 128 := by decide +kernel
theorem stx_lt {p : Nat × Nat} (hp : SmP p) : ∀ c ∈ stx p, c < 128 := fun c hc => by
  unfold stx at hc
  rcases List.mem_append.mp hc with g | g
  · exact dg_lt _ hp.1 c g
  · rcases List.mem_cons.mp g with g | g
    · rw [g]; decide
    · exact dg_lt _ hp.2 c g
def sk (p : Nat × Nat) : Key := Sum.inr (S (stx p))
def kvD (l : List Pr) : List (Key × V) := l.map fun p => (sk p.pair, V.ref p.t)
theorem kvD_keys (l : List Pr) : (kvD l).map (·.1) = ((l.map Pr.pair).map stx).map fun x => Sum.inr (S x) := by unfold kvD; rw [List.map_map, List.map_map, List.map_map]; rfl
theorem sk_inj {p q : Nat × Nat} (hp : SmP p) (hq : SmP q) (h : sk p = sk q) : p = q := stx_inj hp hq (S_inj (Sum.inr.inj h))
theorem kvD_none {l : List Pr} {p : Nat × Nat} (hl : ∀ q ∈ l, SmP q.pair) (hp : SmP p) (h : p ∉ l.map Pr.pair) : valV (kvD l) (sk p) = none := by
  induction l with
  | nil => rfl
  | cons q l ih =>
    show valV ((sk q.pair, V.ref q.t) :: kvD l) (sk p) = none
    rw [valV_neg (fun z => h (by rw [List.map_cons, sk_inj (hl q List.mem_cons_self) hp z]; exact List.mem_cons_self))]
    exact ih (fun r hr => hl r (List.mem_cons_of_mem _ hr)) fun z => h (by rw [List.map_cons]; exact List.mem_cons_of_mem _ z)
theorem kvD_some {l : List Pr} {p : Nat × Nat} (hl : ∀ q ∈ l, SmP q.pair) (hp : SmP p) (h : p ∈ l.map Pr.pair) : ∃ q ∈ l, q.pair = p ∧ valV (kvD l) (sk p) = some (.ref q.t) := by
  induction l with
  | nil => simp at h
  | cons q l ih =>
    by_cases z : q.pair = p
    · refine ⟨q, List.mem_cons_self, z, ?_⟩
      show valV ((sk q.pair, V.ref q.t) :: kvD l) (sk p) = _
      rw [valV_pos (by rw [z])]
    · have h' : p ∈ l.map Pr.pair := by
        rw [List.map_cons] at h
        exact (List.mem_cons.mp h).resolve_left (fun g => z g.symm)
      obtain ⟨r, hr, e1, e2⟩ := ih (fun r hr => hl r (List.mem_cons_of_mem _ hr)) h'
      refine ⟨r, List.mem_cons_of_mem _ hr, e1, ?_⟩
      show valV ((sk q.pair, V.ref q.t) :: kvD l) (sk p) = _
      rw [valV_neg (fun g => z (sk_inj (hl q List.mem_cons_self) hp g))]
      exact e2
theorem sorted_same {a b c : List (List Nat)} (h1 : a.Perm c) (h2 : b.Perm c) (p1 : a.Pairwise fun x y => ¬ y < x) (p2 : b.Pairwise fun x y => ¬ y < x) : a = b :=
  List.Perm.eq_of_pairwise (le := fun x y => ¬ y < x) (fun x y _ _ g1 g2 => List.le_antisymm (show x ≤ y from g1) (show y ≤ x from g2)) p1 p2 (h1.trans h2.symm)
theorem joinc_snoc {c : Nat} {p : List Nat} : ∀ {ps : List (List Nat)}, ps ≠ [] → joinc c (ps ++ [p]) = joinc c ps ++ c :: p
  | [], h => absurd rfl h
  | [q], _ => rfl
  | q :: r :: s, _ => by
    show q ++ c :: joinc c (r :: s ++ [p]) = (q ++ c :: joinc c (r :: s)) ++ c :: p
    rw [joinc_snoc (by simp)]
    simp
theorem bandR_snoc {b : Nat} {ps : List (Nat × Nat)} {p : Nat × Nat} : bandR b (ps ++ [p]) = (((bandR b ps ++ [32]) ++ dg p.1) ++ [46]) ++ dg p.2 := by
  have e : bandP b (ps ++ [p]) = bandP b ps ++ [stx p] := by unfold bandP; simp
  unfold bandR
  rw [e, joinc_snoc (by unfold bandP; simp)]
  unfold stx
  simp
theorem pick_cord (w : List Nat) : atI [V.str (S w), V.str (S [45])] (if decide (w = []) = true then 1 else 0) = some (V.str (S (cordW w))) := by
  unfold cordW
  by_cases h : w = []
  · rw [if_pos (decide_eq_true h), if_pos h]; rfl
  · rw [if_neg (fun z => h (of_decide_eq_true z)), if_neg h]; rfl
structure Asd where
  t : Addr
  y : List Nat
  dr : Addr
  ws : List (List Nat)
  os : List Od
structure AsdOk (H : Hp) (k : Asd) : Prop where
  tp : H k.t = some (.tup [.str (S k.y), .ref k.dr, .str (S (textOf k.y k.ws (ods k.os)))])
  dw : DrAt H k.dr k.ws k.os
  td : Told k.y k.ws (ods k.os)
theorem AsdOk.ts {H H' : Hp} {k : Asd} (h : AsdOk H k) (s : TSame H H') : AsdOk H' k := ⟨s _ _ h.tp, h.dw.ts s, h.td⟩
theorem AsdOk.same {H H' : Hp} {k : Asd} (h : AsdOk H k) (s : Same H H') : AsdOk H' k := h.ts fun c xs e => s _ _ e
def asv (ks : List Asd) : List V := ks.map fun k => V.ref k.t
theorem asv_len (ks : List Asd) : (asv ks).length = ks.length := by unfold asv; rw [List.length_map]
theorem asv_snoc (ks : List Asd) (k : Asd) : asv ks ++ [V.ref k.t] = asv (ks ++ [k]) := by unfold asv; rw [List.map_append]; rfl
theorem odD_ods {os ps : List Od} (h : ods os = ods ps) : os.map odD = ps.map odD := by
  have e : ∀ l : List Od, l.map odD = (ods l).map fun ns => PyData.tuple (ns.map prD) := fun l => by unfold ods; rw [List.map_map]; rfl
  rw [e, e, h]
local macro_rules | `(tactic| walk_at "rd") => `(tactic| repeat (first
  | refine ⟨_, rfl, ?_⟩
  | refine ⟨_, _, rfl, rfl, ?_⟩
  | refine ⟨rfl, ?_⟩
  | refine And.intro (by first | decide | omega | assumption | exact Nat.le_of_ble_eq_true rfl | exact .inl ⟨by decide, by decide⟩ | exact .inr ⟨by decide, by decide⟩ | exact ⟨by decide, by decide⟩ | exact ⟨by omega, by omega⟩) ?_))
local macro_rules | `(tactic| walk_at "wk") => `(tactic| repeat (first
  | refine ⟨_, rfl, ?_⟩
  | refine ⟨_, _, rfl, rfl, ?_⟩
  | refine ⟨_, _, _, rfl, rfl, by first | assumption | omega, by assumption, ?_⟩
  | refine ⟨rfl, ?_⟩
  | refine And.intro (by first | decide | omega | assumption | exact Nat.le_of_ble_eq_true rfl | exact .inl ⟨by decide, by decide⟩ | exact .inr ⟨by decide, by decide⟩ | exact ⟨by decide, by decide⟩ | exact ⟨by omega, by omega⟩) ?_))
local macro_rules | `(tactic| walk_at "bd") => `(tactic| first | assumption | exact len1 _ | exact apl (by walk_at "bd") (by walk_at "bd"))
local macro_rules | `(tactic| walk_at "ln") => `(tactic| repeat (first
  | refine ⟨_, rfl, ?_⟩
  | refine ⟨_, _, rfl, rfl, ?_⟩
  | refine ⟨rfl, ?_⟩
  | refine And.intro (by first | assumption | decide | exact szl (by walk_at "bd") (by walk_at "bd") (by decide) | omega | (simp only [List.length_append, List.length_cons, List.length_nil, List.length_map]; omega)) ?_))
def top (i : Nat) : Stmt := PySem.Challenge.pw_mustmeet_k17_drawings_as_texts.main.body.getD i (.Pass ⟨0, 0, 0, 0⟩)
abbrev s_foreign_sign : Stmt := top 4
abbrev s_bands : Stmt := top 5
abbrev s_strands_in : Stmt := top 7
abbrev s_strand_text : Stmt := top 12
abbrev s_cord_row : Stmt := top 13
abbrev s_band_row : Stmt := top 14
abbrev s_show_drawing : Stmt := top 15
abbrev s_read_cord : Stmt := top 16
abbrev s_read_words : Stmt := top 17
abbrev s_read_order : Stmt := top 18
abbrev s_read_drawing : Stmt := top 19
abbrev s_Lbox : Stmt := top 21
abbrev s_Ltake : Stmt := top 22
abbrev s_Lother : Stmt := top 23
abbrev s_Lyard : Stmt := top 24
abbrev s_Lword : Stmt := top 25
abbrev s_Lorder : Stmt := top 26
abbrev s_Lbands : Stmt := top 27
abbrev s_Ldrawing : Stmt := top 28
abbrev s_Lwords : Stmt := top 29
abbrev s_Ltext : Stmt := top 30
abbrev s_law : Stmt := top 31
structure FunAt (K : PySem.W.Frag) (mg : Str → Option Value) (x : Str) (st : Stmt) (ps : List Str) (f : Addr) (fd : FuncData) : Prop where
  fn : Fun K x x st f fd
  mg : mg x = some (.ref f)
  bd : Binds K fd ps []
structure Txt (K : PySem.W.Frag) (mg : Str → Option Value) (f0 f1 f2 f3 f4 f5 f6 f7 f8 f9 f10 f11 f12 f13 f14 f15 f16 f17 f18 f19 f20 f21 : Addr) (d0 d1 d2 d3 d4 d5 d6 d7 d8 d9 d10 d11 d12 d13 d14 d15 d16 d17 d18 d19 d20 d21 : FuncData) : Prop where
  F0 : FunAt K mg "foreign_sign" s_foreign_sign ["yard", "text"] f0 d0
  F1 : FunAt K mg "bands" s_bands ["yard"] f1 d1
  F2 : FunAt K mg "strands_in" s_strands_in ["words", "band"] f2 d2
  F3 : FunAt K mg "strand_text" s_strand_text ["strand"] f3 d3
  F4 : FunAt K mg "cord_row" s_cord_row ["word"] f4 d4
  F5 : FunAt K mg "band_row" s_band_row ["band", "order"] f5 d5
  F6 : FunAt K mg "show_drawing" s_show_drawing ["yard", "drawing"] f6 d6
  F7 : FunAt K mg "read_cord" s_read_cord ["yard", "row"] f7 d7
  F8 : FunAt K mg "read_words" s_read_words ["yard", "rows"] f8 d8
  F9 : FunAt K mg "read_order" s_read_order ["words", "band", "row"] f9 d9
  F10 : FunAt K mg "read_drawing" s_read_drawing ["yard", "text"] f10 d10
  F11 : FunAt K mg "_law_box" s_Lbox ["_law_script", "_law_k"] f11 d11
  F12 : FunAt K mg "_law_take" s_Ltake ["_law_box_here", "_law_many"] f12 d12
  F13 : FunAt K mg "_law_other" s_Lother ["_law_letter"] f13 d13
  F14 : FunAt K mg "_law_yard" s_Lyard ["_law_box_here", "_law_few", "_law_top"] f14 d14
  F15 : FunAt K mg "_law_word" s_Lword ["_law_box_here", "_law_yard_here", "_law_top"] f15 d15
  F16 : FunAt K mg "_law_order" s_Lorder ["_law_box_here", "_law_things"] f16 d16
  F17 : FunAt K mg "_law_bands" s_Lbands ["_law_yard_here"] f17 d17
  F18 : FunAt K mg "_law_drawing" s_Ldrawing ["_law_box_here", "_law_yard_here", "_law_words_here"] f18 d18
  F19 : FunAt K mg "_law_words" s_Lwords ["_law_box_here", "_law_yard_here"] f19 d19
  F20 : FunAt K mg "_law_text" s_Ltext ["_law_yard_here", "_law_drawing_here"] f20 d20
  F21 : FunAt K mg "law" s_law ["_law_script"] f21 d21
  z_enumerate : mg "enumerate" = none
  z_int : mg "int" = none
  z_len : mg "len" = none
  z_list : mg "list" = none
  z_min : mg "min" = none
  z_range : mg "range" = none
  z_repr : mg "repr" = none
  z_sorted : mg "sorted" = none
  z_str : mg "str" = none
  z_tuple : mg "tuple" = none
  z_zip : mg "zip" = none
  g_CORD : ∃ t, mg "CORD" = some (.str (S [99, 111, 114, 100]) t)
  g_NO_LETTERS : ∃ t, mg "NO_LETTERS" = some (.str (S [45]) t)
  g_BAND : ∃ t, mg "BAND" = some (.str (S [98, 97, 110, 100]) t)
theorem sc_foreign_sign : FnScope ["yard", "text", "at", "sign"] ["yard", "text"] (defScope s_foreign_sign) := ⟨rfl, rfl, rfl, by decide +kernel, rfl, by decide +kernel, by decide +kernel⟩
theorem sc_bands : FnScope ["yard"] ["yard"] (defScope s_bands) := ⟨rfl, rfl, rfl, by decide +kernel, rfl, by decide +kernel, by decide +kernel⟩
theorem sc_strands_in : FnScope ["words", "band", "found", "cord", "word", "place", "letter"] ["words", "band"] (defScope s_strands_in) := ⟨rfl, rfl, rfl, by decide +kernel, rfl, by decide +kernel, by decide +kernel⟩
theorem sc_strand_text : FnScope ["strand", "cord", "place"] ["strand"] (defScope s_strand_text) := ⟨rfl, rfl, rfl, by decide +kernel, rfl, by decide +kernel, by decide +kernel⟩
theorem sc_cord_row : FnScope ["word"] ["word"] (defScope s_cord_row) := ⟨rfl, rfl, rfl, by decide +kernel, rfl, by decide +kernel, by decide +kernel⟩
theorem sc_band_row : FnScope ["band", "order"] ["band", "order"] (defScope s_band_row) := ⟨rfl, rfl, rfl, by decide +kernel, rfl, by decide +kernel, by decide +kernel⟩
theorem sc_show_drawing : FnScope ["yard", "drawing", "rows", "band", "order"] ["yard", "drawing"] (defScope s_show_drawing) := ⟨rfl, rfl, rfl, by decide +kernel, rfl, by decide +kernel, by decide +kernel⟩
theorem sc_read_cord : FnScope ["yard", "row", "parts"] ["yard", "row"] (defScope s_read_cord) := ⟨rfl, rfl, rfl, by decide +kernel, rfl, by decide +kernel, by decide +kernel⟩
theorem sc_read_words : FnScope ["yard", "rows", "words", "row", "word"] ["yard", "rows"] (defScope s_read_words) := ⟨rfl, rfl, rfl, by decide +kernel, rfl, by decide +kernel, by decide +kernel⟩
theorem sc_read_order : FnScope ["words", "band", "row", "strands", "strand", "parts"] ["words", "band", "row"] (defScope s_read_order) := ⟨rfl, rfl, rfl, by decide +kernel, rfl, by decide +kernel, by decide +kernel⟩
theorem sc_read_drawing : FnScope ["yard", "text", "rows", "words", "orders", "row", "band", "order"] ["yard", "text"] (defScope s_read_drawing) := ⟨rfl, rfl, rfl, by decide +kernel, rfl, by decide +kernel, by decide +kernel⟩
theorem sc_Lbox : FnScope ["_law_script", "_law_k", "_law_cell", "_law_seed"] ["_law_script", "_law_k"] (defScope s_Lbox) := ⟨rfl, rfl, rfl, by decide +kernel, rfl, by decide +kernel, by decide +kernel⟩
theorem sc_Ltake : FnScope ["_law_box_here", "_law_many", "_law_digit", "_law_one"] ["_law_box_here", "_law_many"] (defScope s_Ltake) := ⟨rfl, rfl, rfl, by decide +kernel, rfl, by decide +kernel, by decide +kernel⟩
theorem sc_Lother : FnScope ["_law_letter", "_law_small", "_law_capital"] ["_law_letter"] (defScope s_Lother) := ⟨rfl, rfl, rfl, by decide +kernel, rfl, by decide +kernel, by decide +kernel⟩
theorem sc_Lyard : FnScope ["_law_box_here", "_law_few", "_law_top", "_law_left", "_law_ends", "_law_k", "_law_letter", "_law_found"] ["_law_box_here", "_law_few", "_law_top"] (defScope s_Lyard) := ⟨rfl, rfl, rfl, by decide +kernel, rfl, by decide +kernel, by decide +kernel⟩
theorem sc_Lword : FnScope ["_law_box_here", "_law_yard_here", "_law_top"] ["_law_box_here", "_law_yard_here", "_law_top"] (defScope s_Lword) := ⟨rfl, rfl, rfl, by decide +kernel, rfl, by decide +kernel, by decide +kernel⟩
theorem sc_Lorder : FnScope ["_law_box_here", "_law_things", "_law_left", "_law_found"] ["_law_box_here", "_law_things"] (defScope s_Lorder) := ⟨rfl, rfl, rfl, by decide +kernel, rfl, by decide +kernel, by decide +kernel⟩
theorem sc_Lbands : FnScope ["_law_yard_here"] ["_law_yard_here"] (defScope s_Lbands) := ⟨rfl, rfl, rfl, by decide +kernel, rfl, by decide +kernel, by decide +kernel⟩
theorem sc_Ldrawing : FnScope ["_law_box_here", "_law_yard_here", "_law_words_here", "_law_orders", "_law_band", "_law_some", "_law_c", "_law_word_here"] ["_law_box_here", "_law_yard_here", "_law_words_here"] (defScope s_Ldrawing) := ⟨rfl, rfl, rfl, by decide +kernel, rfl, by decide +kernel, by decide +kernel⟩
theorem sc_Lwords : FnScope ["_law_box_here", "_law_yard_here", "_law_left", "_law_found", "_law_k", "_law_word_here"] ["_law_box_here", "_law_yard_here"] (defScope s_Lwords) := ⟨rfl, rfl, rfl, by decide +kernel, rfl, by decide +kernel, by decide +kernel⟩
theorem sc_Ltext : FnScope ["_law_yard_here", "_law_drawing_here", "_law_words_here", "_law_orders", "_law_rows", "_law_word_here", "_law_band", "_law_order_here", "_law_row", "_law_c", "_law_i"] ["_law_yard_here", "_law_drawing_here"] (defScope s_Ltext) := ⟨rfl, rfl, rfl, by decide +kernel, rfl, by decide +kernel, by decide +kernel⟩
theorem sc_law : FnScope ["_law_script", "_law_asked", "_law_k", "_law_box_here", "_law_yard_here", "_law_drawing_here", "_law_due"] ["_law_script"] (defScope s_law) := ⟨rfl, rfl, rfl, by decide +kernel, rfl, by decide +kernel, by decide +kernel⟩
section
variable {P : Program} {w : World} {K : PySem.W.Frag} {mg : Str → Option Value} {base : Heap} {f0 f1 f2 f3 f4 f5 f6 f7 f8 f9 f10 f11 f12 f13 f14 f15 f16 f17 f18 f19 f20 f21 : Addr} {d0 d1 d2 d3 d4 d5 d6 d7 d8 d9 d10 d11 d12 d13 d14 d15 d16 d17 d18 d19 d20 d21 : FuncData}
/-- names: 0 strand, 1 cord, 2 place -/
theorem ok_strand_text (T : Txt K mg f0 f1 f2 f3 f4 f5 f6 f7 f8 f9 f10 f11 f12 f13 f14 f15 f16 f17 f18 f19 f20 f21 d0 d1 d2 d3 d4 d5 d6 d7 d8 d9 d10 d11 d12 d13 d14 d15 d16 d17 d18 d19 d20 d21) : FnOk P w K mg base CX0 1 f3 d3 ["strand"] (sp_strand_text K) := by
  refine T.F3.fn.ok sc_strand_text (fun vs H Q E h => len_strand_text h) (fun cdv A outer s H vs Q E hr h => ?_)
  refine ⟨_, (pss_cons (ps_set (i := 1) sc_strand_text.nd rfl (Or.inl rfl) (pe_ix (ix_tupK K rfl) (pv 0) pe_int (fun _ _ => rfl)))
      (pss_cons (ps_set (i := 2) sc_strand_text.nd rfl (Or.inl rfl) (pe_ix (ix_tupK K rfl) (pv 0) pe_int (fun _ _ => rfl)))
      (pss_one (ps_ret (pe_fmt2 46 (by decide +kernel) (pv 1) (pv 2)))))), ?_⟩
  obtain ⟨p, rfl, hp, hsm, q⟩ := h
  obtain ⟨h1, h2⟩ := hsm
  have d1 := (dg_all _ h1).2.2.2
  have d2 := (dg_all _ h2).2.2.2
  have h1' : p.c < 30 := h1
  have h2' : p.i < 30 := h2
  have d1' : (dg p.c).length ≤ 3 := d1
  have d2' : (dg p.i).length ≤ 3 := d2
  refine ⟨_, rfl, p.t, _, 0, _, rfl, rfl, SqT.of hp.tp, rfl, ?_⟩
  refine ⟨_, rfl, p.t, _, 1, _, rfl, rfl, SqT.of hp.tp, rfl, ?_⟩
  exact ⟨_, rfl, p.c, rfl, by omega, by omega, _, rfl, p.i, rfl, by omega, by omega, q⟩
/-- names: 0 _law_yard_here -/
theorem ok_Lbands (T : Txt K mg f0 f1 f2 f3 f4 f5 f6 f7 f8 f9 f10 f11 f12 f13 f14 f15 f16 f17 f18 f19 f20 f21 d0 d1 d2 d3 d4 d5 d6 d7 d8 d9 d10 d11 d12 d13 d14 d15 d16 d17 d18 d19 d20 d21) : FnOk P w K mg base CX0 1 f17 d17 ["_law_yard_here"] (sp_Lbands K) := by
  refine T.F17.fn.ok sc_Lbands (fun vs H Q E h => len_Lbands h) (fun cdv A outer s H vs Q E hr h => ?_)
  refine ⟨_, (pss_one (ps_ret (pe_callB (call_sortedK K rfl) rfl T.z_sorted boot_sorted (pa_cons (pe_compB ["_law_letter"] [none] (pi_str (pv 0)) trivial (fun _ _ _ _ => (pg_name (i := 0) (by decide +kernel : List.Nodup (["_law_letter"] : List Str)) rfl (Or.inl rfl))) (fun _ _ _ _ => (pf_one (pt_cmpR op_inS (pv 0) (pe_S [97, 98, 99, 100, 101, 102, 103, 104, 105, 106, 107, 108, 109, 110, 111, 112, 113, 114, 115, 116, 117, 118, 119, 120, 121, 122] (by decide +kernel)) (by with_unfolding_all rfl)))) (fun _ _ _ _ => (pv 0))) pa_nil)))), ?_⟩
  obtain ⟨y, rfl, hz, q⟩ := h
  have hs : (1000 : Nat) < sizeLine := by decide
  refine ⟨_, rfl, y, rfl, ?_⟩
  refine comp_fix (xs := sgs y) (fun i acc H' => Same H H' ∧ acc = sgs ((y.take i).filter fun c => decide (c ∈ smalls))) (by rw [sgs_len]; omega) ⟨Same.refl H, rfl⟩ ?_ ?_
  · rintro i x acc H1 Nx hi hx hal ⟨s1, rfl⟩ nx
    obtain ⟨c, hc, rfl⟩ := sgs_get hx
    have e := filter_take (p := fun c => decide (c ∈ smalls)) hc
    refine ⟨trivial, ?_⟩
    refine ⟨_, rfl, c, smalls, rfl, rfl, _, rfl, ?_⟩
    refine ite2 (fun z => ?_) (fun z => ?_)
    · rw [if_pos z] at e
      exact ⟨_, rfl, nx _ _ (by simpa using hal) ⟨s1, by rw [e, ← sgs_snoc]⟩⟩
    · rw [if_neg z, List.append_nil] at e
      exact nx _ _ (Nat.le_succ_of_le hal) ⟨s1, by rw [e]⟩
  · rintro acc H1 D hal ⟨s1, rfl⟩ hD
    rw [sgs_take, sgs_lists]
    have hfl : (y.filter fun c => decide (c ∈ smalls)).length ≤ y.length := List.length_filter_le _ _
    refine ⟨D, (y.filter fun c => decide (c ∈ smalls)).map fun c => [c], rfl, SqL.of upd_same, by rw [List.length_map]; omega, fun p ls hp hpm hpw => ?_⟩
    obtain ⟨l', rfl, pl⟩ := ones_of hpm
    refine q p l' _ (Same.free (Same.trans s1 (Same.upd hD)) hp) (by rw [upd_same, ← sgs_lists]) pl (ones_pw hpw) ((s1.trans (Same.upd hD)).trans (Same.upd hp))
/-- names: 0 _law_script, 1 _law_k, 2 _law_cell, 3 _law_seed -/
theorem ok_Lbox (T : Txt K mg f0 f1 f2 f3 f4 f5 f6 f7 f8 f9 f10 f11 f12 f13 f14 f15 f16 f17 f18 f19 f20 f21 d0 d1 d2 d3 d4 d5 d6 d7 d8 d9 d10 d11 d12 d13 d14 d15 d16 d17 d18 d19 d20 d21) : FnOk P w K mg base CX0 1 f11 d11 ["_law_script", "_law_k"] (sp_Lbox K) := by
  refine T.F11.fn.ok sc_Lbox (fun vs H Q E h => len_Lbox h) (fun cdv A outer s H vs Q E hr h => ?_)
  refine ⟨_, (pss_cons (ps_set (i := 2) sc_Lbox.nd rfl (Or.inl rfl) (pe_op op_add (pe_op op_mul pe_int (pv 1)) pe_int))
      (pss_cons (ps_if (pt_cmpR op_lt (pv 1) (pe_callB (call_len_seqK K rfl) rfl T.z_len PySem.boot_len (pa_cons (pv 0) pa_nil)) (nomark _)) (pss_one (ps_set (i := 2) sc_Lbox.nd rfl (Or.inl rfl) (pe_ix (ix_listK K rfl) (pv 0) (pv 1) (fun _ _ => rfl)))) (pss_one (ps_if (pt_cmpR op_gt (pe_callB (call_len_seqK K rfl) rfl T.z_len PySem.boot_len (pa_cons (pv 0) pa_nil)) pe_int (nomark _)) (pss_one (ps_set (i := 2) sc_Lbox.nd rfl (Or.inl rfl) (pe_op op_add (pv 2) (pe_op op_mul (pe_op op_mod (pe_ix (ix_listK K rfl) (pv 0) (pe_op op_mod (pv 1) (pe_callB (call_len_seqK K rfl) rfl T.z_len PySem.boot_len (pa_cons (pv 0) pa_nil))) (fun _ _ => rfl)) pe_int) pe_int)))) pss_nil)))
      (pss_cons (ps_set (i := 3) sc_Lbox.nd rfl (Or.inl rfl) (pe_op op_mod (pe_op op_pow (pe_op op_add (pe_op op_add (pe_op op_mod (pv 2) pe_int) (pe_op op_mul pe_int (pv 1))) pe_int) pe_int) pe_int))
      (pss_one (ps_ret (pe_lst (pa_cons (pe_ix (ix_listK K rfl) (pe_lst (pa_cons pe_int (pa_cons (pv 2) pa_nil))) (pe_callTy call_int1 rfl T.z_int boot_int (pa_cons (pe_cmpR op_ge (pv 2) (pe_op op_pow pe_int pe_int) (nomark _)) pa_nil)) (fun _ _ => rfl)) (pa_cons (pe_op op_add (pe_op op_mod (pv 3) pe_int) pe_int) pa_nil)))))))), ?_⟩
  obtain ⟨a, ns, k, rfl, hS, hk, q⟩ := h
  have hp : (0 : Int) < 2147483629 := by decide
  walk_at "rd"
  refine ⟨a, _, rfl, .inl hS, ?_⟩
  walk_at "rd"
  refine ite2 (fun e => ?_) (fun e => ?_)
  · have e' : (k : Int) < ((ns.map V.int).length : Nat) := of_decide_eq_true e
    rw [List.length_map] at e'
    obtain ⟨z, hz⟩ := ints_at (ns := ns) (i := k) (by omega)
    walk_at "rd"
    refine ⟨a, _, k, _, rfl, rfl, hS, atI_nat hz, ?_⟩
    walk_at "rd"
    refine fun p1 n1 => ?_
    walk_at "rd"
    refine .inr ⟨_, rfl, ?_⟩
    obtain ⟨y, hy⟩ := box_at _ z
    refine ⟨p1, _, _, _, rfl, rfl, SqL.of upd_same, hy, ?_⟩
    walk_at "rd"
    exact fun p2 n2 => q p2 _ (Same.free (Same.upd n1) n2) ⟨_, _, upd_same⟩ ((Same.upd n1).trans (Same.upd n2))
  · walk_at "rd"
    refine ⟨a, _, rfl, .inl hS, ?_⟩
    walk_at "rd"
    refine ite2 (fun e2 => ?_) (fun e2 => ?_)
    · have e' : (0 : Int) < ((ns.map V.int).length : Nat) := of_decide_eq_true e2
      have hl : (0 : Int) < (ns.length : Int) := by rw [List.length_map] at e'; exact e'
      have m1 : 0 ≤ (k : Int) % (ns.length : Int) := Int.emod_nonneg _ (by omega)
      have m2 : (k : Int) % (ns.length : Int) < (ns.length : Int) := Int.emod_lt_of_pos _ hl
      obtain ⟨z, hz⟩ := ints_at (ns := ns) (i := ((k : Int) % (ns.length : Int)).toNat) (by omega)
      have hz' : atI (ns.map V.int) ((k : Int) % ((ns.map V.int).length : Nat)) = some (V.int z) := by
        have := atI_nat hz
        rw [Int.toNat_of_nonneg m1] at this
        rw [List.length_map]
        exact this
      walk_at "rd"
      refine ⟨a, _, rfl, .inl hS, ?_⟩
      walk_at "rd"
      refine ⟨a, _, _, _, rfl, rfl, hS, hz', ?_⟩
      walk_at "rd"
      refine fun p1 n1 => ?_
      walk_at "rd"
      refine .inr ⟨_, rfl, ?_⟩
      obtain ⟨y, hy⟩ := box_at _ _
      refine ⟨p1, _, _, _, rfl, rfl, SqL.of upd_same, hy, ?_⟩
      walk_at "rd"
      exact fun p2 n2 => q p2 _ (Same.free (Same.upd n1) n2) ⟨_, _, upd_same⟩ ((Same.upd n1).trans (Same.upd n2))
    · walk_at "rd"
      refine fun p1 n1 => ?_
      walk_at "rd"
      refine .inr ⟨_, rfl, ?_⟩
      obtain ⟨y, hy⟩ := box_at _ _
      refine ⟨p1, _, _, _, rfl, rfl, SqL.of upd_same, hy, ?_⟩
      walk_at "rd"
      exact fun p2 n2 => q p2 _ (Same.free (Same.upd n1) n2) ⟨_, _, upd_same⟩ ((Same.upd n1).trans (Same.upd n2))
/-- names: 0 _law_box_here, 1 _law_many, 2 _law_digit, 3 _law_one -/
theorem ok_Ltake (T : Txt K mg f0 f1 f2 f3 f4 f5 f6 f7 f8 f9 f10 f11 f12 f13 f14 f15 f16 f17 f18 f19 f20 f21 d0 d1 d2 d3 d4 d5 d6 d7 d8 d9 d10 d11 d12 d13 d14 d15 d16 d17 d18 d19 d20 d21) : FnOk P w K mg base CX0 1 f12 d12 ["_law_box_here", "_law_many"] (sp_Ltake K) := by
  refine T.F12.fn.ok sc_Ltake (fun vs H Q E h => len_Ltake h) (fun cdv A outer s H vs Q E hr h => ?_)
  refine ⟨_, (pss_cons (ps_if (pt_cmpR op_gt (pe_ix (ix_listK K rfl) (pv 0) pe_int (fun _ _ => rfl)) pe_int (nomark _)) (pss_cons (ps_set (i := 2) sc_Ltake.nd rfl (Or.inl rfl) (pe_op op_mod (pe_ix (ix_listK K rfl) (pv 0) pe_int (fun _ _ => rfl)) (pv 1)))
      (pss_cons (ps_asg (pe_op op_fdiv (pe_ix (ix_listK K rfl) (pv 0) pe_int (fun _ _ => rfl)) (pv 1)) (pg_sub (pv 0) pe_int set_list))
      (pss_one (ps_ret (pv 2))))) pss_nil)
      (pss_cons (ps_set (i := 3) sc_Ltake.nd rfl (Or.inl rfl) (pe_op op_mod (pe_op op_mul (pe_ix (ix_listK K rfl) (pv 0) pe_int (fun _ _ => rfl)) pe_int) pe_int))
      (pss_cons (ps_asg (pe_op op_add (pe_op op_mod (pe_op op_add (pe_op op_mul (pv 3) pe_int) pe_int) pe_int) pe_int) (pg_sub (pv 0) pe_int set_list))
      (pss_one (ps_ret (pe_op op_mod (pe_op op_fdiv (pe_op op_add (pe_op op_mul (pv 3) pe_int) (pe_ix (ix_listK K rfl) (pv 0) pe_int (fun _ _ => rfl))) pe_int) (pv 1))))))), ?_⟩
  obtain ⟨b, m, rfl, ⟨x, y, hb⟩, h1, h2, q⟩ := h
  have fin : ∀ (r x' y' : Int), 0 ≤ r → r < m → Q (.int r) (upd H b (.lst [.int x', .int y'])) := fun r x' y' h3 h4 => by
    have e : r = ((r.toNat : Nat) : Int) := by omega
    rw [e]
    exact q r.toNat _ (by omega) ⟨x', y', upd_same⟩ (SameB.upd b H _)
  refine ⟨_, rfl, b, _, 0, _, rfl, rfl, SqL.of hb, rfl, _, _, rfl, rfl, _, rfl, ite2 (fun e => ?_) (fun e => ?_)⟩
  · refine ⟨_, rfl, b, _, 0, _, rfl, rfl, SqL.of hb, rfl, _, rfl, _, _, rfl, rfl, (by omega : 0 < m), ?_⟩
    refine ⟨_, rfl, b, _, 0, _, rfl, rfl, SqL.of hb, rfl, _, rfl, _, _, rfl, rfl, ⟨by omega, by omega⟩, _, rfl, b, _, 0, 0, rfl, rfl, hb, rfl, _, rfl, ?_⟩
    exact fin (x % m) (x / m) y (Int.emod_nonneg _ (by omega)) (Int.emod_lt_of_pos _ (by omega))
  · refine ⟨_, rfl, b, _, 1, _, rfl, rfl, SqL.of hb, rfl, _, _, rfl, rfl, .inr ⟨by decide, by decide⟩, _, _, rfl, rfl, (by decide : (0 : Int) < 2147483647), ?_⟩
    refine ⟨_, rfl, _, _, rfl, rfl, .inr ⟨by decide, by decide⟩, _, _, rfl, rfl, _, _, rfl, rfl, (by decide : (0 : Int) < 2147483629), _, _, rfl, rfl, _, rfl, b, _, 1, 1, rfl, rfl, hb, rfl, ?_⟩
    refine ⟨_, rfl, _, _, rfl, rfl, .inr ⟨by decide, by decide⟩, _, rfl, b, _, 1, _, rfl, rfl, SqL.of upd_same, rfl, _, _, rfl, rfl, _, _, rfl, rfl, ⟨by decide, by decide⟩, _, rfl, _, _, rfl, rfl, (by omega : 0 < m), ?_⟩
    exact fin _ _ _ (Int.emod_nonneg _ (by omega)) (Int.emod_lt_of_pos _ (by omega))
/-- names: 0 _law_letter, 1 _law_small, 2 _law_capital -/
theorem ok_Lother (T : Txt K mg f0 f1 f2 f3 f4 f5 f6 f7 f8 f9 f10 f11 f12 f13 f14 f15 f16 f17 f18 f19 f20 f21 d0 d1 d2 d3 d4 d5 d6 d7 d8 d9 d10 d11 d12 d13 d14 d15 d16 d17 d18 d19 d20 d21) : FnOk P w K mg base CX0 1 f13 d13 ["_law_letter"] (sp_Lother K) := by
  refine T.F13.fn.ok sc_Lother (fun vs H Q E h => len_Lother h) (fun cdv A outer s H vs Q E hr h => ?_)
  refine ⟨_, (pss_cons (ps_set (i := 1) sc_Lother.nd rfl (Or.inl rfl) (pe_S [97, 98, 99, 100, 101, 102, 103, 104, 105, 106, 107, 108, 109, 110, 111, 112, 113, 114, 115, 116, 117, 118, 119, 120, 121, 122] (by decide +kernel)))
      (pss_cons (ps_set (i := 2) sc_Lother.nd rfl (Or.inl rfl) (pe_S [65, 66, 67, 68, 69, 70, 71, 72, 73, 74, 75, 76, 77, 78, 79, 80, 81, 82, 83, 84, 85, 86, 87, 88, 89, 90] (by decide +kernel)))
      (pss_cons (ps_if (pt_cmpR op_inS (pv 0) (pv 1) (by with_unfolding_all rfl)) (pss_one (ps_ret (pe_ix ix_S (pv 2) (pe_bmK K rfl PySem.F.plainAttrs_str PySem.F.slot_str_index PySem.F.type_str_index mt_indexS (pv 1) (pa_cons (pv 0) pa_nil)) (fun _ _ => rfl)))) pss_nil)
      (pss_one (ps_ret (pe_ix ix_S (pv 1) (pe_bmK K rfl PySem.F.plainAttrs_str PySem.F.slot_str_index PySem.F.type_str_index mt_indexS (pv 2) (pa_cons (pv 0) pa_nil)) (fun _ _ => rfl))))))), ?_⟩
  obtain ⟨c, rfl, hc, q⟩ := h
  refine ⟨_, rfl, _, rfl, c, smalls, rfl, rfl, _, rfl, ite2 (fun e => ?_) (fun e => ?_)⟩
  · have hm : c ∈ smalls := of_decide_eq_true e
    exact ⟨_, rfl, _, rfl, rfl, _, rfl, smalls, c, rfl, rfl, hm, caps, _, ctr c, rfl, rfl, by decide, other_small c hm, q⟩
  · have hm : c ∈ caps := hc.resolve_left fun z => e (decide_eq_true z)
    exact ⟨_, rfl, _, rfl, rfl, _, rfl, caps, c, rfl, rfl, hm, smalls, _, ctr c, rfl, rfl, by decide, other_cap c hm, q⟩
/-- names: 0 _law_box_here, 1 _law_few, 2 _law_top, 3 _law_left, 4 _law_ends, 5 _law_k, 6 _law_letter, 7 _law_found -/
theorem ok_Lyard (T : Txt K mg f0 f1 f2 f3 f4 f5 f6 f7 f8 f9 f10 f11 f12 f13 f14 f15 f16 f17 f18 f19 f20 f21 d0 d1 d2 d3 d4 d5 d6 d7 d8 d9 d10 d11 d12 d13 d14 d15 d16 d17 d18 d19 d20 d21) : FnOk P w K mg base CX0 2 f14 d14 ["_law_box_here", "_law_few", "_law_top"] (sp_Lyard K) := by
  have G_Ltake := ok_Ltake (P := P) (w := w) (base := base) T
  have G_Lother := ok_Lother (P := P) (w := w) (base := base) T
  refine T.F14.fn.ok sc_Lyard (fun vs H Q E h => len_Lyard h) (fun cdv A outer s H vs Q E hr h => ?_)
  refine ⟨_, (pss_cons (ps_set (i := 3) sc_Lyard.nd rfl (Or.inl rfl) (pe_callTy (call_listS rfl) rfl T.z_list boot_list (pa_cons (pe_S [97, 98, 99, 100, 101, 102, 103, 104, 105, 106, 107, 108, 109, 110, 111, 112, 113, 114, 115, 116, 117, 118, 119, 120, 121, 122] (by decide +kernel)) pa_nil)))
      (pss_cons (ps_set (i := 4) sc_Lyard.nd rfl (Or.inl rfl) (pe_lst pa_nil))
      (pss_cons (ps_for PassesOwn.never rfl (pi_range1 rfl T.z_range (pa_cons (pe_op op_add (pv 1) (pe_call G_Ltake (hr.mono (by decide)) rfl T.F12.mg T.F12.fn.kp T.F12.bd .nil pass0 (pa_cons (pv 0) (pa_cons (pe_op op_add (pe_op op_sub (pv 2) (pv 1)) pe_int) pa_nil)))) pa_nil)) (pg_name (i := 5) sc_Lyard.nd rfl (Or.inl rfl)) (pss_cons (ps_set (i := 6) sc_Lyard.nd rfl (Or.inl rfl) (pe_bmK K rfl PySem.F.plainAttrs_list PySem.F.slot_list_pop PySem.F.type_list_pop mt_popAt (pv 3) (pa_cons (pe_call G_Ltake (hr.mono (by decide)) rfl T.F12.mg T.F12.fn.kp T.F12.bd .nil pass0 (pa_cons (pv 0) (pa_cons (pe_callB (call_len_seqK K rfl) rfl T.z_len PySem.boot_len (pa_cons (pv 3) pa_nil)) pa_nil))) pa_nil)))
      (pss_one (ps_set (i := 4) sc_Lyard.nd rfl (Or.inl rfl) (pe_op op_cat (pv 4) (pe_lst (pa_cons (pv 6) (pa_cons (pe_call G_Lother (hr.mono (by decide)) rfl T.F13.mg T.F13.fn.kp T.F13.bd .nil pass0 (pa_cons (pv 6) pa_nil)) pa_nil))))))))
      (pss_cons (ps_set (i := 7) sc_Lyard.nd rfl (Or.inl rfl) (pe_S [] (by decide +kernel)))
      (pss_cons (ps_whileN PassesOwn.never (pt_cmpR op_gt (pe_callB (call_len_seqK K rfl) rfl T.z_len PySem.boot_len (pa_cons (pv 4) pa_nil)) pe_int (nomark _)) (pss_one (ps_set (i := 7) sc_Lyard.nd rfl (Or.inl rfl) (pe_op op_addS (pv 7) (pe_bmK K rfl PySem.F.plainAttrs_list PySem.F.slot_list_pop PySem.F.type_list_pop mt_popAt (pv 4) (pa_cons (pe_call G_Ltake (hr.mono (by decide)) rfl T.F12.mg T.F12.fn.kp T.F12.bd .nil pass0 (pa_cons (pv 0) (pa_cons (pe_callB (call_len_seqK K rfl) rfl T.z_len PySem.boot_len (pa_cons (pv 4) pa_nil)) pa_nil))) pa_nil))))))
      (pss_one (ps_ret (pv 7)))))))), ?_⟩
  obtain ⟨b, few, top, rfl, hb, h1, h2, h3, q⟩ := h
  have hs : (100000 : Nat) < sizeLine := by decide
  walk_at "rd"
  intro p1 n1
  walk_at "rd"
  intro p2 n2
  have s1 : Same H (upd (upd H p1 (.lst (sgs smalls))) p2 (.lst [])) := (Same.upd n1).trans (Same.upd n2)
  have bp1 : p1 ≠ b := hb.ne n1
  have np2 : H p2 = none := Same.free (Same.upd n1) n2
  have bp2 : p2 ≠ b := hb.ne np2
  have p12 : p1 ≠ p2 := fun z => by rw [← z, upd_same] at n2; cases n2
  walk_at "rd"
  refine ⟨b, _, rfl, hb.same s1, by omega, by omega, fun n H1 hn hb1 s2 => ?_⟩
  walk_at "rd"
  refine for_range (fun i σ H' => ∃ (pe : Addr) (L E : List Nat) (kv lv : Option V), σ = [some (.ref b), some (.int few), some (.int top), some (.ref p1), some (.ref pe), kv, lv, none] ∧ YdW i L E ∧ H' p1 = some (.lst (sgs L)) ∧ H' pe = some (.lst (sgs E)) ∧ p1 ≠ pe ∧ H pe = none ∧ BoxAt H' b ∧ SameB b H H')
    ⟨p2, smalls, [], none, none, rfl, YdW.start, s2 _ _ (by rw [upd_ne p12, upd_same]; rfl) bp1, s2 _ _ upd_same bp2, p12, np2, hb1, (SameB.of s1).trans s2⟩ ?_ ?_
  · rintro i σ H2 hi ⟨pe, L, E, kv, lv, rfl, yw, hp1, hpe, n1e, npe, hb2, s3⟩
    have hi2 : i < 26 := by simp at hi; omega
    have hll := yw.ll
    have hel := yw.el
    refine ⟨_, rfl, .inl ⟨rfl, _, SqL.of hp1⟩, ?_⟩
    walk_at "rd"
    refine ⟨p1, _, rfl, .inl (SqL.of hp1), b, _, rfl, hb2, by rw [sgs_len]; omega, by rw [sgs_len]; omega, fun r H3 hr3 hb3 s4 => ?_⟩
    rw [sgs_len] at hr3
    have hr4 : r < L.length := by omega
    have hp1' := s4 _ _ hp1 bp1
    have hpe' := s4 _ _ hpe (hb.ne npe)
    refine ⟨p1, _, _, r, _, rfl, rfl, hp1', by omega, by omega, by rw [sgs_len, seqIndex_of (by omega) (by omega), Int.toNat_natCast], sgs_at hr4, ?_⟩
    rw [sgs_erase]
    have hlt : Lt L[r] := .inl (yw.sm _ (List.getElem_mem hr4))
    have hpe2 : (upd H3 p1 (.lst (sgs (L.eraseIdx r)))) pe = some (.lst (sgs E)) := by rw [upd_ne (Ne.symm n1e)]; exact hpe'
    walk_at "rd"
    intro p3 n3
    have e3 : pe ≠ p3 := ne_of_none hpe2 n3
    refine ⟨pe, p3, _, _, rfl, rfl, by rw [upd_ne e3]; exact hpe2, upd_same, by rw [sgs_len]; show E.length + 2 ≤ _; omega, fun p4 n4 => ?_⟩
    have n3' : H p3 = none := ((s3.trans s4).updN n1).none n3 (hb3.updN bp1 |>.ne n3)
    have bx3 := (hb3.updN (o := .lst (sgs (L.eraseIdx r))) bp1).updN (o := .lst [V.str (S [L[r]]), V.str (S [ctr L[r]])]) (hb.ne n3')
    have sx3 := ((s3.trans s4).updN (o := .lst (sgs (L.eraseIdx r))) n1).updN (o := .lst [V.str (S [L[r]]), V.str (S [ctr L[r]])]) n3'
    have n4' : H p4 = none := sx3.none n4 (bx3.ne n4)
    have h14 : p1 ≠ p4 := fun z => by rw [← z] at n4; by_cases z3 : p1 = p3 <;> simp [upd, z3] at n4
    have h13 : p1 ≠ p3 := fun z => by rw [← z, upd_same] at n3; cases n3
    refine ⟨p4, L.eraseIdx r, E ++ [L[r], ctr L[r]], _, _, rfl, yw.turn hi2 hr4, by rw [upd_ne h14, upd_ne h13, upd_same], ?_, h14, n4', bx3.updN (hb.ne n4'), sx3.updN n4'⟩
    rw [upd_same, ← sgs_app]
    rfl
  · rintro σ H2 ⟨pe, L, E, kv, lv, rfl, yw, hp1, hpe, n1e, npe, hb2, s3⟩
    have hel := yw.el
    have hbe := hb.ne npe
    walk_at "rd"
    refine ⟨fun m σ H' => ∃ F E' : List Nat, σ = [some (.ref b), some (.int few), some (.int top), some (.ref p1), some (.ref pe), kv, lv, some (.str (S F))] ∧ m = E'.length ∧ (F ++ E').Perm E ∧ H' pe = some (.lst (sgs E')) ∧ BoxAt H' b ∧ SameB b H H', ⟨_, [], E, rfl, rfl, List.Perm.refl _, hpe, hb2, s3⟩, ?_⟩
    rintro m σ H3 ⟨F, E', rfl, rfl, hpm, hpe3, hb3, s4⟩
    have hlen := hpm.length_eq
    rw [List.length_append] at hlen
    have hn2 : (few : Int) + n ≤ 9 := by omega
    have hE26 : E.length ≤ 100 := by rw [hel]; omega
    walk_at "rd"
    refine ⟨pe, _, rfl, .inl (SqL.of hpe3), _, _, rfl, rfl, _, rfl, ite2 (fun e => ?_) (fun e => ?_)⟩
    · have e' : (0 : Int) < ((sgs E').length : Nat) := of_decide_eq_true e
      rw [sgs_len] at e'
      refine ⟨_, rfl, _, rfl, .inl ⟨rfl, _, SqL.of hpe3⟩, ?_⟩
      walk_at "rd"
      refine ⟨pe, _, rfl, .inl (SqL.of hpe3), b, _, rfl, hb3, by rw [sgs_len]; omega, by rw [sgs_len]; omega, fun r H4 hr4 hb4 s5 => ?_⟩
      rw [sgs_len] at hr4
      have hr5 : r < E'.length := by omega
      refine ⟨pe, _, _, r, _, rfl, rfl, s5 _ _ hpe3 hbe, by omega, by omega, by rw [sgs_len, seqIndex_of (by omega) (by omega), Int.toNat_natCast], sgs_at hr5, ?_⟩
      rw [sgs_erase]
      have hp := erase_perm (List.getElem?_eq_getElem hr5)
      have hpl := hp.length_eq
      rw [List.length_cons] at hpl
      refine ⟨F, _, rfl, rfl, by show F.length + 1 ≤ _; omega, (E'.eraseIdx r).length, by omega, F ++ [E'[r]], E'.eraseIdx r, rfl, rfl, ?_, upd_same, hb4.updN hbe, (s4.trans s5).updN npe⟩
      rw [List.append_assoc]
      exact (List.Perm.append_left F hp).trans hpm
    · have e' : E' = [] := by
        cases E' with
        | nil => rfl
        | cons c r => exact absurd (decide_eq_true (by rw [sgs_len]; show (0 : Int) < ((r.length + 1 : Nat) : Int); omega)) e
      subst e'
      rw [List.append_nil] at hpm
      have hl2 := hpm.length_eq
      refine ⟨_, rfl, q F H3 (yw.yd.perm hpm.symm) ?_ ?_ hb3 s4⟩
      · rw [hl2, hel]; omega
      · rw [hl2, hel]; omega
/-- names: 0 _law_box_here, 1 _law_things, 2 _law_left, 3 _law_found -/
theorem ok_Lorder (T : Txt K mg f0 f1 f2 f3 f4 f5 f6 f7 f8 f9 f10 f11 f12 f13 f14 f15 f16 f17 f18 f19 f20 f21 d0 d1 d2 d3 d4 d5 d6 d7 d8 d9 d10 d11 d12 d13 d14 d15 d16 d17 d18 d19 d20 d21) : FnOk P w K mg base CX0 2 f16 d16 ["_law_box_here", "_law_things"] (sp_Lorder K) := by
  have G_Ltake := ok_Ltake (P := P) (w := w) (base := base) T
  refine T.F16.fn.ok sc_Lorder (fun vs H Q E h => len_Lorder h) (fun cdv A outer s H vs Q E hr h => ?_)
  refine ⟨_, (pss_cons (ps_set (i := 2) sc_Lorder.nd rfl (Or.inl rfl) (pe_callTy (call_listAny K rfl rfl) rfl T.z_list boot_list (pa_cons (pv 1) pa_nil)))
      (pss_cons (ps_set (i := 3) sc_Lorder.nd rfl (Or.inl rfl) (pe_lst pa_nil))
      (pss_cons (ps_whileN PassesOwn.never (pt_cmpR op_gt (pe_callB (call_len_seqK K rfl) rfl T.z_len PySem.boot_len (pa_cons (pv 2) pa_nil)) pe_int (nomark _)) (pss_one (ps_expr (pe_bmK K rfl PySem.F.plainAttrs_list PySem.F.slot_list_append PySem.F.type_list_append mt_append (pv 3) (pa_cons (pe_bmK K rfl PySem.F.plainAttrs_list PySem.F.slot_list_pop PySem.F.type_list_pop mt_popAt (pv 2) (pa_cons (pe_call G_Ltake (hr.mono (by decide)) rfl T.F12.mg T.F12.fn.kp T.F12.bd .nil pass0 (pa_cons (pv 0) (pa_cons (pe_callB (call_len_seqK K rfl) rfl T.z_len PySem.boot_len (pa_cons (pv 2) pa_nil)) pa_nil))) pa_nil)) pa_nil)))))
      (pss_one (ps_ret (pv 3)))))), ?_⟩
  obtain ⟨b, x, ys, rfl, hb, hx, hz, q⟩ := h
  have hs : (100000 : Nat) < sizeLine := by decide
  rcases hx with ⟨p, rfl, hp⟩ | ⟨l, rfl, rfl⟩
  · refine ⟨_, rfl, .inr ⟨p, _, rfl, hp, fun p1 n1 => ?_⟩⟩
    walk_at "wk"
    intro p2 n2
    have s1 : Same H (upd (upd H p1 (.lst ys)) p2 (.lst [])) := (Same.upd n1).trans (Same.upd n2)
    have bp1 : p1 ≠ b := hb.ne n1
    have np2 : H p2 = none := Same.free (Same.upd n1) n2
    have bp2 : p2 ≠ b := hb.ne np2
    have p12 : p1 ≠ p2 := fun z => by rw [← z, upd_same] at n2; cases n2
    refine ⟨fun m σ H' => ∃ F E' : List V, σ = [some (.ref b), some (.ref p), some (.ref p1), some (.ref p2)] ∧ m = E'.length ∧ (F ++ E').Perm ys ∧ H' p1 = some (.lst E') ∧ H' p2 = some (.lst F) ∧ BoxAt H' b ∧ SameB b H H', ⟨_, [], ys, rfl, rfl, List.Perm.refl _, by rw [upd_ne p12, upd_same], upd_same, hb.same s1, SameB.of s1⟩, ?_⟩
    rintro m σ H3 ⟨F, E', rfl, rfl, hpm, hp1, hp2, hb3, s4⟩
    have hlen := hpm.length_eq
    rw [List.length_append] at hlen
    walk_at "wk"
    refine ⟨p1, _, rfl, .inl (SqL.of hp1), _, _, rfl, rfl, _, rfl, ite2 (fun e => ?_) (fun e => ?_)⟩
    · have e' : (0 : Int) < (E'.length : Nat) := of_decide_eq_true e
      refine ⟨_, rfl, .inl ⟨rfl, _, SqL.of hp2⟩, _, rfl, .inl ⟨rfl, _, SqL.of hp1⟩, ?_⟩
      walk_at "wk"
      refine ⟨p1, _, rfl, .inl (SqL.of hp1), b, _, rfl, hb3, by omega, by omega, fun r H4 hr4 hb4 s5 => ?_⟩
      have hr5 : r < E'.length := by omega
      refine ⟨p1, _, _, r, _, rfl, rfl, s5 _ _ hp1 bp1, by omega, by omega, by rw [seqIndex_of (by omega) (by omega), Int.toNat_natCast], List.getElem?_eq_getElem hr5, ?_⟩
      have hpe := erase_perm (List.getElem?_eq_getElem hr5)
      have hpl := hpe.length_eq
      rw [List.length_cons] at hpl
      refine ⟨p2, _, _, rfl, rfl, by rw [upd_ne (Ne.symm p12)]; exact s5 _ _ hp2 bp2, by omega, ?_⟩
      refine ⟨(E'.eraseIdx r).length, by omega, F ++ [E'[r]], E'.eraseIdx r, rfl, rfl, ?_, by rw [upd_ne p12, upd_same], upd_same, (hb4.updN bp1).updN bp2, ((s4.trans s5).updN n1).updN np2⟩
      rw [List.append_assoc]
      exact (List.Perm.append_left F hpe).trans hpm
    · have e' : E' = [] := by
        cases E' with
        | nil => rfl
        | cons c r => exact absurd (decide_eq_true (by show (0 : Int) < ((r.length + 1 : Nat) : Int); omega)) e
      subst e'
      rw [List.append_nil] at hpm
      exact ⟨_, rfl, q p2 F H3 np2 bp2 hp2 hpm hb3 s4⟩
  · rw [sgs_len] at hz
    refine ⟨_, rfl, .inl ⟨l, rfl, by omega, fun p1 n1 => ?_⟩⟩
    rw [← sgs_len l] at hz
    generalize sgs l = ys at *
    walk_at "wk"
    intro p2 n2
    have s1 : Same H (upd (upd H p1 (.lst ys)) p2 (.lst [])) := (Same.upd n1).trans (Same.upd n2)
    have bp1 : p1 ≠ b := hb.ne n1
    have np2 : H p2 = none := Same.free (Same.upd n1) n2
    have bp2 : p2 ≠ b := hb.ne np2
    have p12 : p1 ≠ p2 := fun z => by rw [← z, upd_same] at n2; cases n2
    refine ⟨fun m σ H' => ∃ F E' : List V, σ = [some (.ref b), some (.str (S l)), some (.ref p1), some (.ref p2)] ∧ m = E'.length ∧ (F ++ E').Perm ys ∧ H' p1 = some (.lst E') ∧ H' p2 = some (.lst F) ∧ BoxAt H' b ∧ SameB b H H', ⟨_, [], ys, rfl, rfl, List.Perm.refl _, by rw [upd_ne p12, upd_same], upd_same, hb.same s1, SameB.of s1⟩, ?_⟩
    rintro m σ H3 ⟨F, E', rfl, rfl, hpm, hp1, hp2, hb3, s4⟩
    have hlen := hpm.length_eq
    rw [List.length_append] at hlen
    walk_at "wk"
    refine ⟨p1, _, rfl, .inl (SqL.of hp1), _, _, rfl, rfl, _, rfl, ite2 (fun e => ?_) (fun e => ?_)⟩
    · have e' : (0 : Int) < (E'.length : Nat) := of_decide_eq_true e
      refine ⟨_, rfl, .inl ⟨rfl, _, SqL.of hp2⟩, _, rfl, .inl ⟨rfl, _, SqL.of hp1⟩, ?_⟩
      walk_at "wk"
      refine ⟨p1, _, rfl, .inl (SqL.of hp1), b, _, rfl, hb3, by omega, by omega, fun r H4 hr4 hb4 s5 => ?_⟩
      have hr5 : r < E'.length := by omega
      refine ⟨p1, _, _, r, _, rfl, rfl, s5 _ _ hp1 bp1, by omega, by omega, by rw [seqIndex_of (by omega) (by omega), Int.toNat_natCast], List.getElem?_eq_getElem hr5, ?_⟩
      have hpe := erase_perm (List.getElem?_eq_getElem hr5)
      have hpl := hpe.length_eq
      rw [List.length_cons] at hpl
      refine ⟨p2, _, _, rfl, rfl, by rw [upd_ne (Ne.symm p12)]; exact s5 _ _ hp2 bp2, by omega, ?_⟩
      refine ⟨(E'.eraseIdx r).length, by omega, F ++ [E'[r]], E'.eraseIdx r, rfl, rfl, ?_, by rw [upd_ne p12, upd_same], upd_same, (hb4.updN bp1).updN bp2, ((s4.trans s5).updN n1).updN np2⟩
      rw [List.append_assoc]
      exact (List.Perm.append_left F hpe).trans hpm
    · have e' : E' = [] := by
        cases E' with
        | nil => rfl
        | cons c r => exact absurd (decide_eq_true (by show (0 : Int) < ((r.length + 1 : Nat) : Int); omega)) e
      subst e'
      rw [List.append_nil] at hpm
      exact ⟨_, rfl, q p2 F H3 np2 bp2 hp2 hpm hb3 s4⟩
/-- names: 0 _law_box_here, 1 _law_yard_here, 2 _law_words_here, 3 _law_orders, 4 _law_band, 5 _law_some, 6 _law_c, 7 _law_word_here -/
theorem ok_Ldrawing (T : Txt K mg f0 f1 f2 f3 f4 f5 f6 f7 f8 f9 f10 f11 f12 f13 f14 f15 f16 f17 f18 f19 f20 f21 d0 d1 d2 d3 d4 d5 d6 d7 d8 d9 d10 d11 d12 d13 d14 d15 d16 d17 d18 d19 d20 d21) : FnOk P w K mg base CX0 3 f18 d18 ["_law_box_here", "_law_yard_here", "_law_words_here"] (sp_Ldrawing K) := by
  have G_Lbands := ok_Lbands (P := P) (w := w) (base := base) T
  have G_Lother := ok_Lother (P := P) (w := w) (base := base) T
  have G_Lorder := ok_Lorder (P := P) (w := w) (base := base) T
  refine T.F18.fn.ok sc_Ldrawing (fun vs H Q E h => len_Ldrawing h) (fun cdv A outer s H vs Q E hr h => ?_)
  refine ⟨_, (pss_cons (ps_set (i := 3) sc_Ldrawing.nd rfl (Or.inl rfl) (pe_lst pa_nil))
      (pss_cons (ps_for PassesOwn.never rfl (pi_listK K rfl (pe_call G_Lbands (hr.mono (by decide)) rfl T.F17.mg T.F17.fn.kp T.F17.bd .nil pass0 (pa_cons (pv 1) pa_nil))) (pg_name (i := 4) sc_Ldrawing.nd rfl (Or.inr rfl)) (pss_cons (ps_set (i := 5) sc_Ldrawing.nd rfl (Or.inl rfl) (pe_lst pa_nil))
      (pss_cons (ps_for PassesOwn.never rfl (pi_enumT K rfl rfl T.z_enumerate (pa_cons (pv 2) pa_nil)) (pg_tupK (n := 2) K rfl rfl (pgs_cons (pg_name (i := 6) sc_Ldrawing.nd rfl (Or.inr rfl)) (pgs_cons (pg_name (i := 7) sc_Ldrawing.nd rfl (Or.inl rfl)) pgs_nil))) (pss_one (ps_expr (pe_bmK K rfl PySem.F.plainAttrs_list PySem.F.slot_list_extend PySem.F.type_list_extend mt_extend (pv 5) (pa_cons (pe_compB ["_law_i", "_law_letter", "_law_c", "_law_band"] [none, none, some 6, some 4] (pi_enumS rfl T.z_enumerate (pa_cons (pv 7) pa_nil)) ⟨⟨rfl, rfl, by first | exact .inl rfl | exact .inr rfl⟩, ⟨⟨rfl, rfl, by first | exact .inl rfl | exact .inr rfl⟩, trivial⟩⟩ (fun _ _ _ _ => (pg_tupK (n := 2) K rfl rfl (pgs_cons (pg_name (i := 0) (by decide +kernel : List.Nodup (["_law_i", "_law_letter", "_law_c", "_law_band"] : List Str)) rfl (Or.inl rfl)) (pgs_cons (pg_name (i := 1) (by decide +kernel : List.Nodup (["_law_i", "_law_letter", "_law_c", "_law_band"] : List Str)) rfl (Or.inl rfl)) pgs_nil)))) (fun _ _ _ _ => (pf_one (pt_cmpR (op_inK K rfl) (pv 1) (pe_tup (pa_cons (pv 3) (pa_cons (pe_call G_Lother (hr.mono (by decide)) rfl T.F13.mg T.F13.fn.kp T.F13.bd .nil pass0 (pa_cons (pv 3) pa_nil)) pa_nil))) (by with_unfolding_all rfl)))) (fun _ _ _ _ => (pe_tup (pa_cons (pv 2) (pa_cons (pv 0) pa_nil))))) pa_nil)))))
      (pss_one (ps_expr (pe_bmK K rfl PySem.F.plainAttrs_list PySem.F.slot_list_append PySem.F.type_list_append mt_append (pv 3) (pa_cons (pe_callTy (call_tuple_ofK K rfl) rfl T.z_tuple boot_tuple (pa_cons (pe_call G_Lorder (hr.mono (by decide)) rfl T.F16.mg T.F16.fn.kp T.F16.bd .nil pass0 (pa_cons (pv 0) (pa_cons (pv 5) pa_nil))) pa_nil)) pa_nil)))))))
      (pss_one (ps_ret (pe_tup (pa_cons (pe_callTy (call_tuple_ofK K rfl) rfl T.z_tuple boot_tuple (pa_cons (pv 2) pa_nil)) (pa_cons (pe_callTy (call_tuple_ofK K rfl) rfl T.z_tuple boot_tuple (pa_cons (pv 3) pa_nil)) pa_nil))))))), ?_⟩
  obtain ⟨b, y, wt, ws, rfl, hb, hy, hz, hwb, hwt, hw, q⟩ := h
  have hs : (100000 : Nat) < sizeLine := by decide
  have hwf := hw.few
  walk_at "wk"
  intro p1 n1
  have bp1 : p1 ≠ b := hb.ne n1
  have h1w : p1 ≠ wt := Ne.symm (ne_of_none hwt n1)
  refine ⟨_, rfl, y, rfl, by omega, fun p2 l2 H1 n2 hp2 hl2 hw2 s1 => ?_⟩
  rw [smalls_low hy.lt] at hl2
  have el := bsOf_eq hl2 hw2
  subst el
  have n20 : H p2 = none := Same.free (Same.upd n1) n2
  have bp2 : p2 ≠ b := hb.ne n20
  have p12 : p1 ≠ p2 := fun z => by rw [← z, upd_same] at n2; cases n2
  have s01 : Same H H1 := (Same.upd n1).trans s1
  have hp1 : H1 p1 = some (.lst []) := s1 _ _ upd_same
  have hbl := bsOf_len hy
  refine ⟨p2, rfl, ⟨_, SqL.of hp2⟩, ?_⟩
  refine for_list (K := K) (a := p2) (xs := sgs (bsOf y)) (fun i σ H' => ∃ (os : List Od) (bv sv cv wv : Option V), σ = [some (.ref b), some (.str (S y)), some (.ref wt), some (.ref p1), bv, sv, cv, wv] ∧ H' p1 = some (.lst (odv os)) ∧ H' p2 = some (.lst (sgs (bsOf y))) ∧ os.length = i ∧ (∀ o ∈ os, OdOk H' o) ∧ (∀ (j : Nat) (o : Od) (c : Nat), os[j]? = some o → (bsOf y)[j]? = some c → (o.ps.map Pr.pair).Perm (strAll c ws ws.length)) ∧ BoxAt H' b ∧ SameB b H H')
    ⟨[], none, none, none, none, rfl, hp1, hp2, rfl, fun _ h => absurd h List.not_mem_nil, fun j o c h => by simp at h, hb.same s01, SameB.of s01⟩ (fun i σ H' _ ⟨_, _, _, _, _, _, _, h, _⟩ => SqL.of h) ?_ ?_
  · rintro i x σ H2 hx ⟨os, bv, sv, cv, wv, rfl, hp1, hp2, hol, hod, hos, hb2, s2⟩
    obtain ⟨band, hband, rfl⟩ := sgs_get hx
    have hi : i < (bsOf y).length := (List.getElem?_eq_some_iff.mp hband).1
    have hbl2 : Lt band := hy.lt band (List.mem_filter.mp ((bsOf_perm y).mem_iff.mp (List.mem_of_getElem? hband))).1
    walk_at "wk"
    intro p3 n3
    have hwt2 := s2 _ _ hwt hwb
    refine ⟨_, rfl, wt, rfl, ⟨_, SqT.of ((Same.upd n3) _ _ hwt2)⟩, ?_⟩
    refine for_enumT (K := K) (a := wt) (xs := txs ws) (fun j σ H' => ∃ (ps : List Pr) (cv wv : Option V), σ = [some (.ref b), some (.str (S y)), some (.ref wt), some (.ref p1), some (.str (S [band])), some (.ref p3), cv, wv] ∧ H' p3 = some (.lst (prv ps)) ∧ (∀ p ∈ ps, PrOk H' p) ∧ ps.map Pr.pair = strAll band ws j ∧ ps.length ≤ 12 * j ∧ Same H2 H')
      ⟨[], cv, wv, rfl, upd_same, fun _ h => absurd h List.not_mem_nil, rfl, Nat.zero_le _, Same.upd n3⟩ (fun j σ H' _ ⟨_, _, _, _, _, _, _, _, h⟩ => SqT.of (h _ _ hwt2)) ?_ ?_
    · rintro j x σ H3 T hxj ⟨ps, cv3, wv3, rfl, hp3, hps, hpe, hpl, s3⟩ nT
      have hj : j < ws.length := by
        have := (List.getElem?_eq_some_iff.mp hxj).1
        rwa [txs_len] at this
      rw [txs_at hj] at hxj
      cases hxj
      have hjw : ws[j]? = some ws[j] := List.getElem?_eq_getElem hj
      obtain ⟨hwy, hwz⟩ := hw.all _ (List.getElem_mem hj)
      generalize ws[j] = w at hjw hwy hwz ⊢
      refine ⟨T, _, rfl, SqT.of upd_same, rfl, _, _, rfl, _, _, rfl, rfl, ?_⟩
      have s3T := Same.upd (o := .tup [.int j, .str (S w)]) nT
      have hp3T := s3T _ _ hp3
      refine ⟨_, rfl, .inl ⟨rfl, _, SqL.of hp3T⟩, _, rfl, w, rfl, ?_⟩
      refine comp_enum (l := w) (fun m acc H' => Same (upd H3 T (.tup [.int j, .str (S w)])) H' ∧ ∃ vs : List Pr, acc = prv vs ∧ (∀ p ∈ vs, PrOk H' p) ∧ vs.map Pr.pair = strUp band j w m ∧ vs.length ≤ m) (by omega) ⟨Same.refl _, [], rfl, fun _ h => absurd h List.not_mem_nil, rfl, Nat.le_refl _⟩ ?_ ?_
      · rintro m l acc H4 T2 Nx hm hal ⟨s4, vs, rfl, hvs, hve, hvl⟩ nT2 nx
        have hmw : m < w.length := (List.getElem?_eq_some_iff.mp hm).1
        have es := strUp_succ (band := band) (c := j) hm
        rw [show onB band l = (decide (l = band) || decide (l = ctr band)) from rfl] at es
        refine ⟨T2, _, rfl, SqT.of upd_same, rfl, _, _, rfl, _, _, rfl, rfl, ?_⟩
        refine ⟨⟨rfl, rfl, trivial⟩, ?_⟩
        have s4T := Same.upd (o := .tup [.int m, .str (S [l])]) nT2
        refine ⟨_, rfl, _, rfl, _, rfl, band, rfl, hbl2, by show 2 ≤ sizeLine; decide, fun t nt => ?_⟩
        refine ⟨t, _, rfl, .inr (SqT.of upd_same), rfl, rfl, _, rfl, ?_⟩
        have s4t := s4T.trans (Same.upd (o := .tup [.str (S [band]), .str (S [ctr band])]) nt)
        generalize upd (upd H4 T2 (.tup [.int m, .str (S [l])])) t (.tup [.str (S [band]), .str (S [ctr band])]) = H5 at s4t ⊢
        show if inV (.str (S [l])) [.str (S [band]), .str (S [ctr band])] = true then _ else _
        rw [inV_two]
        refine ite2 (fun z => ?_) (fun z => ?_)
        · rw [if_pos z] at es
          refine ⟨_, rfl, _, rfl, by show 2 ≤ sizeLine; decide, fun t2 nt2 => ?_⟩
          refine nx _ _ (by simpa using hal) ⟨(s4.trans s4t).trans (Same.upd nt2), vs ++ [⟨t2, j, m⟩], prv_snoc vs ⟨t2, j, m⟩, fun p hp => ?_, by rw [List.map_append, hve, es]; rfl, by rw [List.length_append]; show vs.length + 1 ≤ _; omega⟩
          rcases List.mem_append.mp hp with g | g
          · exact (hvs p g).same (s4t.trans (Same.upd nt2))
          · have e2 := List.mem_singleton.mp g
            subst e2
            exact ⟨upd_same, by show j < 1000; omega, by show m < 1000; omega⟩
        · rw [if_neg z, List.append_nil] at es
          exact nx _ _ (Nat.le_succ_of_le hal) ⟨s4.trans s4t, vs, rfl, fun p hp => (hvs p hp).same s4t, by rw [es]; exact hve, by omega⟩
      · rintro acc H4 D hal ⟨s4, vs, rfl, hvs, hve, hvl⟩ hD
        have hp4 := s4 _ _ hp3T
        refine ⟨p3, D, _, _, rfl, rfl, (Same.upd hD) _ _ hp4, upd_same, by rw [prv_len, prv_len]; omega, ?_⟩
        rw [prv_app]
        have s34 : Same H3 (upd H4 D (.lst (prv vs))) := (s3T.trans s4).trans (Same.upd hD)
        have hp4D := (Same.upd (o := .lst (prv vs)) hD) _ _ hp4
        have n3H : H2 p3 = none := n3
        refine ⟨ps ++ vs, _, _, rfl, upd_same, fun p hp => ?_, by rw [List.map_append, hpe, hve, strAll_succ hjw], by rw [List.length_append]; omega, fun a o ea => by rw [upd_ne (ne_of_none ea n3H)]; exact s34 _ _ (s3 a o ea)⟩
        rcases List.mem_append.mp hp with g | g
        · exact ((hps p g).same s34).ts (TSame.updL hp4D)
        · exact ((hvs p g).same (Same.upd hD)).ts (TSame.updL hp4D)
    · rintro σ H3 ⟨ps, cv3, wv3, rfl, hp3, hps, hpe, hpl, s3⟩
      rw [txs_len] at hpe hpl
      have hb3 := hb2.same s3
      have b3 : p3 ≠ b := hb2.ne n3
      have hp13 := s3 _ _ hp1
      refine ⟨_, rfl, .inl ⟨rfl, _, SqL.of hp13⟩, ?_⟩
      refine ⟨_, rfl, _, rfl, b, .ref p3, prv ps, rfl, hb3, .inl ⟨p3, rfl, .inl (SqL.of hp3)⟩, by rw [prv_len]; omega, fun qa ys H4 nq qb hq hperm hb4 s4 => ?_⟩
      obtain ⟨ps', e1, e2⟩ := perm_unmap (f := fun p : Pr => V.ref p.t) hperm ps rfl
      have e3 : ys = prv ps' := e1
      subst e3
      have ts34 := TSame.box hb3 s4
      refine ⟨qa, _, rfl, .inl ⟨SqL.of hq, fun t nt => ?_⟩⟩
      have s2t : SameB b H2 (upd H4 t (.tup (prv ps'))) := ((SameB.of s3).trans s4).after (Same.upd nt)
      have hp14 := s2t _ _ hp1 bp1
      have ts4t : TSame H4 (upd H4 t (.tup (prv ps'))) := TSame.updN nt
      refine ⟨p1, _, _, rfl, rfl, hp14, by rw [odv_len]; omega, ?_⟩
      have tsA := (ts34.trans ts4t).trans (TSame.updL (o := .lst (odv os ++ [.ref t])) hp14)
      have hsub : ∀ p ∈ ps', p ∈ ps := fun p hp => e2.mem_iff.mp hp
      have hlen := e2.length_eq
      refine ⟨os ++ [⟨t, ps'⟩], _, _, _, _, rfl, by rw [upd_same]; exact congrArg (fun x => some (HO.lst x)) (odv_snoc os ⟨t, ps'⟩), by rw [upd_ne (Ne.symm p12)]; exact s2t _ _ hp2 bp2, by simp [hol], fun o ho => ?_, fun j o c hj hc => ?_, ?_, ?_⟩
      · rcases List.mem_append.mp ho with g | g
        · exact ((hod o g).same s3).ts tsA
        · have eo := List.mem_singleton.mp g
          subst eo
          refine ⟨?_, fun p hp => (hps p (hsub p hp)).ts tsA, by show ps'.length ≤ 100; omega⟩
          exact (TSame.updL (o := .lst (odv os ++ [.ref t])) hp14) _ _ upd_same
      · by_cases hlt : j < os.length
        · rw [List.getElem?_append_left hlt] at hj
          exact hos j o c hj hc
        · have hj2 : j = os.length := by
            have := (List.getElem?_eq_some_iff.mp hj).1
            rw [List.length_append] at this
            have : j < os.length + 1 := this
            omega
          subst hj2
          rw [List.getElem?_append_right (Nat.le_refl _), Nat.sub_self] at hj
          have eo : (⟨t, ps'⟩ : Od) = o := by simpa using hj
          rw [hol, hband] at hc
          have ec : band = c := Option.some.inj hc
          subst eo
          subst ec
          exact (e2.map Pr.pair).trans (by rw [hpe])
      · exact ((hb4.same (Same.upd nt)).updN bp1)
      · exact (s2.trans s2t).updN n1
  · rintro σ H2 ⟨os, bv, sv, cv, wv, rfl, hp1, hp2, hol, hod, hos, hb2, s2⟩
    rw [sgs_len] at hol
    have hwt2 := s2 _ _ hwt hwb
    refine ⟨_, rfl, wt, _, rfl, .inr ⟨SqT.of hwt2, ?_⟩⟩
    refine ⟨_, rfl, p1, _, rfl, .inl ⟨SqL.of hp1, fun t nt => ?_⟩⟩
    refine ⟨by show 2 ≤ sizeLine; decide, fun dr ndr => ?_⟩
    have nt0 : H t = none := s2.none nt (hb2.ne nt)
    have sA : Same H2 (upd (upd H2 t (.tup (odv os))) dr (.tup [.ref wt, .ref t])) := (Same.upd nt).trans (Same.upd ndr)
    have htd : t ≠ dr := fun z => by rw [← z, upd_same] at ndr; cases ndr
    refine q dr os _ ⟨⟨wt, t, upd_same, sA _ _ hwt2, by rw [upd_ne htd, upd_same]⟩, fun o ho => (hod o ho).same sA⟩ ⟨hol, hos⟩ (hb2.same sA) (s2.after sA)
/-- names: 0 _law_box_here, 1 _law_yard_here, 2 _law_top -/
theorem ok_Lword (T : Txt K mg f0 f1 f2 f3 f4 f5 f6 f7 f8 f9 f10 f11 f12 f13 f14 f15 f16 f17 f18 f19 f20 f21 d0 d1 d2 d3 d4 d5 d6 d7 d8 d9 d10 d11 d12 d13 d14 d15 d16 d17 d18 d19 d20 d21) : FnOk P w K mg base CX0 2 f15 d15 ["_law_box_here", "_law_yard_here", "_law_top"] (sp_Lword K) := by
  have G_Ltake := ok_Ltake (P := P) (w := w) (base := base) T
  refine T.F15.fn.ok sc_Lword (fun vs H Q E h => len_Lword h) (fun cdv A outer s H vs Q E hr h => ?_)
  refine ⟨_, (pss_one (ps_ret (pe_bmK K rfl PySem.F.plainAttrs_str PySem.F.slot_str_join PySem.F.type_str_join (mt_joinK K rfl) (pe_S [] (by decide +kernel)) (pa_cons (pe_compB ["_law_k", "_law_yard_here", "_law_box_here"] [none, some 1, some 0] (pi_range1 rfl T.z_range (pa_cons (pe_call G_Ltake (hr.mono (by decide)) rfl T.F12.mg T.F12.fn.kp T.F12.bd .nil pass0 (pa_cons (pv 0) (pa_cons (pe_op op_add (pv 2) pe_int) pa_nil))) pa_nil)) ⟨⟨rfl, rfl, by first | exact .inl rfl | exact .inr rfl⟩, ⟨⟨rfl, rfl, by first | exact .inl rfl | exact .inr rfl⟩, trivial⟩⟩ (fun _ _ _ _ => (pg_name (i := 0) (by decide +kernel : List.Nodup (["_law_k", "_law_yard_here", "_law_box_here"] : List Str)) rfl (Or.inl rfl))) (fun _ _ _ _ => pf_nil) (fun _ _ _ _ => (pe_ix ix_S (pv 1) (pe_call G_Ltake (hr.mono (by decide)) rfl T.F12.mg T.F12.fn.kp T.F12.bd .nil pass0 (pa_cons (pv 2) (pa_cons (pe_callB call_lenS rfl T.z_len PySem.boot_len (pa_cons (pv 1) pa_nil)) pa_nil))) (fun _ _ => rfl)))) pa_nil)))), ?_⟩
  obtain ⟨b, y, top, rfl, hb, hy, hyl, ht, q⟩ := h
  have hs : (100000 : Nat) < sizeLine := by decide
  walk_at "rd"
  refine ⟨b, _, rfl, hb, by omega, by omega, fun n H1 hn hb1 s1 => ?_⟩
  walk_at "rd"
  refine comp_rng (fun i acc H' => BoxAt H' b ∧ SameB b H H' ∧ ∃ l : List Nat, acc = sgs l ∧ l.length = i ∧ ∀ c ∈ l, c ∈ y) (by simp; omega) ⟨hb1, s1, [], rfl, rfl, by simp⟩ ?_ ?_
  · rintro i acc H2 Nx hi hl ⟨hb2, s2, l, rfl, hl2, hm⟩ nx
    have hpos : 0 < y.length := List.length_pos_iff.mpr hy
    refine ⟨⟨rfl, rfl, trivial⟩, yes_ite ?_⟩
    walk_at "rd"
    refine ⟨b, _, rfl, hb2, by omega, by omega, fun r H3 hr3 hb3 s3 => ?_⟩
    have hr4 : r < y.length := by omega
    refine ⟨y, _, y[r], rfl, rfl, by omega, atI_nat (List.getElem?_eq_getElem hr4), ?_⟩
    refine nx _ _ (by simpa using hl) ⟨hb3, s2.trans s3, l ++ [y[r]], sgs_snoc _ _, by simp [hl2], fun c hc => ?_⟩
    rcases List.mem_append.mp hc with z | z
    · exact hm c z
    · rw [List.mem_singleton.mp z]; exact List.getElem_mem hr4
  · rintro acc H2 D hl ⟨hb2, s2, l, rfl, hl2, hm⟩ hD
    have hl3 : l.length ≤ top := by simp at hl2; omega
    refine ⟨D, l.map fun c => [c], rfl, rfl, SqL.of ?_, ?_, ?_⟩
    · rw [upd_same, ← sgs_lists]
    · rw [sum1]; omega
    · rw [flat1]
      exact q l _ hm hl3 (hb2.same (Same.upd hD)) (s2.trans (SameB.of (Same.upd hD)))
/-- names: 0 _law_box_here, 1 _law_yard_here, 2 _law_left, 3 _law_found, 4 _law_k, 5 _law_word_here -/
theorem ok_Lwords (T : Txt K mg f0 f1 f2 f3 f4 f5 f6 f7 f8 f9 f10 f11 f12 f13 f14 f15 f16 f17 f18 f19 f20 f21 d0 d1 d2 d3 d4 d5 d6 d7 d8 d9 d10 d11 d12 d13 d14 d15 d16 d17 d18 d19 d20 d21) : FnOk P w K mg base CX0 3 f19 d19 ["_law_box_here", "_law_yard_here"] (sp_Lwords K) := by
  have G_Ltake := ok_Ltake (P := P) (w := w) (base := base) T
  have G_Lword := ok_Lword (P := P) (w := w) (base := base) T
  refine T.F19.fn.ok sc_Lwords (fun vs H Q E h => len_Lwords h) (fun cdv A outer s H vs Q E hr h => ?_)
  refine ⟨_, (pss_cons (ps_set (i := 2) sc_Lwords.nd rfl (Or.inl rfl) pe_int)
      (pss_cons (ps_set (i := 3) sc_Lwords.nd rfl (Or.inl rfl) (pe_lst pa_nil))
      (pss_cons (ps_for PassesOwn.never rfl (pi_range1 rfl T.z_range (pa_cons (pe_call G_Ltake (hr.mono (by decide)) rfl T.F12.mg T.F12.fn.kp T.F12.bd .nil pass0 (pa_cons (pv 0) (pa_cons pe_int pa_nil))) pa_nil)) (pg_name (i := 4) sc_Lwords.nd rfl (Or.inl rfl)) (pss_cons (ps_set (i := 5) sc_Lwords.nd rfl (Or.inl rfl) (pe_call G_Lword (hr.mono (by decide)) rfl T.F15.mg T.F15.fn.kp T.F15.bd .nil pass0 (pa_cons (pv 0) (pa_cons (pv 1) (pa_cons (pe_callB (call_min2 rfl) rfl T.z_min boot_min (pa_cons (pv 2) (pa_cons (pe_ix (ix_listK K rfl) (pe_lst (pa_cons pe_int (pa_cons pe_int (pa_cons pe_int pa_nil)))) (pe_call G_Ltake (hr.mono (by decide)) rfl T.F12.mg T.F12.fn.kp T.F12.bd .nil pass0 (pa_cons (pv 0) (pa_cons pe_int pa_nil))) (fun _ _ => rfl)) pa_nil))) pa_nil)))))
      (pss_cons (ps_set (i := 2) sc_Lwords.nd rfl (Or.inl rfl) (pe_op op_sub (pv 2) (pe_callB call_lenS rfl T.z_len PySem.boot_len (pa_cons (pv 5) pa_nil))))
      (pss_one (ps_expr (pe_bmK K rfl PySem.F.plainAttrs_list PySem.F.slot_list_append PySem.F.type_list_append mt_append (pv 3) (pa_cons (pv 5) pa_nil)))))))
      (pss_one (ps_ret (pe_callTy (call_tuple_ofK K rfl) rfl T.z_tuple boot_tuple (pa_cons (pv 3) pa_nil))))))), ?_⟩
  obtain ⟨b, y, rfl, hb, hyn, hz, q⟩ := h
  have hs : (100000 : Nat) < sizeLine := by decide
  walk_at "wk"
  intro p1 n1
  have bp1 : p1 ≠ b := hb.ne n1
  walk_at "wk"
  refine ⟨b, 5, rfl, hb.same (Same.upd n1), by decide, by decide, fun n H1 hn hb1 s1 => ?_⟩
  walk_at "wk"
  refine for_range (fun i σ H' => ∃ (ws : List (List Nat)) (lf : Nat) (kv wv : Option V), σ = [some (.ref b), some (.str (S y)), some (.int lf), some (.ref p1), kv, wv] ∧ H' p1 = some (.lst (txs ws)) ∧ ws.length = i ∧ (∀ w ∈ ws, (∀ c ∈ w, c ∈ y) ∧ w.length ≤ 12) ∧ lf ≤ 24 ∧ BoxAt H' b ∧ SameB b H H')
    ⟨[], 24, none, none, rfl, s1 _ _ upd_same bp1, rfl, fun _ h => absurd h List.not_mem_nil, Nat.le_refl _, hb1, (SameB.of (Same.upd n1)).trans s1⟩ ?_ ?_
  · rintro i σ H2 hi ⟨ws, lf, kv, wv, rfl, hp1, hwl, hw, hlf, hb2, s2⟩
    have hi5 : i < 5 := by omega
    refine ⟨_, rfl, _, rfl, _, rfl, by decide, fun p2 n2 => ?_⟩
    have bp2 : p2 ≠ b := hb2.ne n2
    refine ⟨_, rfl, b, 3, rfl, hb2.same (Same.upd n2), by decide, by decide, fun r H3 hr3 hb3 s3 => ?_⟩
    obtain ⟨v, hv, hv12⟩ : ∃ v : Nat, atI [V.int 3, V.int 6, V.int 12] ((r : Nat) : Int) = some (V.int v) ∧ v ≤ 12 := by
      have h3 : r = 0 ∨ r = 1 ∨ r = 2 := by omega
      rcases h3 with rfl | rfl | rfl
      · exact ⟨3, atI_nat (xs := [V.int 3, V.int 6, V.int 12]) (j := 0) rfl, by decide⟩
      · exact ⟨6, atI_nat (xs := [V.int 3, V.int 6, V.int 12]) (j := 1) rfl, by decide⟩
      · exact ⟨12, atI_nat (xs := [V.int 3, V.int 6, V.int 12]) (j := 2) rfl, by decide⟩
    refine ⟨p2, _, _, _, rfl, rfl, SqL.of (s3 _ _ upd_same bp2), hv, _, _, rfl, ?_⟩
    obtain ⟨top, ht, ht1, ht2⟩ : ∃ top : Nat, (if (v : Int) < (lf : Int) then (v : Int) else (lf : Int)) = (top : Int) ∧ top ≤ lf ∧ top ≤ 12 := by
      split
      · exact ⟨v, rfl, by omega, hv12⟩
      · exact ⟨lf, rfl, Nat.le_refl _, by omega⟩
    rw [ht]
    refine ⟨b, y, top, rfl, hb3, hyn, by omega, by omega, fun w H4 hwm hwz hb4 s4 => ?_⟩
    have s24 : SameB b H2 H4 := ((SameB.of (Same.upd n2)).trans s3).trans s4
    have hp4 := s24 _ _ hp1 bp1
    refine ⟨_, rfl, _, rfl, w, rfl, by omega, _, _, rfl, rfl, ?_⟩
    refine ⟨_, rfl, .inl ⟨rfl, _, SqL.of hp4⟩, _, rfl, p1, _, _, rfl, rfl, hp4, by rw [txs_len]; omega, ?_⟩
    rw [txs_snoc]
    have elf : ((lf : Int) - (w.length : Int)) = ((lf - w.length : Nat) : Int) := by omega
    refine ⟨ws ++ [w], lf - w.length, _, _, by rw [← elf]; rfl, upd_same, by simp [hwl], fun u hu => ?_, by omega, hb4.updN bp1, (s2.trans s24).updN n1⟩
    rcases List.mem_append.mp hu with z | z
    · exact hw u z
    · rw [List.mem_singleton.mp z]; exact ⟨hwm, by omega⟩
  · rintro σ H2 ⟨ws, lf, kv, wv, rfl, hp1, hwl, hw, hlf, hb2, s2⟩
    refine ⟨_, rfl, p1, _, rfl, .inl ⟨SqL.of hp1, fun t nt => ?_⟩⟩
    have nt0 : H t = none := s2.none nt (hb2.ne nt)
    exact q t ws _ nt0 (hb.ne nt0) upd_same ⟨by omega, hw⟩ (hb2.updN (hb.ne nt0)) (s2.updN nt0)
/-- names: 0 _law_yard_here, 1 _law_drawing_here, 2 _law_words_here, 3 _law_orders, 4 _law_rows, 5 _law_word_here, 6 _law_band, 7 _law_order_here, 8 _law_row, 9 _law_c, 10 _law_i -/
theorem ok_Ltext (T : Txt K mg f0 f1 f2 f3 f4 f5 f6 f7 f8 f9 f10 f11 f12 f13 f14 f15 f16 f17 f18 f19 f20 f21 d0 d1 d2 d3 d4 d5 d6 d7 d8 d9 d10 d11 d12 d13 d14 d15 d16 d17 d18 d19 d20 d21) : FnOk P w K mg base CX0 2 f20 d20 ["_law_yard_here", "_law_drawing_here"] (sp_Ltext K) := by
  have G_Lbands := ok_Lbands (P := P) (w := w) (base := base) T
  refine T.F20.fn.ok sc_Ltext (fun vs H Q E h => len_Ltext h) (fun cdv A outer s H vs Q E hr h => ?_)
  refine ⟨_, (pss_cons (ps_asg (pv 1) (pg_tupK (n := 2) K rfl rfl (pgs_cons (pg_name (i := 2) sc_Ltext.nd rfl (Or.inl rfl)) (pgs_cons (pg_name (i := 3) sc_Ltext.nd rfl (Or.inl rfl)) pgs_nil))))
      (pss_cons (ps_set (i := 4) sc_Ltext.nd rfl (Or.inl rfl) (pe_lst pa_nil))
      (pss_cons (ps_for PassesOwn.never rfl (pi_tupK K rfl (pv 2)) (pg_name (i := 5) sc_Ltext.nd rfl (Or.inl rfl)) (pss_one (ps_expr (pe_bmK K rfl PySem.F.plainAttrs_list PySem.F.slot_list_append PySem.F.type_list_append mt_append (pv 4) (pa_cons (pe_op op_addS (pe_S [99, 111, 114, 100, 32] (by decide +kernel)) (pe_ix (ix_listK K rfl) (pe_lst (pa_cons (pv 5) (pa_cons (pe_S [45] (by decide +kernel)) pa_nil))) (pe_callTy call_int1 rfl T.z_int boot_int (pa_cons (pe_cmpR op_eqS (pv 5) (pe_S [] (by decide +kernel)) (nomark _)) pa_nil)) (fun _ _ => rfl))) pa_nil)))))
      (pss_cons (ps_for PassesOwn.never rfl (pi_zipLT K rfl rfl T.z_zip (pa_cons (pe_call G_Lbands (hr.mono (by decide)) rfl T.F17.mg T.F17.fn.kp T.F17.bd .nil pass0 (pa_cons (pv 0) pa_nil)) (pa_cons (pv 3) pa_nil))) (pg_tupK (n := 2) K rfl rfl (pgs_cons (pg_name (i := 6) sc_Ltext.nd rfl (Or.inl rfl)) (pgs_cons (pg_name (i := 7) sc_Ltext.nd rfl (Or.inl rfl)) pgs_nil))) (pss_cons (ps_set (i := 8) sc_Ltext.nd rfl (Or.inl rfl) (pe_op op_addS (pe_S [98, 97, 110, 100, 32] (by decide +kernel)) (pv 6)))
      (pss_cons (ps_for PassesOwn.never rfl (pi_tupK K rfl (pv 7)) (pg_tupK (n := 2) K rfl rfl (pgs_cons (pg_name (i := 9) sc_Ltext.nd rfl (Or.inl rfl)) (pgs_cons (pg_name (i := 10) sc_Ltext.nd rfl (Or.inl rfl)) pgs_nil))) (pss_one (ps_set (i := 8) sc_Ltext.nd rfl (Or.inl rfl) (pe_op op_addS (pe_op op_addS (pe_op op_addS (pe_op op_addS (pv 8) (pe_S [32] (by decide +kernel))) (pe_callTy call_strN rfl T.z_str boot_str (pa_cons (pv 9) pa_nil))) (pe_S [46] (by decide +kernel))) (pe_callTy call_strN rfl T.z_str boot_str (pa_cons (pv 10) pa_nil))))))
      (pss_one (ps_expr (pe_bmK K rfl PySem.F.plainAttrs_list PySem.F.slot_list_append PySem.F.type_list_append mt_append (pv 4) (pa_cons (pv 8) pa_nil)))))))
      (pss_one (ps_ret (pe_bmK K rfl PySem.F.plainAttrs_str PySem.F.slot_str_join PySem.F.type_str_join (mt_joinC K 10 rfl) (pe_S [10] (by decide +kernel)) (pa_cons (pv 4) pa_nil)))))))), ?_⟩
  obtain ⟨y, dr, ws, os, rfl, hd, ht, q⟩ := h
  have hs : (2000000 : Nat) < sizeLine := by decide
  obtain ⟨⟨wt, ot, hdr, hwt, hot⟩, hod⟩ := hd
  have hfew := ht.wo.few
  have hol : os.length = (bsOf y).length := by have := ht.ol; rwa [ods_len] at this
  have hbl := ht.bl
  rw [ods_len] at hbl
  refine ⟨_, rfl, dr, _, rfl, SqT.of hdr, rfl, _, _, rfl, _, _, rfl, rfl, ?_⟩
  refine ⟨by show 0 ≤ sizeLine; decide, fun p2 n2 => ?_⟩
  have n2H : H p2 = none := n2
  refine ⟨_, rfl, wt, rfl, ⟨_, SqT.of (Same.upd n2 _ _ hwt)⟩, ?_⟩
  refine for_tup (K := K) (a := wt) (xs := txs ws) (fun i σ H' => ∃ wv : Option V, σ = [some (.str (S y)), some (.ref dr), some (.ref wt), some (.ref ot), some (.ref p2), wv, none, none, none, none, none] ∧ H' p2 = some (.lst (txs ((ws.take i).map cordR))) ∧ SameB p2 H H')
    ⟨none, rfl, upd_same, SameB.of (Same.upd n2)⟩ (fun i σ H' _ ⟨_, _, _, s⟩ => SqT.of (s _ _ hwt (ne_of_none hwt n2H))) ?_ ?_
  · rintro i x σ H3 hx ⟨wv, rfl, hp3, s3⟩
    obtain ⟨w, hw, rfl⟩ := txs_get hx
    have hwl := (ht.wo.all w (List.mem_of_getElem? hw)).2
    have hcl : (cordW w).length ≤ 12 := by unfold cordW; split <;> first | omega | simp
    refine ⟨_, rfl, .inl ⟨rfl, _, SqL.of hp3⟩, ?_⟩
    refine ⟨_, rfl, by show 2 ≤ sizeLine; decide, fun p4 n4 => ?_⟩
    refine ⟨_, rfl, w, [], rfl, rfl, .inr ⟨_, rfl, ?_⟩⟩
    refine ⟨p4, _, _, _, rfl, rfl, SqL.of upd_same, pick_cord w, ?_⟩
    refine ⟨[99, 111, 114, 100, 32], cordW w, rfl, rfl, by show 5 + _ ≤ _; omega, ?_⟩
    have h24 : p2 ≠ p4 := ne_of_none hp3 n4
    refine ⟨p2, _, _, rfl, rfl, by rw [upd_ne h24]; exact hp3, by rw [txs_len, List.length_map, List.length_take]; omega, ?_⟩
    refine ⟨_, rfl, ?_, fun c o e z => by rw [upd_ne z]; exact Same.upd n4 _ _ (s3 c o e z)⟩
    rw [upd_same]
    have ec : [99, 111, 114, 100, 32] ++ cordW w = cordR w := rfl
    rw [ec, txs_snoc, ← take_snoc hw, List.map_append]
    rfl
  rintro σ H3 ⟨wv, rfl, hp3, s3⟩
  rw [txs_len, List.take_length] at hp3
  refine ⟨_, rfl, y, rfl, by have := ht.y8; omega, fun qb l' H4 nq hqb hl' hpw s4 => ?_⟩
  have el := bsOf_eq (by rw [smalls_low ht.yd.lt] at hl'; exact hl') hpw
  subst el
  have hot4 : H4 ot = some (.tup (odv os)) := s4 _ _ (s3 _ _ hot (ne_of_none hot n2H))
  have hp4 := s4 _ _ hp3
  have hqp : qb ≠ p2 := fun z => by rw [z, hp3] at nq; cases nq
  refine ⟨_, rfl, qb, ot, rfl, ⟨_, SqL.of hqb⟩, ⟨_, SqT.of hot4⟩, ?_⟩
  have s04 : SameB p2 H H4 := s3.trans (SameB.of s4)
  have hzl : (List.zipWith bandR (bsOf y) (ods os)).length = os.length := by rw [List.length_zipWith, ods_len]; omega
  refine for_zip (Sq1 := SqLa K qb) (Sq2 := SqTa K ot) (xs := sgs (bsOf y)) (ys := odv os) (fun i σ H' => ∃ wv bv ov rv cv iv : Option V, σ = [some (.str (S y)), some (.ref dr), some (.ref wt), some (.ref ot), some (.ref p2), wv, bv, ov, rv, cv, iv] ∧ H' p2 = some (.lst (txs (ws.map cordR ++ (List.zipWith bandR (bsOf y) (ods os)).take i))) ∧ SameB p2 H H' ∧ SameB p2 H4 H')
    (by rw [sgs_len, odv_len, hol]) ⟨wv, none, none, none, none, none, rfl, by simpa using hp4, s04, SameB.refl _ _⟩ (fun i σ H' _ ⟨_, _, _, _, _, _, _, _, _, s⟩ => ⟨SqL.of (s _ _ hqb hqp), SqT.of (s _ _ hot4 (fun z => by rw [z, hp4] at hot4; cases hot4))⟩) ?_ ?_
  · rintro i x z σ H5 T hx hz ⟨wv, bv, ov, rv, cv, iv, rfl, hp5, s5, s45⟩ nT
    obtain ⟨b, hb, rfl⟩ := sgs_get hx
    have hi : i < os.length := by have := (List.getElem?_eq_some_iff.mp hz).1; rwa [odv_len] at this
    have ho : os[i]? = some os[i] := List.getElem?_eq_getElem hi
    have hz' := odv_at ho
    rw [hz] at hz'
    cases hz'
    have hmo := List.getElem_mem hi
    have eo := ods_at ho
    have hbL := ht.blt (List.mem_of_getElem? hb)
    generalize os[i] = o at hmo eo
    refine ⟨T, _, rfl, SqT.of upd_same, rfl, _, _, rfl, _, _, rfl, rfl, ?_⟩
    have sT := Same.upd (o := .tup [.str (S [b]), .ref o.o]) nT
    have hpT := sT _ _ hp5
    have s5T : SameB p2 H (upd H5 T (.tup [.str (S [b]), .ref o.o])) := s5.trans (SameB.of sT)
    have s45T : SameB p2 H4 (upd H5 T (.tup [.str (S [b]), .ref o.o])) := s45.trans (SameB.of sT)
    generalize upd H5 T (.tup [.str (S [b]), .ref o.o]) = H6 at hpT s5T s45T ⊢
    have ts : TSame H H6 := fun c xs e => s5T c _ e (ne_of_none e n2H)
    have ho6 := (hod _ hmo).ts ts
    have hsmo : ∀ p ∈ o.ps, SmP p.pair := fun p hp => ht.sm eo hb _ (List.mem_map.mpr ⟨p, hp, rfl⟩)
    have hfw := ho6.fw
    refine ⟨_, rfl, [98, 97, 110, 100, 32], [b], rfl, rfl, by show 5 + 1 ≤ _; omega, ?_⟩
    refine ⟨_, rfl, o.o, rfl, ⟨_, SqT.of ho6.tp⟩, ?_⟩
    refine for_tup (K := K) (a := o.o) (xs := prv o.ps) (fun j σ H' => H' = H6 ∧ ∃ cv iv : Option V, σ = [some (.str (S y)), some (.ref dr), some (.ref wt), some (.ref ot), some (.ref p2), wv, some (.str (S [b])), some (.ref o.o), some (.str (S (bandR b ((o.ps.take j).map Pr.pair)))), cv, iv])
      ⟨rfl, cv, iv, rfl⟩ (fun j σ H' _ h => by rw [h.1]; exact SqT.of ho6.tp) ?_ ?_
    · rintro j x σ H7 hx ⟨rfl, cv, iv, rfl⟩
      obtain ⟨p, hp, rfl⟩ := prv_at hx
      have hm := List.mem_of_getElem? hp
      have hpk := ho6.pr p hm
      obtain ⟨g1, g2⟩ := hsmo p hm
      have g1' : p.c < 30 := g1
      have g2' : p.i < 30 := g2
      have d1 : (dg p.c).length ≤ 3 := (dg_all _ g1).2.2.2
      have d2 : (dg p.i).length ≤ 3 := (dg_all _ g2).2.2.2
      have hrl := bandR_len (b := b) (ps := (o.ps.take j).map Pr.pair) hbL (fun r hr => by
        obtain ⟨r', hr', rfl⟩ := List.mem_map.mp hr
        exact hsmo r' (List.mem_of_mem_take hr')) (by rw [List.length_map, List.length_take]; omega)
      refine ⟨p.t, _, rfl, SqT.of hpk.tp, rfl, _, _, rfl, _, _, rfl, rfl, ?_⟩
      refine ⟨_, rfl, _, [32], rfl, rfl, by show _ + 1 ≤ _; omega, ?_⟩
      refine ⟨_, rfl, p.c, rfl, by omega, _, _, rfl, rfl, by rw [List.length_append]; show _ + 1 + _ ≤ _; omega, ?_⟩
      refine ⟨_, [46], rfl, rfl, by rw [List.length_append, List.length_append]; show _ + 1 + _ + 1 ≤ _; omega, ?_⟩
      refine ⟨_, rfl, p.i, rfl, by omega, _, _, rfl, rfl, by rw [List.length_append, List.length_append, List.length_append]; show _ + 1 + _ + 1 + _ ≤ _; omega, ?_⟩
      refine ⟨rfl, some (.int p.c), some (.int p.i), ?_⟩
      have er : bandR b ((o.ps.take (j + 1)).map Pr.pair) = (((bandR b ((o.ps.take j).map Pr.pair) ++ [32]) ++ dg p.c) ++ [46]) ++ dg p.i := by
        rw [← take_snoc hp, List.map_append]
        exact bandR_snoc
      rw [er]
      rfl
    · rintro σ H7 ⟨rfl, cv, iv, rfl⟩
      rw [prv_len, List.take_length]
      refine ⟨_, rfl, .inl ⟨rfl, _, SqL.of hpT⟩, _, rfl, p2, _, _, rfl, rfl, hpT, by rw [txs_len, List.length_append, List.length_map, List.length_take]; omega, ?_⟩
      refine ⟨_, _, _, _, _, _, rfl, ?_, fun c o e w => by rw [upd_ne w]; exact s5T c o e w, fun c o e w => by rw [upd_ne w]; exact s45T c o e w⟩
      have ez : (List.zipWith bandR (bsOf y) (ods os))[i]? = some (bandR b (o.ps.map Pr.pair)) := by rw [List.getElem?_zipWith, hb, eo]
      rw [upd_same, txs_snoc, List.append_assoc, take_snoc ez]
  · rintro σ H5 ⟨wv, bv, ov, rv, cv, iv, rfl, hp5, s5, _⟩
    have hzl2 : (List.zipWith bandR (bsOf y) (ods os)).length = (sgs (bsOf y)).length := by rw [hzl, sgs_len]; omega
    rw [← hzl2, List.take_length] at hp5
    have hsum := sum_le_mul (ps := rowsOf y ws (ods os)) fun x hx => (ht.rows x hx).2
    have hrl := rows_len (ws := ws) ht.ol
    rw [ods_len] at hrl
    refine ⟨rfl, _, rfl, p2, rowsOf y ws (ods os), rfl, rfl, SqL.of hp5, by omega, ?_⟩
    exact q _ fun c o e => s5 c o e (ne_of_none e n2H)
/-- names: 0 word -/
theorem ok_cord_row (T : Txt K mg f0 f1 f2 f3 f4 f5 f6 f7 f8 f9 f10 f11 f12 f13 f14 f15 f16 f17 f18 f19 f20 f21 d0 d1 d2 d3 d4 d5 d6 d7 d8 d9 d10 d11 d12 d13 d14 d15 d16 d17 d18 d19 d20 d21) : FnOk P w K mg base CX0 1 f4 d4 ["word"] (sp_cord_row K) := by
  refine T.F4.fn.ok sc_cord_row (fun vs H Q E h => len_cord_row h) (fun cdv A outer s H vs Q E hr h => ?_)
  refine ⟨_, (pss_one (ps_ret (pe_bmK K rfl PySem.F.plainAttrs_str PySem.F.slot_str_join PySem.F.type_str_join (mt_joinC K 32 rfl) (pe_S [32] (by decide +kernel)) (pa_cons (pe_lst (pa_cons (pe_gS [99, 111, 114, 100] rfl T.g_CORD) (pa_cons (pe_ifExp (pt_cmpR op_neS (pv 0) (pe_S [] (by decide +kernel)) (nomark _)) (pv 0) (pe_gS [45] rfl T.g_NO_LETTERS)) pa_nil))) pa_nil)))), ?_⟩
  obtain ⟨w, rfl, hw, q⟩ := h
  have hs : (100000 : Nat) < sizeLine := by decide
  have fin : ∀ x : List Nat, x = cordW w → ∀ p, H p = none → ∃ (p' : Addr) (ls : List (List Nat)), V.str (S [32]) = .str (S [32]) ∧ [V.ref p] = [.ref p'] ∧ SqL K (upd H p (.lst [.str (S [99, 111, 114, 100]), .str (S x)])) p' (ls.map fun l => V.str (S l)) ∧ (ls.map List.length).sum + ls.length ≤ 16777216 ∧ Q (.str (S (joinc 32 ls))) (upd H p (.lst [.str (S [99, 111, 114, 100]), .str (S x)])) := fun x hx p np => by
    subst hx
    refine ⟨p, [wCord, cordW w], rfl, rfl, SqL.of upd_same, ?_, q _ (Same.upd np)⟩
    have : (cordW w).length ≤ 12 := by unfold cordW; split <;> first | omega | simp
    simp [wCord]
    omega
  refine ⟨rfl, _, rfl, w, [], rfl, rfl, _, rfl, ite2 (fun e => ?_) (fun e => ?_)⟩
  · have hn : w ≠ [] := fun z => by rw [z] at e; simp at e
    exact ⟨_, rfl, by show 2 ≤ sizeLine; decide, fin w (by unfold cordW; rw [if_neg hn])⟩
  · have hn : w = [] := by
      by_cases z : w = []
      · exact z
      · exact absurd (by simp [z]) e
    exact ⟨by show 2 ≤ sizeLine; decide, fin [45] (by unfold cordW; rw [if_pos hn])⟩
/-- names: 0 yard -/
theorem ok_bands (T : Txt K mg f0 f1 f2 f3 f4 f5 f6 f7 f8 f9 f10 f11 f12 f13 f14 f15 f16 f17 f18 f19 f20 f21 d0 d1 d2 d3 d4 d5 d6 d7 d8 d9 d10 d11 d12 d13 d14 d15 d16 d17 d18 d19 d20 d21) : FnOk P w K mg base CX0 1 f1 d1 ["yard"] (sp_bands K) := by
  refine T.F1.fn.ok sc_bands (fun vs H Q E h => len_bands h) (fun cdv A outer s H vs Q E hr h => ?_)
  refine ⟨_, (pss_one (ps_ret (pe_bmK K rfl PySem.F.plainAttrs_str PySem.F.slot_str_join PySem.F.type_str_join (mt_joinK K rfl) (pe_S [] (by decide +kernel)) (pa_cons (pe_callB (call_sortedK K rfl) rfl T.z_sorted boot_sorted (pa_cons (pe_compB ["letter"] [none] (pi_str (pv 0)) trivial (fun _ _ _ _ => (pg_name (i := 0) (by decide +kernel : List.Nodup (["letter"] : List Str)) rfl (Or.inl rfl))) (fun _ _ _ _ => (pf_one (pt_val (pe_bm0K K rfl PySem.F.plainAttrs_str PySem.F.slot_str_islower PySem.F.type_str_islower mt_islower (pv 0))))) (fun _ _ _ _ => (pv 0))) pa_nil)) pa_nil)))), ?_⟩
  obtain ⟨l, rfl, hl, hz, q⟩ := h
  have hs : (1000 : Nat) < sizeLine := by decide
  refine ⟨rfl, _, rfl, l, rfl, ?_⟩
  refine comp_fix (xs := sgs l) (fun i acc H' => Same H H' ∧ acc = sgs ((l.take i).filter isLow)) (by rw [sgs_len]; omega) ⟨Same.refl H, rfl⟩ ?_ ?_
  · rintro i x acc H1 Nx hi hx hal ⟨s1, rfl⟩ nx
    obtain ⟨c, hc, rfl⟩ := sgs_get hx
    have e := filter_take (p := isLow) hc
    refine ⟨trivial, ?_⟩
    refine ⟨_, rfl, rfl, c, rfl, rfl, hl c (List.mem_of_getElem? hc), _, rfl, ?_⟩
    refine ite2 (fun z => ?_) (fun z => ?_)
    · rw [if_pos z] at e
      exact ⟨_, rfl, nx _ _ (by simpa using hal) ⟨s1, by rw [e, ← sgs_snoc]⟩⟩
    · rw [if_neg z, List.append_nil] at e
      exact nx _ _ (Nat.le_succ_of_le hal) ⟨s1, by rw [e]⟩
  · rintro acc H1 D hal ⟨s1, rfl⟩ hD
    rw [sgs_take, sgs_lists]
    have hfl : (l.filter isLow).length ≤ l.length := List.length_filter_le _ _
    refine ⟨D, (l.filter isLow).map fun c => [c], rfl, SqL.of upd_same, by rw [List.length_map]; omega, fun p ls hp hpm hpw => ?_⟩
    obtain ⟨l', rfl, pl⟩ := ones_of hpm
    have hl' := pl.length_eq
    refine ⟨p, l'.map fun c => [c], rfl, rfl, SqL.of upd_same, by rw [sum1]; omega, ?_⟩
    rw [flat1]
    exact q l' _ pl (ones_pw hpw) ((s1.trans (Same.upd hD)).trans (Same.upd hp))
/-- names: 0 band, 1 order -/
theorem ok_band_row (T : Txt K mg f0 f1 f2 f3 f4 f5 f6 f7 f8 f9 f10 f11 f12 f13 f14 f15 f16 f17 f18 f19 f20 f21 d0 d1 d2 d3 d4 d5 d6 d7 d8 d9 d10 d11 d12 d13 d14 d15 d16 d17 d18 d19 d20 d21) : FnOk P w K mg base CX0 2 f5 d5 ["band", "order"] (sp_band_row K) := by
  have G_strand_text := ok_strand_text (P := P) (w := w) (base := base) T
  refine T.F5.fn.ok sc_band_row (fun vs H Q E h => len_band_row h) (fun cdv A outer s H vs Q E hr h => ?_)
  refine ⟨_, (pss_one (ps_ret (pe_bmK K rfl PySem.F.plainAttrs_str PySem.F.slot_str_join PySem.F.type_str_join (mt_joinC K 32 rfl) (pe_S [32] (by decide +kernel)) (pa_cons (pe_op op_cat (pe_lst (pa_cons (pe_gS [98, 97, 110, 100] rfl T.g_BAND) (pa_cons (pv 0) pa_nil))) (pe_compB ["strand"] [none] (pi_tupK K rfl (pv 1)) trivial (fun _ _ _ _ => (pg_name (i := 0) (by decide +kernel : List.Nodup (["strand"] : List Str)) rfl (Or.inl rfl))) (fun _ _ _ _ => pf_nil) (fun _ _ _ _ => (pe_call G_strand_text (hr.mono (by decide)) rfl T.F3.mg T.F3.fn.kp T.F3.bd .nil pass0 (pa_cons (pv 0) pa_nil))))) pa_nil)))), ?_⟩
  obtain ⟨b, o, rfl, ho, hsm, q⟩ := h
  have hs : (2000000 : Nat) < sizeLine := by decide
  have hfw := ho.fw
  refine ⟨rfl, _, rfl, by show 2 ≤ sizeLine; decide, fun p1 n1 => ?_⟩
  have hp1 : upd H p1 (.lst [.str (S [98, 97, 110, 100]), .str (S [b])]) p1 = some (.lst (txs [wBand, [b]])) := upd_same
  have s1 := Same.upd (o := .lst [.str (S [98, 97, 110, 100]), .str (S [b])]) n1
  generalize upd H p1 (.lst [.str (S [98, 97, 110, 100]), .str (S [b])]) = H1 at hp1 s1 ⊢
  refine ⟨_, rfl, o.o, rfl, ⟨_, SqT.of (s1 _ _ ho.tp)⟩, ?_⟩
  refine comp_tup (K := K) (a := o.o) (xs := prv o.ps) (fun i acc H' => H' = H1 ∧ acc = txs (((o.ps.take i).map Pr.pair).map stx)) (by rw [prv_len]; omega) (fun i acc H' h => by rw [h.1]; exact SqT.of (s1 _ _ ho.tp)) ⟨rfl, rfl⟩ ?_ ?_
  · rintro i x acc H2 Nx hi hx hal ⟨rfl, rfl⟩ nx
    obtain ⟨p, hp, rfl⟩ := prv_at hx
    have hm := List.mem_of_getElem? hp
    refine ⟨trivial, yes_ite ?_⟩
    refine ⟨_, rfl, p, rfl, (ho.pr p hm).same s1, hsm p hm, ?_⟩
    refine nx _ _ (by simpa using hal) ⟨rfl, ?_⟩
    rw [txs_snoc, ← take_snoc hp, List.map_append, List.map_append]
    rfl
  rintro acc H2 D hal ⟨rfl, rfl⟩ hD
  rw [prv_len, List.take_length]
  have hpD : p1 ≠ D := ne_of_none hp1 hD
  refine ⟨p1, D, _, _, rfl, rfl, by rw [upd_ne hpD]; exact hp1, upd_same, by rw [txs_len, txs_len, List.length_map, List.length_map]; show 2 + _ ≤ _; omega, fun p3 n3 => ?_⟩
  have hsum := sum_le_mul (k := 7) (ps := (o.ps.map Pr.pair).map stx) fun x hx => by
    obtain ⟨r, hr, rfl⟩ := List.mem_map.mp hx
    obtain ⟨p, hp, rfl⟩ := List.mem_map.mp hr
    exact (stx_no (hsm p hp)).2.2
  rw [List.length_map, List.length_map] at hsum
  refine ⟨p3, bandP b (o.ps.map Pr.pair), rfl, rfl, SqL.of (by rw [upd_same]; rfl), ?_, q _ ((s1.trans (Same.upd hD)).trans (Same.upd n3))⟩
  unfold bandP wBand
  simp only [List.map_cons, List.sum_cons, List.length_cons, List.length_nil, List.length_map] at hsum ⊢
  omega
/-- names: 0 yard, 1 drawing, 2 rows, 3 band, 4 order -/
theorem ok_show_drawing (T : Txt K mg f0 f1 f2 f3 f4 f5 f6 f7 f8 f9 f10 f11 f12 f13 f14 f15 f16 f17 f18 f19 f20 f21 d0 d1 d2 d3 d4 d5 d6 d7 d8 d9 d10 d11 d12 d13 d14 d15 d16 d17 d18 d19 d20 d21) : FnOk P w K mg base CX0 3 f6 d6 ["yard", "drawing"] (sp_show_drawing K) := by
  have G_cord_row := ok_cord_row (P := P) (w := w) (base := base) T
  have G_bands := ok_bands (P := P) (w := w) (base := base) T
  have G_band_row := ok_band_row (P := P) (w := w) (base := base) T
  refine T.F6.fn.ok sc_show_drawing (fun vs H Q E h => len_show_drawing h) (fun cdv A outer s H vs Q E hr h => ?_)
  refine ⟨_, (pss_cons (ps_setCB (i := 2) ["word"] [none] sc_show_drawing.nd rfl (Or.inl rfl) (pi_tupK K rfl (pe_ix (ix_tupK K rfl) (pv 1) pe_int (fun _ _ => rfl))) trivial (fun _ _ _ _ => (pg_name (i := 0) (by decide +kernel : List.Nodup (["word"] : List Str)) rfl (Or.inl rfl))) (fun _ _ _ _ => pf_nil) (fun _ _ _ _ => (pe_call G_cord_row (hr.mono (by decide)) rfl T.F4.mg T.F4.fn.kp T.F4.bd .nil pass0 (pa_cons (pv 0) pa_nil))))
      (pss_cons (ps_for PassesOwn.never rfl (pi_zipST K rfl rfl T.z_zip (pa_cons (pe_call G_bands (hr.mono (by decide)) rfl T.F1.mg T.F1.fn.kp T.F1.bd .nil pass0 (pa_cons (pv 0) pa_nil)) (pa_cons (pe_ix (ix_tupK K rfl) (pv 1) pe_int (fun _ _ => rfl)) pa_nil))) (pg_tupK (n := 2) K rfl rfl (pgs_cons (pg_name (i := 3) sc_show_drawing.nd rfl (Or.inl rfl)) (pgs_cons (pg_name (i := 4) sc_show_drawing.nd rfl (Or.inl rfl)) pgs_nil))) (pss_one (ps_expr (pe_bmK K rfl PySem.F.plainAttrs_list PySem.F.slot_list_append PySem.F.type_list_append mt_append (pv 2) (pa_cons (pe_call G_band_row (hr.mono (by decide)) rfl T.F5.mg T.F5.fn.kp T.F5.bd .nil pass0 (pa_cons (pv 3) (pa_cons (pv 4) pa_nil))) pa_nil)))))
      (pss_one (ps_ret (pe_bmK K rfl PySem.F.plainAttrs_str PySem.F.slot_str_join PySem.F.type_str_join (mt_joinC K 10 rfl) (pe_S [10] (by decide +kernel)) (pa_cons (pv 2) pa_nil)))))), ?_⟩
  obtain ⟨y, dr, ws, os, rfl, hd, ht, q⟩ := h
  have hs : (2000000 : Nat) < sizeLine := by decide
  obtain ⟨⟨wt, ot, hdr, hwt, hot⟩, hod⟩ := hd
  have hfew := ht.wo.few
  have hol : os.length = (bsOf y).length := by have := ht.ol; rwa [ods_len] at this
  have hbl := ht.bl
  rw [ods_len] at hbl
  refine ⟨_, rfl, dr, _, 0, _, rfl, rfl, SqT.of hdr, rfl, wt, rfl, ⟨_, SqT.of hwt⟩, ?_⟩
  refine comp_tup (K := K) (a := wt) (xs := txs ws) (fun i acc H' => Same H H' ∧ acc = txs ((ws.take i).map cordR)) (by rw [txs_len]; omega) (fun i acc H' h => SqT.of (h.1 _ _ hwt)) ⟨Same.refl _, rfl⟩ ?_ ?_
  · rintro i x acc H1 Nx hi hx hal ⟨s1, rfl⟩ nx
    obtain ⟨w, hw, rfl⟩ := txs_get hx
    refine ⟨trivial, yes_ite ?_⟩
    refine ⟨_, rfl, w, rfl, (ht.wo.all w (List.mem_of_getElem? hw)).2, fun H2 s2 => ?_⟩
    refine nx _ _ (by simpa using hal) ⟨s1.trans s2, ?_⟩
    rw [txs_snoc, ← take_snoc hw, List.map_append]
    rfl
  rintro acc H1 p2 hal ⟨s1, rfl⟩ n2
  rw [txs_len, List.take_length]
  have s2 := s1.trans (Same.upd (o := .lst (txs (ws.map cordR))) n2)
  have hp2 : upd H1 p2 (.lst (txs (ws.map cordR))) p2 = some (.lst (txs (ws.map cordR))) := upd_same
  have n2H : H p2 = none := s1.free n2
  generalize upd H1 p2 (.lst (txs (ws.map cordR))) = H2 at s2 hp2 ⊢
  refine ⟨_, rfl, y, rfl, lt128 ht.yd.lt, by have := ht.y8; omega, fun l' H3 hl' hpw s3 => ?_⟩
  have el := bsOf_eq hl' hpw
  subst el
  have s03 := s2.trans s3
  refine ⟨_, rfl, dr, _, 1, _, rfl, rfl, SqT.of (s03 _ _ hdr), rfl, bsOf y, ot, rfl, ⟨_, SqT.of (s03 _ _ hot)⟩, ?_⟩
  have hp3 := s3 _ _ hp2
  refine for_zip (Sq1 := SqSa (bsOf y)) (Sq2 := SqTa K ot) (xs := sgs (bsOf y)) (ys := odv os) (fun i σ H' => ∃ bv ov : Option V, σ = [some (.str (S y)), some (.ref dr), some (.ref p2), bv, ov] ∧ H' p2 = some (.lst (txs (ws.map cordR ++ (List.zipWith bandR (bsOf y) (ods os)).take i))) ∧ SameB p2 H H')
    (by rw [sgs_len, odv_len, hol]) ⟨none, none, rfl, by simpa using hp3, SameB.of s03⟩ (fun i σ H' _ ⟨_, _, _, _, s⟩ => ⟨rfl, SqT.of (s _ _ hot (ne_of_none hot n2H))⟩) ?_ ?_
  · rintro i x z σ H4 T hx hz ⟨bv, ov, rfl, hp4, s4⟩ nT
    obtain ⟨b, hb, rfl⟩ := sgs_get hx
    have hi : i < os.length := by have := (List.getElem?_eq_some_iff.mp hz).1; rwa [odv_len] at this
    have ho : os[i]? = some os[i] := List.getElem?_eq_getElem hi
    have hz' := odv_at ho
    rw [hz] at hz'
    cases hz'
    have hmo := List.getElem_mem hi
    have eo := ods_at ho
    refine ⟨T, _, rfl, SqT.of upd_same, rfl, _, _, rfl, _, _, rfl, rfl, ?_⟩
    have sT := Same.upd (o := .tup [.str (S [b]), .ref os[i].o]) nT
    have hpT := sT _ _ hp4
    have s4T : SameB p2 H (upd H4 T (.tup [.str (S [b]), .ref os[i].o])) := s4.trans (SameB.of sT)
    generalize upd H4 T (.tup [.str (S [b]), .ref os[i].o]) = H5 at hpT s4T ⊢
    have ts : TSame H H5 := fun c xs e => s4T c _ e (ne_of_none e n2H)
    refine ⟨_, rfl, .inl ⟨rfl, _, SqL.of hpT⟩, ?_⟩
    refine ⟨_, rfl, _, rfl, b, os[i], rfl, (hod _ hmo).ts ts, fun p hp => ht.sm eo hb _ (List.mem_map.mpr ⟨p, hp, rfl⟩), fun H6 s6 => ?_⟩
    have hzl : (List.zipWith bandR (bsOf y) (ods os)).length = os.length := by rw [List.length_zipWith, ods_len]; omega
    refine ⟨p2, _, _, rfl, rfl, s6 _ _ hpT, by rw [txs_len, List.length_append, List.length_map, List.length_take]; omega, ?_⟩
    refine ⟨_, _, rfl, ?_, fun c o e w => by rw [upd_ne w]; exact s6 _ _ (s4T c o e w)⟩
    have ez : (List.zipWith bandR (bsOf y) (ods os))[i]? = some (bandR b (os[i].ps.map Pr.pair)) := by rw [List.getElem?_zipWith, hb, eo]
    rw [upd_same, txs_snoc, List.append_assoc, take_snoc ez]
  · rintro σ H4 ⟨bv, ov, rfl, hp4, s4⟩
    have hzl : (List.zipWith bandR (bsOf y) (ods os)).length = (sgs (bsOf y)).length := by rw [List.length_zipWith, ods_len, sgs_len]; omega
    rw [← hzl, List.take_length] at hp4
    have hsum := sum_le_mul (ps := rowsOf y ws (ods os)) fun x hx => (ht.rows x hx).2
    have hrl := rows_len (ws := ws) ht.ol
    rw [ods_len] at hrl
    refine ⟨rfl, _, rfl, p2, rowsOf y ws (ods os), rfl, rfl, SqL.of hp4, by omega, ?_⟩
    exact q _ fun c o e => s4 c o e (ne_of_none e n2H)
/-- names: 0 yard, 1 text, 2 at, 3 sign -/
theorem ok_foreign_sign (T : Txt K mg f0 f1 f2 f3 f4 f5 f6 f7 f8 f9 f10 f11 f12 f13 f14 f15 f16 f17 f18 f19 f20 f21 d0 d1 d2 d3 d4 d5 d6 d7 d8 d9 d10 d11 d12 d13 d14 d15 d16 d17 d18 d19 d20 d21) : FnOk P w K mg base CX0 1 f0 d0 ["yard", "text"] (sp_foreign_sign K) := by
  refine T.F0.fn.ok sc_foreign_sign (fun vs H Q E h => len_foreign_sign h) (fun cdv A outer s H vs Q E hr h => ?_)
  refine ⟨_, (pss_cons (ps_for PassesOwn.never rfl (pi_enumS rfl T.z_enumerate (pa_cons (pv 1) pa_nil)) (pg_tupK (n := 2) K rfl rfl (pgs_cons (pg_name (i := 2) sc_foreign_sign.nd rfl (Or.inl rfl)) (pgs_cons (pg_name (i := 3) sc_foreign_sign.nd rfl (Or.inl rfl)) pgs_nil))) (pss_one (ps_if (pt_cmpR op_ninS (pv 3) (pv 0) (by with_unfolding_all rfl)) (pss_one (ps_ret (pv 2))) pss_nil)))
      (pss_one (ps_ret pe_non))), ?_⟩
  obtain ⟨y, w, rfl, hw, q⟩ := h
  refine ⟨_, rfl, w, rfl, ?_⟩
  refine for_enum (fun i σ H' => ∃ av sv : Option V, σ = [some (.str (S y)), some (.str (S w)), av, sv] ∧ Same H H') ⟨none, none, rfl, Same.refl H⟩ ?_ ?_
  · rintro i c σ H1 T hc ⟨av, sv, rfl, s1⟩ nT
    refine ⟨T, _, rfl, SqT.of upd_same, rfl, _, _, rfl, _, _, rfl, rfl, ?_⟩
    refine ⟨_, rfl, _, rfl, c, y, rfl, rfl, _, rfl, iteN (by simp [hw c (List.mem_of_getElem? hc)]) ?_⟩
    exact ⟨_, _, rfl, s1.trans (Same.upd nT)⟩
  · rintro σ H1 ⟨av, sv, rfl, s1⟩
    exact q _ s1
/-- names: 0 yard, 1 row, 2 parts -/
theorem ok_read_cord (T : Txt K mg f0 f1 f2 f3 f4 f5 f6 f7 f8 f9 f10 f11 f12 f13 f14 f15 f16 f17 f18 f19 f20 f21 d0 d1 d2 d3 d4 d5 d6 d7 d8 d9 d10 d11 d12 d13 d14 d15 d16 d17 d18 d19 d20 d21) : FnOk P w K mg base CX0 2 f7 d7 ["yard", "row"] (sp_read_cord K) := by
  have G_foreign_sign := ok_foreign_sign (P := P) (w := w) (base := base) T
  refine T.F7.fn.ok sc_read_cord (fun vs H Q E h => len_read_cord h) (fun cdv A outer s H vs Q E hr h => ?_)
  refine ⟨_, (pss_cons (ps_set (i := 2) sc_read_cord.nd rfl (Or.inl rfl) (pe_bmK K rfl PySem.F.plainAttrs_str PySem.F.slot_str_split PySem.F.type_str_split (mt_splitC 32) (pv 1) (pa_cons (pe_S [32] (by decide +kernel)) pa_nil)))
      (pss_cons (ps_if (PW.pt (pw_or (pt_cmpR op_neI (pe_callB (call_len_seqK K rfl) rfl T.z_len PySem.boot_len (pa_cons (pv 2) pa_nil)) pe_int (nomark _)) (pw_or (pt_cmpR op_neS (pe_ix (ix_listK K rfl) (pv 2) pe_int (fun _ _ => rfl)) (pe_gS [99, 111, 114, 100] rfl T.g_CORD) (nomark _)) (pw_or1 (pt_cmpR op_eqS (pe_ix (ix_listK K rfl) (pv 2) pe_int (fun _ _ => rfl)) (pe_S [] (by decide +kernel)) (nomark _)))))) (pss_one (ps_ret pe_non)) pss_nil)
      (pss_cons (ps_if (pt_cmpR op_eqS (pe_ix (ix_listK K rfl) (pv 2) pe_int (fun _ _ => rfl)) (pe_gS [45] rfl T.g_NO_LETTERS) (nomark _)) (pss_one (ps_ret (pe_S [] (by decide +kernel)))) pss_nil)
      (pss_cons (ps_if (pt_cmpR op_notN (pe_call G_foreign_sign (hr.mono (by decide)) rfl T.F0.mg T.F0.fn.kp T.F0.bd .nil pass0 (pa_cons (pv 0) (pa_cons (pe_ix (ix_listK K rfl) (pv 2) pe_int (fun _ _ => rfl)) pa_nil))) pe_non (nomark _)) (pss_one (ps_ret pe_non)) pss_nil)
      (pss_one (ps_ret (pe_ix (ix_listK K rfl) (pv 2) pe_int (fun _ _ => rfl)))))))), ?_⟩
  obtain ⟨y, row, rfl, hh⟩ := h
  have hs : (2000000 : Nat) < sizeLine := by decide
  rcases hh with ⟨w, rfl, hw, hwl, q⟩ | ⟨b, ps, rfl, hb, hps, hpl, q⟩
  · have hlt : ∀ c ∈ w, Lt c := fun c hc => (hw c hc).2
    have hl := cordR_len hwl
    refine ⟨_, rfl, rfl, _, rfl, rfl, by omega, fun p np => ?_⟩
    rw [cordR_spl hlt]
    have hp : upd H p (.lst ([wCord, cordW w].map fun l => V.str (S l))) p = some (.lst [.str (S wCord), .str (S (cordW w))]) := upd_same
    have s1 := Same.upd (o := .lst ([wCord, cordW w].map fun l => V.str (S l))) np
    generalize upd H p (.lst ([wCord, cordW w].map fun l => V.str (S l))) = H1 at hp s1 ⊢
    have cw := (cordW_no hlt).2.2
    refine ⟨_, rfl, p, _, rfl, .inl (SqL.of hp), _, _, rfl, rfl, _, rfl, iteN rfl ?_⟩
    refine ⟨_, rfl, p, _, 0, _, rfl, rfl, SqL.of hp, rfl, _, _, rfl, rfl, _, rfl, iteN (by unfold wCord; simp) ?_⟩
    refine ⟨_, rfl, p, _, 1, _, rfl, rfl, SqL.of hp, rfl, _, _, rfl, rfl, _, rfl, iteN (by simp [cw]) ?_⟩
    refine ⟨_, rfl, p, _, 1, _, rfl, rfl, SqL.of hp, rfl, _, _, rfl, rfl, _, rfl, ite2 (fun e => ?_) (fun e => ?_)⟩
    · have e' : cordW w = [45] := of_decide_eq_true e
      have hn : w = [] := by
        by_cases z : w = []
        · exact z
        · exfalso
          unfold cordW at e'
          rw [if_neg z] at e'
          have := hlt 45 (by rw [e']; simp)
          exact (lt_no _ this.mem).2.2 rfl
      subst hn
      exact q _ s1
    · have hn : w ≠ [] := fun z => e (decide_eq_true (by unfold cordW; rw [if_pos z]))
      have ew : cordW w = w := by unfold cordW; rw [if_neg hn]
      rw [ew] at hp
      refine ⟨_, rfl, _, rfl, p, _, 1, _, rfl, rfl, SqL.of hp, rfl, y, w, rfl, fun c hc => (hw c hc).1, fun H2 s2 => ?_⟩
      refine ⟨rfl, _, rfl, iteN rfl ?_⟩
      exact ⟨_, rfl, p, _, 1, _, rfl, rfl, SqL.of (s2 _ _ hp), rfl, q _ (s1.trans s2)⟩
  · have hl := bandR_len hb hps (Nat.le_trans hpl (by decide))
    refine ⟨_, rfl, rfl, _, rfl, rfl, by omega, fun p np => ?_⟩
    rw [bandR_spl hb hps]
    have hp : upd H p (.lst ((bandP b ps).map fun l => V.str (S l))) p = some (.lst (txs (bandP b ps))) := upd_same
    have s1 := Same.upd (o := .lst ((bandP b ps).map fun l => V.str (S l))) np
    generalize upd H p (.lst ((bandP b ps).map fun l => V.str (S l))) = H1 at hp s1 ⊢
    refine ⟨_, rfl, p, _, rfl, .inl (SqL.of hp), _, _, rfl, rfl, _, rfl, ite2 (fun e => q _ s1) (fun e => ?_)⟩
    have at0 : atI (txs (bandP b ps)) 0 = some (V.str (S wBand)) := atI_nat (xs := txs (bandP b ps)) (j := 0) rfl
    refine ⟨_, rfl, p, _, 0, _, rfl, rfl, SqL.of hp, at0, _, _, rfl, rfl, _, rfl, iteY (by unfold wBand; simp) ?_⟩
    exact q _ s1
/-- names: 0 yard, 1 rows, 2 words, 3 row, 4 word -/
theorem ok_read_words (T : Txt K mg f0 f1 f2 f3 f4 f5 f6 f7 f8 f9 f10 f11 f12 f13 f14 f15 f16 f17 f18 f19 f20 f21 d0 d1 d2 d3 d4 d5 d6 d7 d8 d9 d10 d11 d12 d13 d14 d15 d16 d17 d18 d19 d20 d21) : FnOk P w K mg base CX0 3 f8 d8 ["yard", "rows"] (sp_read_words K) := by
  have G_read_cord := ok_read_cord (P := P) (w := w) (base := base) T
  refine T.F8.fn.ok sc_read_words (fun vs H Q E h => len_read_words h) (fun cdv A outer s H vs Q E hr h => ?_)
  refine ⟨_, (pss_cons (ps_set (i := 2) sc_read_words.nd rfl (Or.inl rfl) (pe_lst pa_nil))
      (pss_cons (ps_for PassesOwn.never rfl (pi_listK K rfl (pv 1)) (pg_name (i := 3) sc_read_words.nd rfl (Or.inl rfl)) (pss_cons (ps_set (i := 4) sc_read_words.nd rfl (Or.inl rfl) (pe_call G_read_cord (hr.mono (by decide)) rfl T.F7.mg T.F7.fn.kp T.F7.bd .nil pass0 (pa_cons (pv 0) (pa_cons (pv 3) pa_nil))))
      (pss_cons (ps_if (pt_cmpR op_isN (pv 4) pe_non (nomark _)) (pss_one ps_break) pss_nil)
      (pss_one (ps_expr (pe_bmK K rfl PySem.F.plainAttrs_list PySem.F.slot_list_append PySem.F.type_list_append mt_append (pv 2) (pa_cons (pv 4) pa_nil)))))))
      (pss_one (ps_ret (pe_callTy (call_tuple_ofK K rfl) rfl T.z_tuple boot_tuple (pa_cons (pv 2) pa_nil)))))), ?_⟩
  obtain ⟨y, p, ws, os, rfl, hp, ht, q⟩ := h
  have hs : (2000000 : Nat) < sizeLine := by decide
  have hrl := rows_len (ws := ws) ht.ol
  have hbl := ht.bl
  have hfew := ht.wo.few
  refine ⟨by show 0 ≤ sizeLine; decide, fun p1 n1 => ?_⟩
  have hpp : p ≠ p1 := ne_of_none hp n1
  refine ⟨_, rfl, p, rfl, ⟨_, SqL.of (Same.upd n1 _ _ hp)⟩, ?_⟩
  refine for_list (K := K) (a := p) (xs := txs (rowsOf y ws os)) (fun i σ H' => ∃ rv wv : Option V, σ = [some (.str (S y)), some (.ref p), some (.ref p1), rv, wv] ∧ i ≤ ws.length ∧ H' p1 = some (.lst (txs (ws.take i))) ∧ H' p = some (.lst (txs (rowsOf y ws os))) ∧ SameB p1 H H')
    ⟨none, none, rfl, Nat.zero_le _, upd_same, Same.upd n1 _ _ hp, SameB.of (Same.upd n1)⟩ (fun i σ H' _ ⟨_, _, _, _, _, h, _⟩ => SqL.of h) ?_ ?_
  · rintro i x σ H2 hx ⟨rv, wv, rfl, hi, hp1, hp2, s2⟩
    obtain ⟨r, hr0, rfl⟩ := txs_get hx
    have n1' : ∀ {H3 : Hp}, Same H2 H3 → SameB p1 H H3 := fun s3 => s2.trans (SameB.of s3)
    by_cases hiw : i < ws.length
    · have er : r = cordR ws[i] := Option.some.inj (hr0.symm.trans (rows_cord (List.getElem?_eq_getElem hiw)))
      have hm := List.getElem_mem hiw
      refine ⟨_, rfl, _, rfl, y, _, rfl, .inl ⟨ws[i], er, fun c hc => ⟨(ht.wo.all _ hm).1 c hc, ht.wl _ hm c hc⟩, (ht.wo.all _ hm).2, fun H3 s3 => ?_⟩⟩
      refine ⟨_, rfl, rfl, _, rfl, iteN rfl ?_⟩
      refine ⟨_, rfl, .inl ⟨rfl, _, SqL.of (s3 _ _ hp1)⟩, _, rfl, p1, _, _, rfl, rfl, s3 _ _ hp1, by rw [txs_len, List.length_take]; omega, ?_⟩
      refine ⟨_, _, rfl, hiw, by rw [upd_same, txs_snoc, take_snoc (List.getElem?_eq_getElem hiw)], by rw [upd_ne hpp]; exact s3 _ _ hp2, fun c o e z => by rw [upd_ne z]; exact s3 _ _ (s2 c o e z)⟩
    · have eil : i = ws.length := by omega
      obtain ⟨b, o, e1, e2⟩ := ht.at_ (j := 0) (by omega)
      have er : r = bandR b o := Option.some.inj (hr0.symm.trans (by rw [eil]; exact rows_band e1 e2))
      refine ⟨_, rfl, _, rfl, y, _, rfl, .inr ⟨b, o, er, ht.blt (List.mem_of_getElem? e2), ht.sm e1 e2, ht.few e1 e2, fun H3 s3 => ?_⟩⟩
      refine ⟨_, rfl, rfl, _, rfl, iteY rfl ?_⟩
      have hp13 := s3 _ _ hp1
      rw [eil, List.take_length] at hp13
      refine ⟨_, rfl, p1, _, rfl, .inl ⟨SqL.of hp13, fun t nt => ?_⟩⟩
      have sH : Same H H3 := fun c o e => s3 _ _ (s2 c o e (ne_of_none e n1))
      exact q t _ (sH.free nt) upd_same (sH.trans (Same.upd nt))
  · rintro σ H2 ⟨rv, wv, rfl, hi, _⟩
    rw [txs_len, hrl] at hi
    omega
/-- names: 0 words, 1 band, 2 found, 3 cord, 4 word, 5 place, 6 letter -/
theorem ok_strands_in (T : Txt K mg f0 f1 f2 f3 f4 f5 f6 f7 f8 f9 f10 f11 f12 f13 f14 f15 f16 f17 f18 f19 f20 f21 d0 d1 d2 d3 d4 d5 d6 d7 d8 d9 d10 d11 d12 d13 d14 d15 d16 d17 d18 d19 d20 d21) : FnOk P w K mg base CX0 1 f2 d2 ["words", "band"] (sp_strands_in K) := by
  refine T.F2.fn.ok sc_strands_in (fun vs H Q E h => len_strands_in h) (fun cdv A outer s H vs Q E hr h => ?_)
  refine ⟨_, (pss_cons (ps_set (i := 2) sc_strands_in.nd rfl (Or.inl rfl) (pe_lst pa_nil))
      (pss_cons (ps_for PassesOwn.never rfl (pi_enumT K rfl rfl T.z_enumerate (pa_cons (pv 0) pa_nil)) (pg_tupK (n := 2) K rfl rfl (pgs_cons (pg_name (i := 3) sc_strands_in.nd rfl (Or.inl rfl)) (pgs_cons (pg_name (i := 4) sc_strands_in.nd rfl (Or.inl rfl)) pgs_nil))) (pss_one (ps_for PassesOwn.never rfl (pi_enumS rfl T.z_enumerate (pa_cons (pv 4) pa_nil)) (pg_tupK (n := 2) K rfl rfl (pgs_cons (pg_name (i := 5) sc_strands_in.nd rfl (Or.inl rfl)) (pgs_cons (pg_name (i := 6) sc_strands_in.nd rfl (Or.inl rfl)) pgs_nil))) (pss_one (ps_if (pt_cmpR op_eqS (pe_bm0K K rfl PySem.F.plainAttrs_str PySem.F.slot_str_lower PySem.F.type_str_lower mt_lower (pv 6)) (pv 1) (nomark _)) (pss_one (ps_expr (pe_bmK K rfl PySem.F.plainAttrs_list PySem.F.slot_list_append PySem.F.type_list_append mt_append (pv 2) (pa_cons (pe_tup (pa_cons (pv 3) (pa_cons (pv 5) pa_nil))) pa_nil)))) pss_nil)))))
      (pss_one (ps_ret (pv 2))))), ?_⟩
  obtain ⟨wt, ws, band, rfl, hwt, hf, hw, hb, q⟩ := h
  have hs : (100000 : Nat) < sizeLine := by decide
  walk_at "wk"
  intro p1 n1
  refine ⟨_, rfl, wt, rfl, ⟨_, SqT.of ((Same.upd n1) _ _ hwt)⟩, ?_⟩
  refine for_enumT (K := K) (a := wt) (xs := txs ws) (fun j σ H' => ∃ (ps : List Pr) (cv wv pv lv : Option V), σ = [some (.ref wt), some (.str (S [band])), some (.ref p1), cv, wv, pv, lv] ∧ H' p1 = some (.lst (prv ps)) ∧ (∀ p ∈ ps, PrOk H' p) ∧ ps.map Pr.pair = strAll band ws j ∧ ps.length ≤ 12 * j ∧ Same H H')
    ⟨[], none, none, none, none, rfl, upd_same, fun _ h => absurd h List.not_mem_nil, rfl, Nat.zero_le _, Same.upd n1⟩ (fun j σ H' _ ⟨_, _, _, _, _, _, _, _, _, _, h⟩ => SqT.of (h _ _ hwt)) ?_ ?_
  · rintro j x σ H1 T hx ⟨ps, cv, wv, pv, lv, rfl, hp, hps, hpe, hpl, s1⟩ nT
    have hj : j < ws.length := by
      have := (List.getElem?_eq_some_iff.mp hx).1
      rwa [txs_len] at this
    rw [txs_at hj] at hx
    cases hx
    have hjw : ws[j]? = some ws[j] := List.getElem?_eq_getElem hj
    obtain ⟨hwl, hwz⟩ := hw _ (List.getElem_mem hj)
    generalize ws[j] = w at hjw hwl hwz ⊢
    refine ⟨T, _, rfl, SqT.of upd_same, rfl, _, _, rfl, _, _, rfl, rfl, ?_⟩
    have sT := Same.upd (o := .tup [.int j, .str (S w)]) nT
    refine ⟨_, rfl, w, rfl, ?_⟩
    refine for_enum (l := w) (fun m σ H' => ∃ (us : List Pr) (pv lv : Option V), σ = [some (.ref wt), some (.str (S [band])), some (.ref p1), some (.int j), some (.str (S w)), pv, lv] ∧ H' p1 = some (.lst (prv us)) ∧ (∀ p ∈ us, PrOk H' p) ∧ us.map Pr.pair = strAll band ws j ++ strUp band j w m ∧ us.length ≤ 12 * j + m ∧ Same H H')
      ⟨ps, pv, lv, rfl, sT _ _ hp, fun p hp' => (hps p hp').same sT, by rw [hpe]; show _ = _ ++ []; rw [List.append_nil], by omega, s1.trans sT⟩ ?_ ?_
    · rintro m l σ H2 T2 hm ⟨us, pv2, lv2, rfl, hp2, hus, hue, hul, s2⟩ nT2
      have hmw : m < w.length := (List.getElem?_eq_some_iff.mp hm).1
      have hll := hwl l (List.mem_of_getElem? hm)
      have es := strUp_succ (band := band) (c := j) hm
      have sT2 := Same.upd (o := .tup [.int m, .str (S [l])]) nT2
      refine ⟨T2, _, rfl, SqT.of upd_same, rfl, _, _, rfl, _, _, rfl, rfl, ?_⟩
      refine ⟨_, rfl, rfl, l, rfl, rfl, hll.lt, _, rfl, [PyProof.Rows.lo1 l], [band], rfl, rfl, _, rfl, ?_⟩
      have ev : decide ([PyProof.Rows.lo1 l] = [band]) = onB band l := by rw [← low_on hb hll]; simp
      rw [ev]
      have hp2' := sT2 _ _ hp2
      refine ite2 (fun z => ?_) (fun z => ?_)
      · rw [if_pos z] at es
        refine ⟨_, rfl, .inl ⟨rfl, _, SqL.of hp2'⟩, _, rfl, _, rfl, by show 2 ≤ sizeLine; decide, fun t nt => ?_⟩
        have hp3 := (Same.upd (o := .tup [.int j, .int m]) nt) _ _ hp2'
        have s3 := sT2.trans (Same.upd (o := .tup [.int j, .int m]) nt)
        refine ⟨p1, _, _, rfl, rfl, hp3, by rw [prv_len]; omega, ?_⟩
        refine ⟨us ++ [⟨t, j, m⟩], _, _, rfl, by rw [upd_same]; exact congrArg (fun x => some (HO.lst x)) (prv_snoc us ⟨t, j, m⟩), fun p hp' => ?_, by rw [List.map_append, hue, es, List.append_assoc]; rfl, by rw [List.length_append]; show us.length + 1 ≤ _; omega, fun a o ea => by rw [upd_ne (ne_of_none ea n1)]; exact s3 _ _ (s2 a o ea)⟩
        rcases List.mem_append.mp hp' with g | g
        · exact ((hus p g).same s3).ts (TSame.updL hp3)
        · have e2 := List.mem_singleton.mp g
          subst e2
          exact PrOk.ts (H := upd (upd H2 T2 (.tup [.int m, .str (S [l])])) t (.tup [.int j, .int m])) ⟨upd_same, by show j < 1000; omega, by show m < 1000; omega⟩ (TSame.updL hp3)
      · rw [if_neg z, List.append_nil] at es
        exact ⟨us, _, _, rfl, hp2', fun p hp' => (hus p hp').same sT2, by rw [hue, es], by omega, s2.trans sT2⟩
    · rintro σ H2 ⟨us, pv2, lv2, rfl, hp2, hus, hue, hul, s2⟩
      exact ⟨us, _, _, _, _, rfl, hp2, hus, by rw [hue, strAll_succ hjw], by omega, s2⟩
  · rintro σ H1 ⟨ps, cv, wv, pv, lv, rfl, hp, hps, hpe, hpl, s1⟩
    rw [txs_len] at hpe
    exact ⟨_, rfl, q p1 ps H1 n1 hp hps hpe s1⟩
/-- names: 0 words, 1 band, 2 row, 3 strands, 4 strand, 5 parts -/
theorem ok_read_order (T : Txt K mg f0 f1 f2 f3 f4 f5 f6 f7 f8 f9 f10 f11 f12 f13 f14 f15 f16 f17 f18 f19 f20 f21 d0 d1 d2 d3 d4 d5 d6 d7 d8 d9 d10 d11 d12 d13 d14 d15 d16 d17 d18 d19 d20 d21) : FnOk P w K mg base CX0 2 f9 d9 ["words", "band", "row"] (sp_read_order K) := by
  have G_strands_in := ok_strands_in (P := P) (w := w) (base := base) T
  have G_strand_text := ok_strand_text (P := P) (w := w) (base := base) T
  refine T.F9.fn.ok sc_read_order (fun vs H Q E h => len_read_order h) (fun cdv A outer s H vs Q E hr h => ?_)
  refine ⟨_, (pss_cons (ps_set (i := 3) sc_read_order.nd rfl (Or.inr rfl) pe_dnewK)
      (pss_cons (ps_for PassesOwn.never rfl (pi_listK K rfl (pe_call G_strands_in (hr.mono (by decide)) rfl T.F2.mg T.F2.fn.kp T.F2.bd .nil pass0 (pa_cons (pv 0) (pa_cons (pv 1) pa_nil)))) (pg_name (i := 4) sc_read_order.nd rfl (Or.inl rfl)) (pss_one (ps_dput (hu_of hr) (pv 3) (pe_call G_strand_text (hr.mono (by decide)) rfl T.F3.mg T.F3.fn.kp T.F3.bd .nil pass0 (pa_cons (pv 4) pa_nil)) (pv 4) rfl)))
      (pss_cons (ps_set (i := 5) sc_read_order.nd rfl (Or.inl rfl) (pe_bmK K rfl PySem.F.plainAttrs_str PySem.F.slot_str_split PySem.F.type_str_split (mt_splitC 32) (pv 2) (pa_cons (pe_S [32] (by decide +kernel)) pa_nil)))
      (pss_cons (ps_if (PW.pt (pw_or (pt_cmpR (op_neD K rfl hr) (pe_slice (sl_listK K rfl) (pv 5) po_none (po_some pe_int)) (pe_lst (pa_cons (pe_gS [98, 97, 110, 100] rfl T.g_BAND) (pa_cons (pv 1) pa_nil))) (nomark _)) (pw_or1 (pt_cmpR (op_neD K rfl hr) (pe_callB (call_sortedK K rfl) rfl T.z_sorted boot_sorted (pa_cons (pe_slice (sl_listK K rfl) (pv 5) (po_some pe_int) po_none) pa_nil)) (pe_callB (call_sortedD rfl) rfl T.z_sorted boot_sorted (pa_cons (pv 3) pa_nil)) (nomark _))))) (pss_one (ps_ret pe_non)) pss_nil)
      (pss_one (ps_ret (pe_callTy (call_tuple_ofK K rfl) rfl T.z_tuple boot_tuple (pa_cons (pe_compB ["part", "strands"] [none, some 3] (pi_listK K rfl (pe_slice (sl_listK K rfl) (pv 5) (po_some pe_int) po_none)) ⟨⟨rfl, rfl, by first | exact .inl rfl | exact .inr rfl⟩, trivial⟩ (fun _ _ _ _ => (pg_name (i := 0) (by decide +kernel : List.Nodup (["part", "strands"] : List Str)) rfl (Or.inl rfl))) (fun _ _ _ _ => pf_nil) (fun _ _ _ _ => (pe_dget (hu_of hr) (pv 1) (pv 0) (fun _ _ => rfl)))) pa_nil)))))))), ?_⟩
  obtain ⟨y, wt, ws, b, ps, rfl, hwt, hw, hlt, hb, hpm, q⟩ := h
  have hs : (2000000 : Nat) < sizeLine := by decide
  have hsm : ∀ p ∈ ps, SmP p := fun p hp => strAll_sm hw p (hpm.mem_iff.mp hp)
  have hbL : Lt b := .inl hb
  have hsl : (strAll b ws ws.length).length ≤ 48 := by
    have := strAll_len b (fun w hw' => (hw.all w hw').2) ws.length (Nat.le_refl _)
    have := hw.few
    omega
  have hpl : ps.length ≤ 48 := by rw [hpm.length_eq]; exact hsl
  intro d nd
  have sd := Same.upd (o := HO.dK []) nd
  refine ⟨_, rfl, _, rfl, wt, ws, b, rfl, sd _ _ hwt, hw.few, fun w hw' => ⟨hlt w hw', (hw.all w hw').2⟩, hb, fun qa ss H2 nq hq hss hpe s2 => ?_⟩
  have hd2 : H2 d = some (.dK []) := s2 _ _ upd_same
  have hqd : qa ≠ d := fun z => by rw [z, upd_same] at nq; cases nq
  have hssm : ∀ p ∈ ss, SmP p.pair := fun p hp => strAll_sm hw _ (by rw [← hpe]; exact List.mem_map.mpr ⟨p, hp, rfl⟩)
  have hssl : ss.length ≤ 48 := by have := congrArg List.length hpe; rw [List.length_map] at this; omega
  have hnd : (ss.map Pr.pair).Nodup := by rw [hpe]; exact strAll_nd _ _ _
  refine ⟨qa, rfl, ⟨_, SqL.of hq⟩, ?_⟩
  refine for_list (K := K) (a := qa) (xs := prv ss) (fun i σ H' => ∃ sv : Option V, σ = [some (.ref wt), some (.str (S [b])), some (.str (S (bandR b ps))), some (.ref d), sv, none] ∧ H' d = some (.dK (kvD (ss.take i))) ∧ SameB d H2 H')
    ⟨none, rfl, hd2, SameB.refl _ _⟩ (fun i σ H' _ ⟨_, _, _, s3⟩ => SqL.of (s3 _ _ hq hqd)) ?_ ?_
  · rintro i x σ H3 hx ⟨sv, rfl, hd3, s3⟩
    obtain ⟨p, hp, rfl⟩ := prv_at hx
    have hm := List.mem_of_getElem? hp
    have hi := (List.getElem?_eq_some_iff.mp hp).1
    have hpt : p.t ≠ d := fun z => by have := (hss p hm).tp; rw [z, hd2] at this; cases this
    have hnew : p.pair ∉ (ss.take i).map Pr.pair := fun z => by
      have e : (ss.map Pr.pair)[i]? = some p.pair := by rw [List.getElem?_map, hp]; rfl
      rw [List.map_take] at z
      have h1 := (List.getElem?_eq_some_iff.mp e)
      obtain ⟨j, hj, e2⟩ := List.getElem_of_mem z
      rw [List.length_take] at hj
      rw [List.getElem_take] at e2
      have := (List.getElem_inj hnd).mp (e2.trans h1.2.symm)
      omega
    refine ⟨_, rfl, _, rfl, _, rfl, p, rfl, ⟨s3 _ _ (hss p hm).tp hpt, (hss p hm).cz, (hss p hm).iz⟩, hssm p hm, d, _, rfl, DPut.k (k := sk p.pair) hd3 (by unfold kvD; rw [List.length_map, List.length_take]; omega), ?_⟩
    refine ⟨_, rfl, ?_, fun c o e z => by rw [upd_ne z]; exact s3 c o e z⟩
    rw [upd_same, putK_new _ (kvD_none (fun r hr => hssm r (List.mem_of_mem_take hr)) (hssm p hm) hnew), ← take_snoc hp]
    unfold kvD
    rw [List.map_append]
    rfl
  rintro σ H3 ⟨sv, rfl, hd3, s3⟩
  rw [prv_len, List.take_length] at hd3
  have hss3 : ∀ p ∈ ss, PrOk H3 p := fun p hm => ⟨s3 _ _ (hss p hm).tp (fun z => by have := (hss p hm).tp; rw [z, hd2] at this; cases this), (hss p hm).cz, (hss p hm).iz⟩
  have s03 : Same H H3 := fun c o e => s3 _ _ (s2 _ _ (sd c o e)) (ne_of_none e nd)
  clear s3 hd2 hss hq nq s2 hqd
  have hrl := bandR_len hbL hsm (Nat.le_trans hpl (by decide))
  refine ⟨_, rfl, rfl, _, rfl, rfl, by omega, fun p5 n5 => ?_⟩
  rw [bandR_spl hbL hsm]
  have hp5 : upd H3 p5 (.lst ((bandP b ps).map fun l => V.str (S l))) p5 = some (.lst (txs (bandP b ps))) := upd_same
  have s5 := Same.upd (o := .lst ((bandP b ps).map fun l => V.str (S l))) n5
  generalize upd H3 p5 (.lst ((bandP b ps).map fun l => V.str (S l))) = H5 at hp5 s5 ⊢
  have cv1 : cutV (txs (bandP b ps)) none (some 2) = txs [wBand, [b]] := by
    have := cut_to (txs (bandP b ps)) 2
    rw [show ((2 : Nat) : Int) = 2 from rfl] at this
    show cut (txs (bandP b ps)) none (some 2) = _
    rw [this]; rfl
  have cv2 : cutV (txs (bandP b ps)) (some 2) none = txs (ps.map stx) := by
    have := cut_from (txs (bandP b ps)) 2
    rw [show ((2 : Nat) : Int) = 2 from rfl] at this
    show cut (txs (bandP b ps)) (some 2) none = _
    rw [this]; rfl
  refine ⟨_, rfl, _, rfl, p5, _, rfl, SqL.of hp5, fun p6 n6 => ?_⟩
  rw [cv1]
  have h56 : p5 ≠ p6 := ne_of_none hp5 n6
  have s6 := Same.upd (o := .lst (txs [wBand, [b]])) n6
  have hp6 : upd H5 p6 (.lst (txs [wBand, [b]])) p6 = some (.lst (txs [wBand, [b]])) := upd_same
  generalize upd H5 p6 (.lst (txs [wBand, [b]])) = H6 at s6 hp6 ⊢
  refine ⟨_, rfl, by show 2 ≤ sizeLine; decide, fun p7 n7 => ?_⟩
  have s7 := Same.upd (o := .lst [V.str (S [98, 97, 110, 100]), V.str (S [b])]) n7
  have hp7 : upd H6 p7 (.lst [V.str (S [98, 97, 110, 100]), V.str (S [b])]) p7 = some (.lst (txs [wBand, [b]])) := upd_same
  generalize upd H6 p7 (.lst [V.str (S [98, 97, 110, 100]), V.str (S [b])]) = H7 at s7 hp7 ⊢
  have lay1 : ∀ l ∈ [wBand, [b]], ∀ c ∈ l, c < 128 := fun l hl c hc => by
    rcases List.mem_cons.mp hl with g | g
    · rw [g] at hc; revert c hc; decide
    · rw [List.mem_singleton.mp g] at hc; rw [List.mem_singleton.mp hc]; exact hbL.lt
  refine ⟨.list (tds [wBand, [b]]), .list (tds [wBand, [b]]), .lst (SqL.of (s7 _ _ hp6)) (rdds_txs _), .lst (SqL.of hp7) (rdds_txs _), ⟨lay_txs lay1, lay_txs lay1⟩, by show PyData.depthAll (tds [wBand, [b]]) + 1 ≤ 60; rw [depth_txs]; decide, ?_⟩
  refine ⟨_, rfl, iteN (by rw [eqv_refl (.list (tds [wBand, [b]])) (show PyData.hasDictAll (tds [wBand, [b]]) = false from dict_txs _)]; rfl) ?_⟩
  have hp57 := s7 _ _ (s6 _ _ hp5)
  refine ⟨_, rfl, _, rfl, p5, _, rfl, SqL.of hp57, fun p8 n8 => ?_⟩
  rw [cv2]
  refine ⟨p8, ps.map stx, rfl, SqL.of upd_same, by rw [List.length_map]; omega, fun p9 ms n9 pm9 pw9 => ?_⟩
  have s9 := (Same.upd (o := .lst (txs (ps.map stx))) n8).trans (Same.upd (o := .lst (ms.map fun l => V.str (S l))) n9)
  have hp9 : upd (upd H7 p8 (.lst (txs (ps.map stx)))) p9 (.lst (ms.map fun l => V.str (S l))) p9 = some (.lst (txs ms)) := upd_same
  generalize upd (upd H7 p8 (.lst (txs (ps.map stx)))) p9 (.lst (ms.map fun l => V.str (S l))) = H9 at s9 hp9 ⊢
  have s39 : Same H3 H9 := ((s5.trans s6).trans s7).trans s9
  refine ⟨_, rfl, d, kvD ss, (ss.map Pr.pair).map stx, rfl, s39 _ _ hd3, kvD_keys ss, by rw [List.length_map, List.length_map]; omega, fun p10 ns n10 pm10 pw10 => ?_⟩
  have emn : ms = ns := sorted_same pm9 (pm10.trans (by rw [hpe]; exact (hpm.map stx).symm)) pw9 pw10
  subst emn
  have s10 := Same.upd (o := .lst (ms.map fun l => V.str (S l))) n10
  have hp10 : upd H9 p10 (.lst (ms.map fun l => V.str (S l))) p10 = some (.lst (txs ms)) := upd_same
  generalize upd H9 p10 (.lst (ms.map fun l => V.str (S l))) = H10 at s10 hp10 ⊢
  have lay2 : ∀ l ∈ ms, ∀ c ∈ l, c < 128 := fun l hl => by
    obtain ⟨p, hp, rfl⟩ := List.mem_map.mp (pm9.mem_iff.mp hl)
    exact stx_lt (hsm p hp)
  refine ⟨.list (tds ms), .list (tds ms), .lst (SqL.of (s10 _ _ hp9)) (rdds_txs _), .lst (SqL.of hp10) (rdds_txs _), ⟨lay_txs lay2, lay_txs lay2⟩, by show PyData.depthAll (tds ms) + 1 ≤ 60; rw [depth_txs]; decide, ?_⟩
  refine ⟨_, rfl, iteN (by rw [eqv_refl (.list (tds ms)) (show PyData.hasDictAll (tds ms) = false from dict_txs _)]; rfl) ?_⟩
  have hp510 := s10 _ _ (s9 _ _ hp57)
  refine ⟨_, rfl, _, rfl, p5, _, rfl, SqL.of hp510, fun p11 n11 => ?_⟩
  rw [cv2]
  have s11 := Same.upd (o := .lst (txs (ps.map stx))) n11
  have hp11 : upd H10 p11 (.lst (txs (ps.map stx))) p11 = some (.lst (txs (ps.map stx))) := upd_same
  generalize upd H10 p11 (.lst (txs (ps.map stx))) = H11 at s11 hp11 ⊢
  have s3L : Same H3 H11 := (s39.trans s10).trans s11
  refine ⟨p11, rfl, ⟨_, SqL.of hp11⟩, ?_⟩
  refine comp_list (K := K) (a := p11) (xs := txs (ps.map stx)) (fun i acc H' => H' = H11 ∧ ∃ qs : List Pr, acc = prv qs ∧ qs.map Pr.pair = ps.take i ∧ ∀ r ∈ qs, r ∈ ss) (by rw [txs_len, List.length_map]; omega) (fun i acc H' h => by rw [h.1]; exact SqL.of hp11) ⟨rfl, [], rfl, rfl, fun _ h => absurd h List.not_mem_nil⟩ ?_ ?_
  · rintro i x acc H12 Nx hi hx hal ⟨rfl, qs, rfl, hqs, hqm⟩ nx
    obtain ⟨l, hl, rfl⟩ := txs_get hx
    rw [List.getElem?_map] at hl
    cases e : ps[i]? with
    | none => rw [e] at hl; cases hl
    | some p =>
      rw [e] at hl; cases hl
      have hpp := List.mem_of_getElem? e
      obtain ⟨r, hr, e1, e2⟩ := kvD_some hssm (hsm p hpp) (by rw [hpe]; exact hpm.mem_iff.mp hpp)
      refine ⟨⟨rfl, trivial⟩, yes_ite ?_⟩
      refine ⟨_, rfl, _, rfl, d, _, rfl, by rw [← e2]; exact DGet.k (k := sk p) (s3L _ _ hd3), ?_⟩
      refine nx _ _ (by simpa using hal) ⟨rfl, qs ++ [r], prv_snoc qs r, by rw [List.map_append, hqs, ← take_snoc e, List.map_cons, List.map_nil, e1], fun z hz => ?_⟩
      rcases List.mem_append.mp hz with g | g
      · exact hqm z g
      · rw [List.mem_singleton.mp g]; exact hr
  rintro acc H12 D hal ⟨rfl, qs, rfl, hqs, hqm⟩ hD
  rw [txs_len, List.length_map, List.take_length] at hqs
  refine ⟨D, _, rfl, .inl ⟨SqL.of upd_same, fun t nt => ?_⟩⟩
  have sE := (s3L.trans (Same.upd (o := .lst (prv qs)) hD)).trans (Same.upd (o := .tup (prv qs)) nt)
  refine q ⟨t, qs⟩ _ ⟨upd_same, fun r hr => (hss3 r (hqm r hr)).same sE, ?_⟩ hqs (s03.trans sE)
  have := congrArg List.length hqs
  rw [List.length_map] at this
  show qs.length ≤ 100
  omega
/-- names: 0 yard, 1 text, 2 rows, 3 words, 4 orders, 5 row, 6 band, 7 order -/
theorem ok_read_drawing (T : Txt K mg f0 f1 f2 f3 f4 f5 f6 f7 f8 f9 f10 f11 f12 f13 f14 f15 f16 f17 f18 f19 f20 f21 d0 d1 d2 d3 d4 d5 d6 d7 d8 d9 d10 d11 d12 d13 d14 d15 d16 d17 d18 d19 d20 d21) : FnOk P w K mg base CX0 4 f10 d10 ["yard", "text"] (sp_read_drawing K) := by
  have G_read_words := ok_read_words (P := P) (w := w) (base := base) T
  have G_bands := ok_bands (P := P) (w := w) (base := base) T
  have G_read_order := ok_read_order (P := P) (w := w) (base := base) T
  refine T.F10.fn.ok sc_read_drawing (fun vs H Q E h => len_read_drawing h) (fun cdv A outer s H vs Q E hr h => ?_)
  refine ⟨_, (pss_cons (ps_set (i := 2) sc_read_drawing.nd rfl (Or.inl rfl) (pe_bmK K rfl PySem.F.plainAttrs_str PySem.F.slot_str_split PySem.F.type_str_split (mt_splitC 10) (pv 1) (pa_cons (pe_S [10] (by decide +kernel)) pa_nil)))
      (pss_cons (ps_set (i := 3) sc_read_drawing.nd rfl (Or.inl rfl) (pe_call G_read_words (hr.mono (by decide)) rfl T.F8.mg T.F8.fn.kp T.F8.bd .nil pass0 (pa_cons (pv 0) (pa_cons (pv 2) pa_nil))))
      (pss_cons (ps_set (i := 4) sc_read_drawing.nd rfl (Or.inl rfl) (pe_lst pa_nil))
      (pss_cons (ps_set (i := 5) sc_read_drawing.nd rfl (Or.inl rfl) (pe_callB (call_len_seqK K rfl) rfl T.z_len PySem.boot_len (pa_cons (pv 3) pa_nil)))
      (pss_cons (ps_for PassesOwn.never rfl (pi_str (pe_call G_bands (hr.mono (by decide)) rfl T.F1.mg T.F1.fn.kp T.F1.bd .nil pass0 (pa_cons (pv 0) pa_nil))) (pg_name (i := 6) sc_read_drawing.nd rfl (Or.inl rfl)) (pss_cons (ps_set (i := 7) sc_read_drawing.nd rfl (Or.inl rfl) (pe_ifExp (pt_cmpR op_lt (pv 5) (pe_callB (call_len_seqK K rfl) rfl T.z_len PySem.boot_len (pa_cons (pv 2) pa_nil)) (nomark _)) (pe_call G_read_order (hr.mono (by decide)) rfl T.F9.mg T.F9.fn.kp T.F9.bd .nil pass0 (pa_cons (pv 3) (pa_cons (pv 6) (pa_cons (pe_ix (ix_listK K rfl) (pv 2) (pv 5) (fun _ _ => rfl)) pa_nil)))) pe_non))
      (pss_cons (ps_if (pt_cmpR op_isN (pv 7) pe_non (nomark _)) (pss_one ps_never) pss_nil)
      (pss_cons (ps_expr (pe_bmK K rfl PySem.F.plainAttrs_list PySem.F.slot_list_append PySem.F.type_list_append mt_append (pv 4) (pa_cons (pv 7) pa_nil)))
      (pss_one (ps_aug (i := 5) sc_read_drawing.nd rfl (Or.inl rfl) pe_int ip_add))))))
      (pss_cons (ps_if (pt_cmpR op_lt (pv 5) (pe_callB (call_len_seqK K rfl) rfl T.z_len PySem.boot_len (pa_cons (pv 2) pa_nil)) (nomark _)) (pss_one ps_never) pss_nil)
      (pss_one (ps_ret (pe_tup (pa_cons (pv 3) (pa_cons (pe_callTy (call_tuple_ofK K rfl) rfl T.z_tuple boot_tuple (pa_cons (pv 4) pa_nil)) pa_nil))))))))))), ?_⟩
  obtain ⟨y, ws, os, rfl, ht, q⟩ := h
  have hs : (2000000 : Nat) < sizeLine := by decide
  have htl := ht.tlen
  have hbl := ht.bl
  have hfew := ht.wo.few
  have hrl := rows_len (ws := ws) ht.ol
  refine ⟨_, rfl, rfl, _, rfl, rfl, by omega, fun p1 n1 => ?_⟩
  rw [ht.spl]
  have hp1 : upd H p1 (.lst ((rowsOf y ws os).map fun l => V.str (S l))) p1 = some (.lst (txs (rowsOf y ws os))) := upd_same
  have s1 := Same.upd (o := .lst ((rowsOf y ws os).map fun l => V.str (S l))) n1
  generalize upd H p1 (.lst ((rowsOf y ws os).map fun l => V.str (S l))) = H1 at hp1 s1 ⊢
  refine ⟨_, rfl, _, rfl, y, p1, ws, os, rfl, hp1, ht, fun wt H2 nwt hwt s2 => ?_⟩
  refine ⟨by show 0 ≤ sizeLine; decide, fun p3 n3 => ?_⟩
  have hp3 : upd H2 p3 (.lst []) p3 = some (.lst (odv [])) := upd_same
  have s3 := Same.upd (o := .lst []) n3
  have n3H : H p3 = none := (s1.trans s2).free n3
  have h13 : p1 ≠ p3 := ne_of_none (s2 _ _ hp1) n3
  have hwt3 : wt ≠ p3 := ne_of_none hwt n3
  have hwtH := s3 _ _ hwt
  have hp13 := s3 _ _ (s2 _ _ hp1)
  have s03 : Same H (upd H2 p3 (.lst [])) := (s1.trans s2).trans s3
  generalize upd H2 p3 (.lst []) = H3 at hp3 s03 hwtH hp13 ⊢
  refine ⟨_, rfl, wt, _, rfl, .inr (SqT.of hwtH), ?_⟩
  rw [txs_len]
  refine ⟨_, rfl, y, rfl, lt128 ht.yd.lt, by have := ht.y8; omega, fun l' H4 hl' hpw s4 => ⟨l', rfl, ?_⟩⟩
  have el := bsOf_eq hl' hpw
  subst el
  refine for_fix (xs := sgs (bsOf y)) (fun i σ H' => ∃ (od : List Od) (bv ov : Option V), σ = [some (.str (S y)), some (.str (S (textOf y ws os))), some (.ref p1), some (.ref wt), some (.ref p3), some (.int ((ws.length + i : Nat) : Int)), bv, ov] ∧ H' p3 = some (.lst (odv od)) ∧ ods od = os.take i ∧ (∀ o ∈ od, OdOk H' o) ∧ H' p1 = some (.lst (txs (rowsOf y ws os))) ∧ H' wt = some (.tup (txs ws)) ∧ SameB p3 H H')
    ⟨[], none, none, rfl, s4 _ _ hp3, rfl, fun _ h => absurd h List.not_mem_nil, s4 _ _ hp13, s4 _ _ hwtH, SameB.of (s03.trans s4)⟩ ?_ ?_
  · rintro i x σ H5 hx ⟨od, bv, ov, rfl, hp5, hod, hok, hr5, hw5, s5⟩
    obtain ⟨b, hb, rfl⟩ := sgs_get hx
    have hi : i < os.length := by rw [ht.ol]; exact (List.getElem?_eq_some_iff.mp hb).1
    have ho : os[i]? = some os[i] := List.getElem?_eq_getElem hi
    have hrow := rows_band (ws := ws) ho hb
    have hodl : od.length = i := by have := congrArg List.length hod; rw [ods_len, List.length_take] at this; omega
    have hbs := bs_small ht.yd (List.mem_of_getElem? hb)
    refine ⟨_, rfl, _, rfl, p1, _, rfl, .inl (SqL.of hr5), _, _, rfl, rfl, _, rfl, iteY (decide_eq_true (by rw [txs_len, hrl]; omega)) ?_⟩
    refine ⟨_, rfl, _, rfl, _, rfl, _, rfl, p1, _, _, _, rfl, rfl, SqL.of hr5, atI_nat (by unfold txs; rw [List.getElem?_map, hrow]; rfl), ?_⟩
    refine ⟨y, wt, ws, b, os[i], rfl, hw5, ht.wo, ht.wl, hbs, ht.pm i _ b ho hb, fun o H6 hok6 hpe s6 => ?_⟩
    refine ⟨_, rfl, rfl, _, rfl, iteN rfl ?_⟩
    have hp6 := s6 _ _ hp5
    refine ⟨_, rfl, .inl ⟨rfl, _, SqL.of hp6⟩, _, rfl, p3, _, _, rfl, rfl, hp6, by rw [odv_len]; omega, ?_⟩
    have ts : TSame H6 (upd H6 p3 (.lst (odv od ++ [.ref o.o]))) := TSame.updL hp6
    refine ⟨_, rfl, _, _, rfl, rfl, ?_⟩
    refine ⟨od ++ [o], some (.str (S [b])), some (.ref o.o), ?_, by rw [upd_same, odv_snoc], ?_, fun z hz => ?_, by rw [upd_ne h13]; exact s6 _ _ hr5, by rw [upd_ne hwt3]; exact s6 _ _ hw5, fun c u e w => by rw [upd_ne w]; exact s6 _ _ (s5 c u e w)⟩
    · have : ((ws.length + i : Nat) : Int) + 1 = ((ws.length + (i + 1) : Nat) : Int) := by omega
      show [_, _, _, _, _, some (V.int (((ws.length + i : Nat) : Int) + 1)), _, _] = _
      rw [this]
    · rw [← take_snoc ho, ← hod]
      unfold ods
      rw [List.map_append, List.map_cons, List.map_nil, hpe]
    · rcases List.mem_append.mp hz with g | g
      · exact ((hok z g).same s6).ts ts
      · rw [List.mem_singleton.mp g]; exact hok6.ts ts
  · rintro σ H5 ⟨od, bv, ov, rfl, hp5, hod, hok, hr5, hw5, s5⟩
    rw [sgs_len] at *
    refine ⟨_, rfl, _, rfl, p1, _, rfl, .inl (SqL.of hr5), _, _, rfl, rfl, _, rfl, iteN (decide_eq_false (by rw [txs_len, hrl, ht.ol]; omega)) ?_⟩
    refine ⟨_, rfl, _, rfl, p3, _, rfl, .inl ⟨SqL.of hp5, fun t6 n6 => ⟨by show 2 ≤ sizeLine; decide, fun t7 n7 => ?_⟩⟩⟩
    have s57 := (Same.upd (o := .tup (odv od)) n6).trans (Same.upd (o := .tup [.ref wt, .ref t6]) n7)
    have h67 : t6 ≠ t7 := fun z => by rw [← z, upd_same] at n7; cases n7
    have sH5 : Same H H5 := fun c o e => s5 c o e (ne_of_none e n3H)
    refine q t7 od _ ⟨⟨wt, t6, upd_same, s57 _ _ hw5, by rw [upd_ne h67, upd_same]⟩, fun o ho => (hok o ho).same s57⟩ ?_ (sH5.trans s57)
    rw [hod, ← ht.ol, List.take_length]
/-- names: 0 _law_script, 1 _law_asked, 2 _law_k, 3 _law_box_here, 4 _law_yard_here, 5 _law_drawing_here, 6 _law_due -/
theorem ok_law (T : Txt K mg f0 f1 f2 f3 f4 f5 f6 f7 f8 f9 f10 f11 f12 f13 f14 f15 f16 f17 f18 f19 f20 f21 d0 d1 d2 d3 d4 d5 d6 d7 d8 d9 d10 d11 d12 d13 d14 d15 d16 d17 d18 d19 d20 d21) : FnOk P w K mg base CX0 5 f21 d21 ["_law_script"] (sp_law K) := by
  have G_Lbox := ok_Lbox (P := P) (w := w) (base := base) T
  have G_Lyard := ok_Lyard (P := P) (w := w) (base := base) T
  have G_Ldrawing := ok_Ldrawing (P := P) (w := w) (base := base) T
  have G_Lwords := ok_Lwords (P := P) (w := w) (base := base) T
  have G_Ltext := ok_Ltext (P := P) (w := w) (base := base) T
  have G_show_drawing := ok_show_drawing (P := P) (w := w) (base := base) T
  have G_read_drawing := ok_read_drawing (P := P) (w := w) (base := base) T
  refine T.F21.fn.ok sc_law (fun vs H Q E h => len_law h) (fun cdv A outer s H vs Q E hr h => ?_)
  refine ⟨_, (pss_cons (ps_set (i := 1) sc_law.nd rfl (Or.inl rfl) (pe_lst pa_nil))
      (pss_cons (ps_for PassesOwn.never rfl (pi_range1 rfl T.z_range (pa_cons pe_int pa_nil)) (pg_name (i := 2) sc_law.nd rfl (Or.inl rfl)) (pss_cons (ps_set (i := 3) sc_law.nd rfl (Or.inl rfl) (pe_call G_Lbox (hr.mono (by decide)) rfl T.F11.mg T.F11.fn.kp T.F11.bd .nil pass0 (pa_cons (pv 0) (pa_cons (pe_op op_mul pe_int (pv 2)) pa_nil))))
      (pss_cons (ps_set (i := 4) sc_law.nd rfl (Or.inl rfl) (pe_call G_Lyard (hr.mono (by decide)) rfl T.F14.mg T.F14.fn.kp T.F14.bd .nil pass0 (pa_cons (pv 3) (pa_cons pe_int (pa_cons pe_int pa_nil)))))
      (pss_cons (ps_set (i := 5) sc_law.nd rfl (Or.inl rfl) (pe_call G_Ldrawing (hr.mono (by decide)) rfl T.F18.mg T.F18.fn.kp T.F18.bd .nil pass0 (pa_cons (pe_call G_Lbox (hr.mono (by decide)) rfl T.F11.mg T.F11.fn.kp T.F11.bd .nil pass0 (pa_cons (pv 0) (pa_cons (pe_op op_add (pe_op op_mul pe_int (pv 2)) pe_int) pa_nil))) (pa_cons (pv 4) (pa_cons (pe_call G_Lwords (hr.mono (by decide)) rfl T.F19.mg T.F19.fn.kp T.F19.bd .nil pass0 (pa_cons (pv 3) (pa_cons (pv 4) pa_nil))) pa_nil)))))
      (pss_one (ps_expr (pe_bmK K rfl PySem.F.plainAttrs_list PySem.F.slot_list_append PySem.F.type_list_append mt_append (pv 1) (pa_cons (pe_tup (pa_cons (pv 4) (pa_cons (pv 5) (pa_cons (pe_call G_Ltext (hr.mono (by decide)) rfl T.F20.mg T.F20.fn.kp T.F20.bd .nil pass0 (pa_cons (pv 4) (pa_cons (pv 5) pa_nil))) pa_nil)))) pa_nil))))))))
      (pss_cons (ps_for PassesOwn.never rfl (pi_listK K rfl (pe_op op_cat (pv 1) (pe_slice (sl_listK K rfl) (pv 1) po_none (po_some pe_int)))) (pg_tupK (n := 3) K rfl rfl (pgs_cons (pg_name (i := 4) sc_law.nd rfl (Or.inl rfl)) (pgs_cons (pg_name (i := 5) sc_law.nd rfl (Or.inl rfl)) (pgs_cons (pg_name (i := 6) sc_law.nd rfl (Or.inl rfl)) pgs_nil)))) (pss_one (ps_if (PW.pt (pw_or (pt_cmpR op_neS (pe_call G_show_drawing (hr.mono (by decide)) rfl T.F6.mg T.F6.fn.kp T.F6.bd .nil pass0 (pa_cons (pv 4) (pa_cons (pv 5) pa_nil))) (pv 6) (nomark _)) (pw_or1 (pt_cmpR op_neS (pe_callB (call_reprD K rfl hr) rfl T.z_repr boot_repr (pa_cons (pe_call G_read_drawing (hr.mono (by decide)) rfl T.F10.mg T.F10.fn.kp T.F10.bd .nil pass0 (pa_cons (pv 4) (pa_cons (pv 6) pa_nil))) pa_nil)) (pe_callB (call_reprD K rfl hr) rfl T.z_repr boot_repr (pa_cons (pv 5) pa_nil)) (nomark _))))) (pss_one (ps_ret pe_bl)) pss_nil)))
      (pss_one (ps_ret pe_bl))))), ?_⟩
  obtain ⟨a, ns, rfl, hS, hl, q⟩ := h
  have hs : (100000 : Nat) < sizeLine := by decide
  refine ⟨by show 0 ≤ sizeLine; decide, fun p1 n1 => ?_⟩
  refine ⟨_, rfl, by decide, by decide, ?_⟩
  refine for_range (fun i σ H' => ∃ (ks : List Asd) (kv bv yv dv : Option V), σ = [some (.ref a), some (.ref p1), kv, bv, yv, dv, none] ∧ H' p1 = some (.lst (asv ks)) ∧ ks.length = i ∧ (∀ k ∈ ks, AsdOk H' k) ∧ SameB p1 H H')
    ⟨[], none, none, none, none, rfl, upd_same, rfl, fun _ h => absurd h List.not_mem_nil, SameB.of (Same.upd n1)⟩ ?_ ?_
  · rintro i σ H2 hi ⟨ks, kv, bv, yv, dv, rfl, hp1, hkl, hk, s1⟩
    have hi2 : i < 2 := by simpa using hi
    have e2i : (2 : Int) * ((0 : Int) + (i : Int)) = ((2 * i : Nat) : Int) := by omega
    have e2i1 : (2 : Int) * ((0 : Int) + (i : Int)) + 1 = ((2 * i + 1 : Nat) : Int) := by omega
    refine ⟨_, rfl, _, rfl, _, _, rfl, rfl, .inl ⟨by decide, by decide⟩, ?_⟩
    refine ⟨a, ns, 2 * i, by rw [← e2i]; rfl, seqB hS n1 s1, by omega, fun b H3 nb bx s2 => ?_⟩
    have hb1 : p1 ≠ b := fun z => by rw [← z, hp1] at nb; cases nb
    refine ⟨_, rfl, b, 1, 4, rfl, bx, by decide, by decide, by decide, fun y H5 hy hy1 hy2 bx5 s5 => ?_⟩
    have hyn : y ≠ [] := fun z => by rw [z] at hy1; simp at hy1
    have s25 : Same H2 H5 := SameB.same nb s2 s5
    refine ⟨_, rfl, _, rfl, _, _, rfl, rfl, .inl ⟨by decide, by decide⟩, _, _, rfl, rfl, ?_⟩
    refine ⟨a, ns, 2 * i + 1, by rw [← e2i1]; rfl, s25.seq (seqB hS n1 s1), by omega, fun b2 H6 nb2 bx6 s6 => ?_⟩
    have hb2b : b ≠ b2 := fun z => by obtain ⟨u, v, g⟩ := bx5; rw [← z, g] at nb2; cases nb2
    refine ⟨_, rfl, _, rfl, _, rfl, b, y, rfl, bx5.same s6, hyn, by omega, fun wt ws H7 nwt wtb hwt hws bx7 s7 => ?_⟩
    have bx26 : BoxAt H7 b2 := by
      obtain ⟨u, v, g⟩ := bx6
      exact ⟨u, v, s7 _ _ g (Ne.symm hb2b)⟩
    have wtb2 : wt ≠ b2 := fun z => by obtain ⟨u, v, g⟩ := bx6; rw [z, g] at nwt; cases nwt
    refine ⟨b2, y, wt, ws, rfl, bx26, hy, by omega, wtb2, hwt, hws, fun dr os H8 hdr hos bx8 s8 => ?_⟩
    have nb2H : H2 b2 = none := Same.free s25 nb2
    have nbH : H2 b = none := nb
    have s28 : Same H2 H8 := fun c o e => s8 c o (s7 c o (s6 c o (s25 c o e)) (ne_of_none e nbH)) (ne_of_none e nb2H)
    have ht : Told y ws (ods os) := Told.of hy (by omega) (by omega) hws hos
    have hp8 := s28 _ _ hp1
    refine ⟨_, rfl, .inl ⟨rfl, _, SqL.of hp8⟩, ?_⟩
    refine ⟨_, rfl, _, rfl, _, rfl, _, rfl, y, dr, ws, os, rfl, hdr, ht, fun H9 s9 => ?_⟩
    refine ⟨by show 3 ≤ sizeLine; decide, fun t nt => ?_⟩
    have sAt := s9.trans (Same.upd (o := .tup [.str (S y), .ref dr, .str (S (textOf y ws (ods os)))]) nt)
    have hpA := sAt _ _ hp8
    have k1 : AsdOk (upd H9 t (.tup [.str (S y), .ref dr, .str (S (textOf y ws (ods os)))])) ⟨t, y, dr, ws, os⟩ := ⟨upd_same, hdr.same sAt, ht⟩
    refine ⟨p1, _, _, rfl, rfl, hpA, by rw [asv_len]; omega, ?_⟩
    generalize upd H9 t (.tup [.str (S y), .ref dr, .str (S (textOf y ws (ods os)))]) = HB at sAt hpA k1 ⊢
    have s2B := s28.trans sAt
    refine ⟨ks ++ [⟨t, y, dr, ws, os⟩], _, _, _, _, rfl, by rw [upd_same]; exact congrArg (fun x => some (HO.lst x)) (asv_snoc ks ⟨t, y, dr, ws, os⟩), by simp [hkl], fun k hk' => ?_, fun c o e w => by rw [upd_ne w]; exact s2B _ _ (s1 c o e w)⟩
    rcases List.mem_append.mp hk' with w | w
    · exact ((hk k w).same s2B).ts (TSame.updL hpA)
    · rw [List.mem_singleton.mp w]; exact k1.ts (TSame.updL hpA)
  · rintro σ H2 ⟨ks, kv, bv, yv, dv, rfl, hp1, hkl, hk, s1⟩
    have hks : ks.length ≤ 4 := by simp at hkl; omega
    refine ⟨_, rfl, _, rfl, _, rfl, p1, _, rfl, SqL.of hp1, fun p2 n2 => ?_⟩
    have h12 : p1 ≠ p2 := ne_of_none hp1 n2
    have hcv : cutV (asv ks) none (some 1) = asv (ks.take 1) := by
      have := cut_to (asv ks) 1
      rw [show ((1 : Nat) : Int) = 1 from rfl] at this
      show cut (asv ks) none (some 1) = _
      rw [this]
      unfold asv
      rw [List.map_take]
    rw [hcv]
    refine ⟨p1, p2, _, _, rfl, rfl, by rw [upd_ne h12]; exact hp1, upd_same, by rw [asv_len, asv_len, List.length_take]; omega, fun p3 n3 => ?_⟩
    have hall : asv ks ++ asv (ks.take 1) = asv (ks ++ ks.take 1) := by unfold asv; rw [List.map_append]
    rw [hall]
    have s23 : Same H2 (upd (upd H2 p2 (.lst (asv (ks.take 1)))) p3 (.lst (asv (ks ++ ks.take 1)))) := (Same.upd n2).trans (Same.upd n3)
    have hk2 : ∀ k ∈ ks ++ ks.take 1, AsdOk H2 k := fun k hk' => by
      rcases List.mem_append.mp hk' with z | z
      · exact hk k z
      · exact hk k (List.mem_of_mem_take z)
    have hul : (ks ++ ks.take 1).length ≤ 6 := by rw [List.length_append, List.length_take]; omega
    generalize ks ++ ks.take 1 = us at *
    have hp3 : upd (upd H2 p2 (.lst (asv (ks.take 1)))) p3 (.lst (asv us)) p3 = some (.lst (asv us)) := upd_same
    have hk3 : ∀ k ∈ us, AsdOk (upd (upd H2 p2 (.lst (asv (ks.take 1)))) p3 (.lst (asv us))) k := fun k hk' => (hk2 k hk').same s23
    generalize upd (upd H2 p2 (.lst (asv (ks.take 1)))) p3 (.lst (asv us)) = H3 at hp3 hk3 ⊢
    refine ⟨p3, rfl, ⟨_, SqL.of hp3⟩, ?_⟩
    refine for_list (K := K) (a := p3) (xs := asv us) (fun i σ H' => ∃ (kv bv yv dv uv : Option V), σ = [some (.ref a), some (.ref p1), kv, bv, yv, dv, uv] ∧ Same H3 H') ⟨_, _, _, _, _, rfl, Same.refl _⟩ (fun i σ H' _ ⟨_, _, _, _, _, _, s⟩ => SqL.of (s _ _ hp3)) ?_ ?_
    · rintro i x σ H4 hx ⟨kv, bv, yv, dv, uv, rfl, s4⟩
      obtain ⟨k, hkm, rfl⟩ : ∃ k ∈ us, x = V.ref k.t := by
        unfold asv at hx
        rw [List.getElem?_map] at hx
        cases e : us[i]? with
        | none => rw [e] at hx; cases hx
        | some k => rw [e] at hx; cases hx; exact ⟨k, List.mem_of_getElem? e, rfl⟩
      have ho := (hk3 k hkm).same s4
      refine ⟨k.t, _, rfl, SqT.of ho.tp, rfl, _, _, rfl, _, _, rfl, _, _, rfl, rfl, ?_⟩
      refine ⟨_, rfl, _, rfl, k.y, k.dr, k.ws, k.os, rfl, ho.dw, ho.td, fun H5 s5 => ?_⟩
      refine ⟨_, rfl, _, _, rfl, rfl, _, rfl, iteN (by simp) ?_⟩
      refine ⟨_, rfl, _, rfl, k.y, k.ws, ods k.os, rfl, ho.td, fun dr os' H6 hdr he s6 => ?_⟩
      have hdw := (ho.dw.same s5).same s6
      obtain ⟨⟨w1, o1, a1, a2, a3⟩, a4⟩ := hdr
      obtain ⟨⟨w2, o2, b1, b2, b3⟩, b4⟩ := hdw
      have hlw : ∀ w ∈ k.ws, (∀ c ∈ w, c < 128) ∧ w.length ≤ 12 := fun w hw => ⟨fun c hc => (ho.td.wl w hw c hc).lt, (ho.td.wo.all w hw).2⟩
      have hl4 : k.os.length ≤ 4 := by have := ho.td.bl.2; rwa [ods_len] at this
      have hl4' : os'.length ≤ 4 := by have := congrArg List.length he; rw [ods_len, ods_len] at this; omega
      have sm1 := sm_dr hlw ho.td.wo.few a4 hl4'
      have sm2 := sm_dr hlw ho.td.wo.few b4 hl4
      have ed := odD_ods he
      refine ⟨_, .tuple [.tuple (tds k.ws), .tuple (os'.map odD)], rfl, .tup (SqT.of a1) (.cons (.tup (SqT.of a2) (rdds_txs _)) (.cons (.tup (SqT.of a3) (rdds_ods a4)) .nil)), sm1, ?_⟩
      refine ⟨_, rfl, _, .tuple [.tuple (tds k.ws), .tuple (k.os.map odD)], rfl, .tup (SqT.of b1) (.cons (.tup (SqT.of b2) (rdds_txs _)) (.cons (.tup (SqT.of b3) (rdds_ods b4)) .nil)), sm2, ?_⟩
      refine ⟨_, _, rfl, rfl, _, rfl, iteN (by rw [ed]; simp) ?_⟩
      exact ⟨_, _, _, _, _, rfl, (s4.trans s5).trans s6⟩
    · rintro σ H4 ⟨kv, bv, yv, dv, uv, rfl, s4⟩
      exact q _
end
theorem all_mk {l : PySem.W.OpenLaw} {w : World} {K : PySem.W.Frag} {h : Heap} {mg : Str → Option Value} {fa f0 f1 f2 f3 f4 f5 f6 f7 f8 f9 f10 f11 f12 f13 f14 f15 f16 f17 f18 f19 f20 f21 : Addr} (X : K.In h) (G : h.Ns mainGlobals mg) (hfa : mg "law" = some (.ref fa))
    {tc_CORD tc_NO_LETTERS tc_BAND : Tok}
    {od0 an0 od1 an1 od2 an2 od3 an3 od4 an4 od5 an5 od6 an6 od7 an7 od8 an8 od9 an9 od10 an10 od11 an11 od12 an12 od13 an13 od14 an14 od15 an15 od16 an16 od17 an17 od18 an18 od19 an19 od20 an20 od21 an21 : Option Addr} {sl0 sl1 sl2 sl3 sl4 sl5 sl6 sl7 sl8 sl9 sl10 sl11 sl12 sl13 sl14 sl15 sl16 sl17 sl18 sl19 sl20 sl21 : Array (Option Value)} {oc0 kV0 dc0 pm0 cd0 ct0 oc1 kV1 dc1 pm1 cd1 ct1 oc2 kV2 dc2 pm2 cd2 ct2 oc3 kV3 dc3 pm3 cd3 ct3 oc4 kV4 dc4 pm4 cd4 ct4 oc5 kV5 dc5 pm5 cd5 ct5 oc6 kV6 dc6 pm6 cd6 ct6 oc7 kV7 dc7 pm7 cd7 ct7 oc8 kV8 dc8 pm8 cd8 ct8 oc9 kV9 dc9 pm9 cd9 ct9 oc10 kV10 dc10 pm10 cd10 ct10 oc11 kV11 dc11 pm11 cd11 ct11 oc12 kV12 dc12 pm12 cd12 ct12 oc13 kV13 dc13 pm13 cd13 ct13 oc14 kV14 dc14 pm14 cd14 ct14 oc15 kV15 dc15 pm15 cd15 ct15 oc16 kV16 dc16 pm16 cd16 ct16 oc17 kV17 dc17 pm17 cd17 ct17 oc18 kV18 dc18 pm18 cd18 ct18 oc19 kV19 dc19 pm19 cd19 ct19 oc20 kV20 dc20 pm20 cd20 ct20 oc21 kV21 dc21 pm21 cd21 ct21 : Value}
    (a0 : PySem.W.nsIn K mainGlobals "foreign_sign" = some (some (.ref f0)))
    (l0 : K.lookup f0 = some ⟨oc0, od0, .func (PySem.W.fnOf "foreign_sign" "foreign_sign" (defArgs s_foreign_sign) (defBody s_foreign_sign) (defScope s_foreign_sign) .none kV0 dc0 pm0 an0 cd0 ct0), sl0⟩)
    (c0 : PySem.W.codeIn K cd0 "foreign_sign" = true)
    (k0 : PySem.W.keepIn K (.ref f0) = true)
    (a1 : PySem.W.nsIn K mainGlobals "bands" = some (some (.ref f1)))
    (l1 : K.lookup f1 = some ⟨oc1, od1, .func (PySem.W.fnOf "bands" "bands" (defArgs s_bands) (defBody s_bands) (defScope s_bands) .none kV1 dc1 pm1 an1 cd1 ct1), sl1⟩)
    (c1 : PySem.W.codeIn K cd1 "bands" = true)
    (k1 : PySem.W.keepIn K (.ref f1) = true)
    (a2 : PySem.W.nsIn K mainGlobals "strands_in" = some (some (.ref f2)))
    (l2 : K.lookup f2 = some ⟨oc2, od2, .func (PySem.W.fnOf "strands_in" "strands_in" (defArgs s_strands_in) (defBody s_strands_in) (defScope s_strands_in) .none kV2 dc2 pm2 an2 cd2 ct2), sl2⟩)
    (c2 : PySem.W.codeIn K cd2 "strands_in" = true)
    (k2 : PySem.W.keepIn K (.ref f2) = true)
    (a3 : PySem.W.nsIn K mainGlobals "strand_text" = some (some (.ref f3)))
    (l3 : K.lookup f3 = some ⟨oc3, od3, .func (PySem.W.fnOf "strand_text" "strand_text" (defArgs s_strand_text) (defBody s_strand_text) (defScope s_strand_text) .none kV3 dc3 pm3 an3 cd3 ct3), sl3⟩)
    (c3 : PySem.W.codeIn K cd3 "strand_text" = true)
    (k3 : PySem.W.keepIn K (.ref f3) = true)
    (a4 : PySem.W.nsIn K mainGlobals "cord_row" = some (some (.ref f4)))
    (l4 : K.lookup f4 = some ⟨oc4, od4, .func (PySem.W.fnOf "cord_row" "cord_row" (defArgs s_cord_row) (defBody s_cord_row) (defScope s_cord_row) .none kV4 dc4 pm4 an4 cd4 ct4), sl4⟩)
    (c4 : PySem.W.codeIn K cd4 "cord_row" = true)
    (k4 : PySem.W.keepIn K (.ref f4) = true)
    (a5 : PySem.W.nsIn K mainGlobals "band_row" = some (some (.ref f5)))
    (l5 : K.lookup f5 = some ⟨oc5, od5, .func (PySem.W.fnOf "band_row" "band_row" (defArgs s_band_row) (defBody s_band_row) (defScope s_band_row) .none kV5 dc5 pm5 an5 cd5 ct5), sl5⟩)
    (c5 : PySem.W.codeIn K cd5 "band_row" = true)
    (k5 : PySem.W.keepIn K (.ref f5) = true)
    (a6 : PySem.W.nsIn K mainGlobals "show_drawing" = some (some (.ref f6)))
    (l6 : K.lookup f6 = some ⟨oc6, od6, .func (PySem.W.fnOf "show_drawing" "show_drawing" (defArgs s_show_drawing) (defBody s_show_drawing) (defScope s_show_drawing) .none kV6 dc6 pm6 an6 cd6 ct6), sl6⟩)
    (c6 : PySem.W.codeIn K cd6 "show_drawing" = true)
    (k6 : PySem.W.keepIn K (.ref f6) = true)
    (a7 : PySem.W.nsIn K mainGlobals "read_cord" = some (some (.ref f7)))
    (l7 : K.lookup f7 = some ⟨oc7, od7, .func (PySem.W.fnOf "read_cord" "read_cord" (defArgs s_read_cord) (defBody s_read_cord) (defScope s_read_cord) .none kV7 dc7 pm7 an7 cd7 ct7), sl7⟩)
    (c7 : PySem.W.codeIn K cd7 "read_cord" = true)
    (k7 : PySem.W.keepIn K (.ref f7) = true)
    (a8 : PySem.W.nsIn K mainGlobals "read_words" = some (some (.ref f8)))
    (l8 : K.lookup f8 = some ⟨oc8, od8, .func (PySem.W.fnOf "read_words" "read_words" (defArgs s_read_words) (defBody s_read_words) (defScope s_read_words) .none kV8 dc8 pm8 an8 cd8 ct8), sl8⟩)
    (c8 : PySem.W.codeIn K cd8 "read_words" = true)
    (k8 : PySem.W.keepIn K (.ref f8) = true)
    (a9 : PySem.W.nsIn K mainGlobals "read_order" = some (some (.ref f9)))
    (l9 : K.lookup f9 = some ⟨oc9, od9, .func (PySem.W.fnOf "read_order" "read_order" (defArgs s_read_order) (defBody s_read_order) (defScope s_read_order) .none kV9 dc9 pm9 an9 cd9 ct9), sl9⟩)
    (c9 : PySem.W.codeIn K cd9 "read_order" = true)
    (k9 : PySem.W.keepIn K (.ref f9) = true)
    (a10 : PySem.W.nsIn K mainGlobals "read_drawing" = some (some (.ref f10)))
    (l10 : K.lookup f10 = some ⟨oc10, od10, .func (PySem.W.fnOf "read_drawing" "read_drawing" (defArgs s_read_drawing) (defBody s_read_drawing) (defScope s_read_drawing) .none kV10 dc10 pm10 an10 cd10 ct10), sl10⟩)
    (c10 : PySem.W.codeIn K cd10 "read_drawing" = true)
    (k10 : PySem.W.keepIn K (.ref f10) = true)
    (a11 : PySem.W.nsIn K mainGlobals "_law_box" = some (some (.ref f11)))
    (l11 : K.lookup f11 = some ⟨oc11, od11, .func (PySem.W.fnOf "_law_box" "_law_box" (defArgs s_Lbox) (defBody s_Lbox) (defScope s_Lbox) .none kV11 dc11 pm11 an11 cd11 ct11), sl11⟩)
    (c11 : PySem.W.codeIn K cd11 "_law_box" = true)
    (k11 : PySem.W.keepIn K (.ref f11) = true)
    (a12 : PySem.W.nsIn K mainGlobals "_law_take" = some (some (.ref f12)))
    (l12 : K.lookup f12 = some ⟨oc12, od12, .func (PySem.W.fnOf "_law_take" "_law_take" (defArgs s_Ltake) (defBody s_Ltake) (defScope s_Ltake) .none kV12 dc12 pm12 an12 cd12 ct12), sl12⟩)
    (c12 : PySem.W.codeIn K cd12 "_law_take" = true)
    (k12 : PySem.W.keepIn K (.ref f12) = true)
    (a13 : PySem.W.nsIn K mainGlobals "_law_other" = some (some (.ref f13)))
    (l13 : K.lookup f13 = some ⟨oc13, od13, .func (PySem.W.fnOf "_law_other" "_law_other" (defArgs s_Lother) (defBody s_Lother) (defScope s_Lother) .none kV13 dc13 pm13 an13 cd13 ct13), sl13⟩)
    (c13 : PySem.W.codeIn K cd13 "_law_other" = true)
    (k13 : PySem.W.keepIn K (.ref f13) = true)
    (a14 : PySem.W.nsIn K mainGlobals "_law_yard" = some (some (.ref f14)))
    (l14 : K.lookup f14 = some ⟨oc14, od14, .func (PySem.W.fnOf "_law_yard" "_law_yard" (defArgs s_Lyard) (defBody s_Lyard) (defScope s_Lyard) .none kV14 dc14 pm14 an14 cd14 ct14), sl14⟩)
    (c14 : PySem.W.codeIn K cd14 "_law_yard" = true)
    (k14 : PySem.W.keepIn K (.ref f14) = true)
    (a15 : PySem.W.nsIn K mainGlobals "_law_word" = some (some (.ref f15)))
    (l15 : K.lookup f15 = some ⟨oc15, od15, .func (PySem.W.fnOf "_law_word" "_law_word" (defArgs s_Lword) (defBody s_Lword) (defScope s_Lword) .none kV15 dc15 pm15 an15 cd15 ct15), sl15⟩)
    (c15 : PySem.W.codeIn K cd15 "_law_word" = true)
    (k15 : PySem.W.keepIn K (.ref f15) = true)
    (a16 : PySem.W.nsIn K mainGlobals "_law_order" = some (some (.ref f16)))
    (l16 : K.lookup f16 = some ⟨oc16, od16, .func (PySem.W.fnOf "_law_order" "_law_order" (defArgs s_Lorder) (defBody s_Lorder) (defScope s_Lorder) .none kV16 dc16 pm16 an16 cd16 ct16), sl16⟩)
    (c16 : PySem.W.codeIn K cd16 "_law_order" = true)
    (k16 : PySem.W.keepIn K (.ref f16) = true)
    (a17 : PySem.W.nsIn K mainGlobals "_law_bands" = some (some (.ref f17)))
    (l17 : K.lookup f17 = some ⟨oc17, od17, .func (PySem.W.fnOf "_law_bands" "_law_bands" (defArgs s_Lbands) (defBody s_Lbands) (defScope s_Lbands) .none kV17 dc17 pm17 an17 cd17 ct17), sl17⟩)
    (c17 : PySem.W.codeIn K cd17 "_law_bands" = true)
    (k17 : PySem.W.keepIn K (.ref f17) = true)
    (a18 : PySem.W.nsIn K mainGlobals "_law_drawing" = some (some (.ref f18)))
    (l18 : K.lookup f18 = some ⟨oc18, od18, .func (PySem.W.fnOf "_law_drawing" "_law_drawing" (defArgs s_Ldrawing) (defBody s_Ldrawing) (defScope s_Ldrawing) .none kV18 dc18 pm18 an18 cd18 ct18), sl18⟩)
    (c18 : PySem.W.codeIn K cd18 "_law_drawing" = true)
    (k18 : PySem.W.keepIn K (.ref f18) = true)
    (a19 : PySem.W.nsIn K mainGlobals "_law_words" = some (some (.ref f19)))
    (l19 : K.lookup f19 = some ⟨oc19, od19, .func (PySem.W.fnOf "_law_words" "_law_words" (defArgs s_Lwords) (defBody s_Lwords) (defScope s_Lwords) .none kV19 dc19 pm19 an19 cd19 ct19), sl19⟩)
    (c19 : PySem.W.codeIn K cd19 "_law_words" = true)
    (k19 : PySem.W.keepIn K (.ref f19) = true)
    (a20 : PySem.W.nsIn K mainGlobals "_law_text" = some (some (.ref f20)))
    (l20 : K.lookup f20 = some ⟨oc20, od20, .func (PySem.W.fnOf "_law_text" "_law_text" (defArgs s_Ltext) (defBody s_Ltext) (defScope s_Ltext) .none kV20 dc20 pm20 an20 cd20 ct20), sl20⟩)
    (c20 : PySem.W.codeIn K cd20 "_law_text" = true)
    (k20 : PySem.W.keepIn K (.ref f20) = true)
    (a21 : PySem.W.nsIn K mainGlobals "law" = some (some (.ref f21)))
    (l21 : K.lookup f21 = some ⟨oc21, od21, .func (PySem.W.fnOf "law" "law" (defArgs s_law) (defBody s_law) (defScope s_law) .none kV21 dc21 pm21 an21 cd21 ct21), sl21⟩)
    (c21 : PySem.W.codeIn K cd21 "law" = true)
    (k21 : PySem.W.keepIn K (.ref f21) = true)
    (g_CORD : PySem.W.nsIn K mainGlobals "CORD" = some (some (.str (S [99, 111, 114, 100]) tc_CORD)))
    (g_NO_LETTERS : PySem.W.nsIn K mainGlobals "NO_LETTERS" = some (some (.str (S [45]) tc_NO_LETTERS)))
    (g_BAND : PySem.W.nsIn K mainGlobals "BAND" = some (some (.str (S [98, 97, 110, 100]) tc_BAND)))
    (z_enumerate : PySem.W.nsIn K mainGlobals "enumerate" = some none)
    (z_int : PySem.W.nsIn K mainGlobals "int" = some none)
    (z_len : PySem.W.nsIn K mainGlobals "len" = some none)
    (z_list : PySem.W.nsIn K mainGlobals "list" = some none)
    (z_min : PySem.W.nsIn K mainGlobals "min" = some none)
    (z_range : PySem.W.nsIn K mainGlobals "range" = some none)
    (z_repr : PySem.W.nsIn K mainGlobals "repr" = some none)
    (z_sorted : PySem.W.nsIn K mainGlobals "sorted" = some none)
    (z_str : PySem.W.nsIn K mainGlobals "str" = some none)
    (z_tuple : PySem.W.nsIn K mainGlobals "tuple" = some none)
    (z_zip : PySem.W.nsIn K mainGlobals "zip" = some none) :
    ∃ fd : FuncData, (∀ (s : Shared) (v : Value), BindsTo s fd ⟨[v], []⟩ [("_law_script", v)]) ∧ ∀ base : Heap, K.In base → base.Ns mainGlobals mg → FnOk l.prog w K mg base CX0 5 fa fd ["_law_script"] (sp_law K) := by
  have e := hfa.symm.trans (PySem.W.mg_of X G a21)
  cases e
  have F0 := fun_mk (st := s_foreign_sign) l0 c0 k0
  have b0 := F0.binds (ps := ["yard", "text"]) fun _ _ _ _ _ _ us hl => match us, hl with | [_, _], _ => rfl
  have F1 := fun_mk (st := s_bands) l1 c1 k1
  have b1 := F1.binds (ps := ["yard"]) fun _ _ _ _ _ _ us hl => match us, hl with | [_], _ => rfl
  have F2 := fun_mk (st := s_strands_in) l2 c2 k2
  have b2 := F2.binds (ps := ["words", "band"]) fun _ _ _ _ _ _ us hl => match us, hl with | [_, _], _ => rfl
  have F3 := fun_mk (st := s_strand_text) l3 c3 k3
  have b3 := F3.binds (ps := ["strand"]) fun _ _ _ _ _ _ us hl => match us, hl with | [_], _ => rfl
  have F4 := fun_mk (st := s_cord_row) l4 c4 k4
  have b4 := F4.binds (ps := ["word"]) fun _ _ _ _ _ _ us hl => match us, hl with | [_], _ => rfl
  have F5 := fun_mk (st := s_band_row) l5 c5 k5
  have b5 := F5.binds (ps := ["band", "order"]) fun _ _ _ _ _ _ us hl => match us, hl with | [_, _], _ => rfl
  have F6 := fun_mk (st := s_show_drawing) l6 c6 k6
  have b6 := F6.binds (ps := ["yard", "drawing"]) fun _ _ _ _ _ _ us hl => match us, hl with | [_, _], _ => rfl
  have F7 := fun_mk (st := s_read_cord) l7 c7 k7
  have b7 := F7.binds (ps := ["yard", "row"]) fun _ _ _ _ _ _ us hl => match us, hl with | [_, _], _ => rfl
  have F8 := fun_mk (st := s_read_words) l8 c8 k8
  have b8 := F8.binds (ps := ["yard", "rows"]) fun _ _ _ _ _ _ us hl => match us, hl with | [_, _], _ => rfl
  have F9 := fun_mk (st := s_read_order) l9 c9 k9
  have b9 := F9.binds (ps := ["words", "band", "row"]) fun _ _ _ _ _ _ us hl => match us, hl with | [_, _, _], _ => rfl
  have F10 := fun_mk (st := s_read_drawing) l10 c10 k10
  have b10 := F10.binds (ps := ["yard", "text"]) fun _ _ _ _ _ _ us hl => match us, hl with | [_, _], _ => rfl
  have F11 := fun_mk (st := s_Lbox) l11 c11 k11
  have b11 := F11.binds (ps := ["_law_script", "_law_k"]) fun _ _ _ _ _ _ us hl => match us, hl with | [_, _], _ => rfl
  have F12 := fun_mk (st := s_Ltake) l12 c12 k12
  have b12 := F12.binds (ps := ["_law_box_here", "_law_many"]) fun _ _ _ _ _ _ us hl => match us, hl with | [_, _], _ => rfl
  have F13 := fun_mk (st := s_Lother) l13 c13 k13
  have b13 := F13.binds (ps := ["_law_letter"]) fun _ _ _ _ _ _ us hl => match us, hl with | [_], _ => rfl
  have F14 := fun_mk (st := s_Lyard) l14 c14 k14
  have b14 := F14.binds (ps := ["_law_box_here", "_law_few", "_law_top"]) fun _ _ _ _ _ _ us hl => match us, hl with | [_, _, _], _ => rfl
  have F15 := fun_mk (st := s_Lword) l15 c15 k15
  have b15 := F15.binds (ps := ["_law_box_here", "_law_yard_here", "_law_top"]) fun _ _ _ _ _ _ us hl => match us, hl with | [_, _, _], _ => rfl
  have F16 := fun_mk (st := s_Lorder) l16 c16 k16
  have b16 := F16.binds (ps := ["_law_box_here", "_law_things"]) fun _ _ _ _ _ _ us hl => match us, hl with | [_, _], _ => rfl
  have F17 := fun_mk (st := s_Lbands) l17 c17 k17
  have b17 := F17.binds (ps := ["_law_yard_here"]) fun _ _ _ _ _ _ us hl => match us, hl with | [_], _ => rfl
  have F18 := fun_mk (st := s_Ldrawing) l18 c18 k18
  have b18 := F18.binds (ps := ["_law_box_here", "_law_yard_here", "_law_words_here"]) fun _ _ _ _ _ _ us hl => match us, hl with | [_, _, _], _ => rfl
  have F19 := fun_mk (st := s_Lwords) l19 c19 k19
  have b19 := F19.binds (ps := ["_law_box_here", "_law_yard_here"]) fun _ _ _ _ _ _ us hl => match us, hl with | [_, _], _ => rfl
  have F20 := fun_mk (st := s_Ltext) l20 c20 k20
  have b20 := F20.binds (ps := ["_law_yard_here", "_law_drawing_here"]) fun _ _ _ _ _ _ us hl => match us, hl with | [_, _], _ => rfl
  have F21 := fun_mk (st := s_law) l21 c21 k21
  have b21 := F21.binds (ps := ["_law_script"]) fun _ _ _ _ _ _ us hl => match us, hl with | [_], _ => rfl
  have T : Txt K mg _ _ _ _ _ _ _ _ _ _ _ _ _ _ _ _ _ _ _ _ _ _ _ _ _ _ _ _ _ _ _ _ _ _ _ _ _ _ _ _ _ _ _ _ := ⟨⟨F0, PySem.W.mg_of X G a0, b0⟩, ⟨F1, PySem.W.mg_of X G a1, b1⟩, ⟨F2, PySem.W.mg_of X G a2, b2⟩, ⟨F3, PySem.W.mg_of X G a3, b3⟩, ⟨F4, PySem.W.mg_of X G a4, b4⟩, ⟨F5, PySem.W.mg_of X G a5, b5⟩, ⟨F6, PySem.W.mg_of X G a6, b6⟩, ⟨F7, PySem.W.mg_of X G a7, b7⟩, ⟨F8, PySem.W.mg_of X G a8, b8⟩, ⟨F9, PySem.W.mg_of X G a9, b9⟩, ⟨F10, PySem.W.mg_of X G a10, b10⟩, ⟨F11, PySem.W.mg_of X G a11, b11⟩, ⟨F12, PySem.W.mg_of X G a12, b12⟩, ⟨F13, PySem.W.mg_of X G a13, b13⟩, ⟨F14, PySem.W.mg_of X G a14, b14⟩, ⟨F15, PySem.W.mg_of X G a15, b15⟩, ⟨F16, PySem.W.mg_of X G a16, b16⟩, ⟨F17, PySem.W.mg_of X G a17, b17⟩, ⟨F18, PySem.W.mg_of X G a18, b18⟩, ⟨F19, PySem.W.mg_of X G a19, b19⟩, ⟨F20, PySem.W.mg_of X G a20, b20⟩, ⟨F21, PySem.W.mg_of X G a21, b21⟩, PySem.W.mg_none_of X G z_enumerate, PySem.W.mg_none_of X G z_int, PySem.W.mg_none_of X G z_len, PySem.W.mg_none_of X G z_list, PySem.W.mg_none_of X G z_min, PySem.W.mg_none_of X G z_range, PySem.W.mg_none_of X G z_repr, PySem.W.mg_none_of X G z_sorted, PySem.W.mg_none_of X G z_str, PySem.W.mg_none_of X G z_tuple, PySem.W.mg_none_of X G z_zip, ⟨_, PySem.W.mg_of X G g_CORD⟩, ⟨_, PySem.W.mg_of X G g_NO_LETTERS⟩, ⟨_, PySem.W.mg_of X G g_BAND⟩⟩
  exact ⟨_, fun s v => .of_eq rfl, fun base _ _ => ok_law T⟩
theorem walk {l : PySem.W.OpenLaw} {q : Program} {loose : List Str} {XP : (Str → Option Value) → Heap → Prop} {YP : World → Heap → Prop} {d : DefRec} {K : Params → PySem.W.Frag} (hn : l.most = some 63) (hdf : d.params.defaults = [])
    (hY : ∀ (w : World) (h : Heap), YP w h → (K w.params).In h)
    (F : ∀ (w : World) (mg : Str → Option Value) (fa : Addr) (h : Heap), (K w.params).In h → h.Ns mainGlobals mg → mg d.name = some (.ref fa) →
      ∃ fd : FuncData, (∀ (s : Shared) (u : Value), BindsTo s fd ⟨[u], []⟩ [("_law_script", u)]) ∧ ∀ base : Heap, (K w.params).In base → base.Ns mainGlobals mg → FnOk l.prog w (K w.params) mg base CX0 5 fa fd ["_law_script"] (sp_law (K w.params))) :
    PySem.W.WalkO q loose XP YP l.row.toRowW d [] (fun f vs => PySem.call f vs) :=
  L2.walk_of (n := 63) (k := 5) (x := "_law_script") (CX := fun _ => CX0) (sp := fun w => sp_law (K w.params)) hn (by decide) hdf ⟨rfl, by decide, by decide, rfl⟩ hY F (fun _ _ a ns hl _ hS => ⟨a, ns, rfl, hS, hl, fun _ => rfl⟩) fun _ _ _ _ _ z => z
end My
open PySem PySem.W PyProof.Rows
set_option maxRecDepth 100000 in
set_option maxHeartbeats 0 in
theorem PySem.Challenge.cw_mustmeet_k17_drawings_as_texts_holds : PySem.Challenge.rw_mustmeet_k17_drawings_as_texts.Holds := by
  w_on; o_law; k_head; (case hw => w_witness2)
  k_fill
  refine My.walk (l := PySem.Challenge.rw_mustmeet_k17_drawings_as_texts) rfl rfl (fun w h Y => PySem.W.kIn_of Y) ?F
  case F =>
    intro w mg fa h KX G hmg
    refine' My.all_mk KX G hmg ?a0 ?l0 ?c0 ?k0 ?a1 ?l1 ?c1 ?k1 ?a2 ?l2 ?c2 ?k2 ?a3 ?l3 ?c3 ?k3 ?a4 ?l4 ?c4 ?k4 ?a5 ?l5 ?c5 ?k5 ?a6 ?l6 ?c6 ?k6 ?a7 ?l7 ?c7 ?k7 ?a8 ?l8 ?c8 ?k8 ?a9 ?l9 ?c9 ?k9 ?a10 ?l10 ?c10 ?k10 ?a11 ?l11 ?c11 ?k11 ?a12 ?l12 ?c12 ?k12 ?a13 ?l13 ?c13 ?k13 ?a14 ?l14 ?c14 ?k14 ?a15 ?l15 ?c15 ?k15 ?a16 ?l16 ?c16 ?k16 ?a17 ?l17 ?c17 ?k17 ?a18 ?l18 ?c18 ?k18 ?a19 ?l19 ?c19 ?k19 ?a20 ?l20 ?c20 ?k20 ?a21 ?l21 ?c21 ?k21 ?g_CORD ?g_NO_LETTERS ?g_BAND ?z_enumerate ?z_int ?z_len ?z_list ?z_min ?z_range ?z_repr ?z_sorted ?z_str ?z_tuple ?z_zip
    (case a0 => k_is)
    (case l0 => k_is)
    (case c0 => k_is)
    (case k0 => k_is)
    (case a1 => k_is)
    (case l1 => k_is)
    (case c1 => k_is)
    (case k1 => k_is)
    (case a2 => k_is)
    (case l2 => k_is)
    (case c2 => k_is)
    (case k2 => k_is)
    (case a3 => k_is)
    (case l3 => k_is)
    (case c3 => k_is)
    (case k3 => k_is)
    (case a4 => k_is)
    (case l4 => k_is)
    (case c4 => k_is)
    (case k4 => k_is)
    (case a5 => k_is)
    (case l5 => k_is)
    (case c5 => k_is)
    (case k5 => k_is)
    (case a6 => k_is)
    (case l6 => k_is)
    (case c6 => k_is)
    (case k6 => k_is)
    (case a7 => k_is)
    (case l7 => k_is)
    (case c7 => k_is)
    (case k7 => k_is)
    (case a8 => k_is)
    (case l8 => k_is)
    (case c8 => k_is)
    (case k8 => k_is)
    (case a9 => k_is)
    (case l9 => k_is)
    (case c9 => k_is)
    (case k9 => k_is)
    (case a10 => k_is)
    (case l10 => k_is)
    (case c10 => k_is)
    (case k10 => k_is)
    (case a11 => k_is)
    (case l11 => k_is)
    (case c11 => k_is)
    (case k11 => k_is)
    (case a12 => k_is)
    (case l12 => k_is)
    (case c12 => k_is)
    (case k12 => k_is)
    (case a13 => k_is)
    (case l13 => k_is)
    (case c13 => k_is)
    (case k13 => k_is)
    (case a14 => k_is)
    (case l14 => k_is)
    (case c14 => k_is)
    (case k14 => k_is)
    (case a15 => k_is)
    (case l15 => k_is)
    (case c15 => k_is)
    (case k15 => k_is)
    (case a16 => k_is)
    (case l16 => k_is)
    (case c16 => k_is)
    (case k16 => k_is)
    (case a17 => k_is)
    (case l17 => k_is)
    (case c17 => k_is)
    (case k17 => k_is)
    (case a18 => k_is)
    (case l18 => k_is)
    (case c18 => k_is)
    (case k18 => k_is)
    (case a19 => k_is)
    (case l19 => k_is)
    (case c19 => k_is)
    (case k19 => k_is)
    (case a20 => k_is)
    (case l20 => k_is)
    (case c20 => k_is)
    (case k20 => k_is)
    (case a21 => k_is)
    (case l21 => k_is)
    (case c21 => k_is)
    (case k21 => k_is)
    (case g_CORD => k_is)
    (case g_NO_LETTERS => k_is)
    (case g_BAND => k_is)
    (case z_enumerate => k_is)
    (case z_int => k_is)
    (case z_len => k_is)
    (case z_list => k_is)
    (case z_min => k_is)
    (case z_range => k_is)
    (case z_repr => k_is)
    (case z_sorted => k_is)
    (case z_str => k_is)
    (case z_tuple => k_is)
    (case z_zip => k_is)
