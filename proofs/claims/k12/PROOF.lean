import PyProof.Rows.All
import Wide.All
import OpenK.AllK
import Wide.FinOn
import Lean
import PyProof.EqAt
import PyProof.EqKinds
import PyProof.TupleCall
import PySem.Challenge.RW_mustmeet_k12_whole_bands_taken_out
set_option Elab.async false
set_option linter.all false
set_option maxRecDepth 100000
/-! THE HAND LAYER, for ints, bools, texts, own classes, LISTS and tuples (index, slices, in, append, pop ..), calls, loops. Paste it whole ahead of your own text; what your proof does not reach may be deleted. -/
namespace L2
open PySem PySem.Spec PyProof.Rows

/-- a key: an int or a str -/
abbrev Key := Sum Int Str
def keyIs : Key → Value → Bool
  | .inl k, v => Value.isInt k v
  | .inr x, v => Value.isStrOf x v
def keyH (w : World) : Key → Int
  | .inl k => hashInt k
  | .inr x => hashStr w x
theorem keyIs_shape : ∀ {k : Key} {v : Value}, keyIs k v = true → (∃ i t, k = Sum.inl i ∧ v = Value.int i t) ∨ (∃ x t, k = Sum.inr x ∧ v = Value.str x t)
  | .inl i, v, h => by
    obtain ⟨t, e⟩ := Value.isInt_shape (k := i) (v := v) h
    exact .inl ⟨i, t, rfl, e⟩
  | .inr x, v, h => by
    obtain ⟨t, e⟩ := Value.isStrOf_shape (x := x) (v := v) h
    exact .inr ⟨x, t, rfl, e⟩
theorem keyIs_int (i : Int) (t : Tok) : keyIs (.inl i) (.int i t) = true := by simp [keyIs, Value.isInt]
theorem keyIs_str (x : Str) (t : Tok) : keyIs (.inr x) (.str x t) = true := by simp [keyIs, Value.isStrOf]
theorem key_ll (a b : Int) : decide ((Sum.inl a : Key) = Sum.inl b) = (a == b) := by
  by_cases e : a = b
  · subst e; simp
  · have h : ¬ (Sum.inl a : Key) = Sum.inl b := fun q => e (Sum.inl.inj q)
    rw [decide_eq_false h]
    exact (beq_eq_false_iff_ne.mpr e).symm
theorem key_rr (a b : Str) : decide ((Sum.inr a : Key) = Sum.inr b) = decide (a = b) := by
  by_cases e : a = b
  · subst e; simp
  · have h : ¬ (Sum.inr a : Key) = Sum.inr b := fun q => e (Sum.inr.inj q)
    rw [decide_eq_false h, decide_eq_false e]
theorem key_lr (a : Int) (b : Str) : decide ((Sum.inl a : Key) = Sum.inr b) = false := decide_eq_false (fun q => nomatch q)
theorem key_rl (a : Str) (b : Int) : decide ((Sum.inr a : Key) = Sum.inl b) = false := decide_eq_false (fun q => nomatch q)

def mixKind (prog : Program) (w : World) : PySem.KeyKind prog w Key where
  is := keyIs
  hash := keyH w
  inj := fun v a b ha hb => by
    rcases keyIs_shape ha with ⟨i, t, rfl, rfl⟩ | ⟨x, t, rfl, rfl⟩
    · rcases keyIs_shape hb with ⟨j, u, rfl, e⟩ | ⟨y, u, rfl, e⟩
      · injection e with e1 _; rw [e1]
      · exact nomatch e
    · rcases keyIs_shape hb with ⟨j, u, rfl, e⟩ | ⟨y, u, rfl, e⟩
      · exact nomatch e
      · injection e with e1 _; rw [e1]
  byValue := fun k v h => by
    rcases keyIs_shape h with ⟨i, t, rfl, rfl⟩ | ⟨x, t, rfl, rfl⟩ <;> rfl
  pyHash := fun hv h => by
    rcases keyIs_shape hv with ⟨i, t, rfl, rfl⟩ | ⟨x, t, rfl, rfl⟩
    · exact wpAny_pyHash_int h
    · exact wpAny_pyHash_str h
  eqBool := fun hu hv h => by
    rcases keyIs_shape hu with ⟨i, t, rfl, rfl⟩ | ⟨x, t, rfl, rfl⟩
    · rcases keyIs_shape hv with ⟨j, u, rfl, rfl⟩ | ⟨y, u, rfl, rfl⟩
      · rw [key_ll] at h; exact wpAny_eqBool_int h
      · rw [key_lr] at h; exact SeqAt.EqAt.int_str i t y u _ _ _ _ h
    · rcases keyIs_shape hv with ⟨j, u, rfl, rfl⟩ | ⟨y, u, rfl, rfl⟩
      · rw [key_rl] at h; exact SeqAt.EqAt.str_int x t j u _ _ _ _ h
      · rw [key_rr] at h; exact wpAny_eqBool_str h
  «strs» := fun k x t v h => by
    rcases keyIs_shape h with ⟨i, u, rfl, e⟩ | ⟨y, u, rfl, e⟩
    · exact nomatch e
    · injection e with e1 _
      subst e1
      cases v <;> rfl

theorem mixKind_int (prog : Program) (w : World) (i : Int) (t : Tok) : (mixKind prog w).is (.inl i) (.int i t) = true := keyIs_int i t
theorem mixKind_str (prog : Program) (w : World) (x : Str) (t : Tok) : (mixKind prog w).is (.inr x) (.str x t) = true := keyIs_str x t
end L2

namespace L2
open PySem PySem.Spec PyProof.Rows

/-- a value, without the heap -/
inductive V where
  | non | bl (b : Bool) | int (i : Int) | str (x : Str) | byt (b : Array UInt8) | flt (b : UInt64) | ref (a : Addr) | ty (n : String)
  deriving DecidableEq

def RelV : V → Value → Prop
  | .non, u => u = Value.none
  | .bl b, u => u = Value.bool b
  | .int i, u => ∃ t, u = Value.int i t
  | .str x, u => ∃ t, u = Value.str x t
  | .byt b, u => ∃ t, u = Value.bytes b t
  | .flt b, u => ∃ t, u = Value.float b t
  | .ref a, u => u = Value.ref a
  | .ty n, u => u = Value.type n

abbrev Vals : List V → List Value → Prop := Paired RelV
theorem Vals.length {xs : List V} {us : List Value} (r : Vals xs us) : xs.length = us.length := Paired.length r
theorem Vals.get : ∀ {xs : List V} {us : List Value} {i : Nat} {x : V}, Vals xs us → xs[i]? = some x → ∃ u, us[i]? = some u ∧ RelV x u
  | _, _, _, _, .nil, e => by simp at e
  | _, _, 0, _, .cons r _, e => by simp at e; subst e; exact ⟨_, rfl, r⟩
  | _, _, i + 1, x, .cons _ t, e => by
    obtain ⟨u, h1, h2⟩ := Vals.get (i := i) (x := x) t (by simpa using e)
    exact ⟨u, by simpa using h1, h2⟩
theorem Vals.set {x : V} {u : Value} (r : RelV x u) : ∀ {xs : List V} {us : List Value} (i : Nat), Vals xs us → Vals (xs.set i x) (us.set i u)
  | _, _, _, .nil => .nil
  | _, _, 0, .cons _ t => .cons r t
  | _, _, i + 1, .cons q t => .cons q (Vals.set r i t)
theorem Vals.append : ∀ {xs ys : List V} {us ws : List Value}, Vals xs us → Vals ys ws → Vals (xs ++ ys) (us ++ ws)
  | _, _, _, _, .nil, s => s
  | _, _, _, _, .cons r t, s => .cons r (Vals.append t s)
theorem Vals.take : ∀ {xs : List V} {us : List Value} (n : Nat), Vals xs us → Vals (xs.take n) (us.take n)
  | _, _, 0, _ => .nil
  | _, _, _ + 1, .nil => .nil
  | _, _, n + 1, .cons r t => .cons r (Vals.take n t)
theorem Vals.drop : ∀ {xs : List V} {us : List Value} (n : Nat), Vals xs us → Vals (xs.drop n) (us.drop n)
  | _, _, 0, r => r
  | _, _, _ + 1, .nil => .nil
  | _, _, n + 1, .cons _ t => Vals.drop n t
def RelO : Option V → Option Value → Prop
  | some v, some u => RelV v u
  | none, none => True
  | _, _ => False
def KV {κ : Type} : List (κ × V) → List (κ × Value) → Prop := Paired fun (p : κ × V) (q : κ × Value) => p.1 = q.1 ∧ RelV p.2 q.2

/-- a key of a dict (00_mix): an int or a text -/
def kV : Key → V
  | .inl i => .int i
  | .inr x => .str x

/-- what stands at a tracked address -/
inductive HO where
  /-- a list -/
  | lst (xs : List V)
  /-- a tuple (never changes) -/
  | tup (xs : List V)
  /-- a dict whose keys are ints and texts; one whose keys are tuples of ints and texts (the empty one is both) -/
  | dK (kvs : List (Key × V)) | dT (kvs : List (List Key × V))
  /-- a set of ints: its members, its size -/
  | set (S : Int → Bool) (n : Nat)
  /-- an instance of the class at C, its dict at dx, its attributes -/
  | ins (C dx : Addr) (fs : List (Str × V))
  /-- the dict of the instance at x -/
  | own (x : Addr)
  /-- the dict of an exception -/
  | xd (fs : List (Str × V))
  /-- a bound method, f of x -/
  | met (f x : Addr)
  /-- a range object lo, lo + 1, .. below hi -/
  | rng (lo hi : Int)
  /-- a thing that is known to the object (the script; a dict while a loop walks it): read, never written while it is so -/
  | frz (o : Obj) (u : HO)
  /-- a code object's table -/
  | tbl (ps : Array Value)
  /-- any other thing, by what is true of its one object (a def of one's own: SetO a S n := HO.ext fun h => ..) -/
  | ext (φ : Heap → Prop)

abbrev Hp := Addr → Option HO
def upd (H : Hp) (a : Addr) (o : HO) : Hp := fun b => if b = a then some o else H b
theorem upd_same {H : Hp} {a : Addr} {o : HO} : upd H a o a = some o := by unfold upd; rw [if_pos rfl]
theorem upd_ne {H : Hp} {a b : Addr} {o : HO} (h : b ≠ a) : upd H a o b = H b := by unfold upd; rw [if_neg h]
/-- two objects of different content stand apart -/
theorem ne_of {H : Hp} {a b : Addr} {o u : HO} (h : H a = some o) (h' : H b = some u) (d : o ≠ u) : a ≠ b := by
  intro e; subst e; rw [h] at h'; exact d (Option.some.inj h')
theorem ne_of_none {H : Hp} {a b : Addr} {o : HO} (h : H a = some o) (h' : H b = none) : a ≠ b := by
  intro e; subst e; rw [h] at h'; cases h'

section
variable (P : Program) (w : World)
def ObjOk (H : Hp) (h : Heap) (a : Addr) : HO → Prop
  | .lst xs => xs.length ≤ sizeLine ∧ ∃ (its : List Value) (n : Nat), Vals xs its ∧ h.get? a = some { cls := .type "list", data := .seq its.toArray n }
  | .tup xs => xs.length ≤ sizeLine ∧ ∃ its : List Value, Vals xs its ∧ IsTup h a its.toArray
  | .dK kvs => kvs.length ≤ sizeLine ∧ (a == sysModules) = false ∧ ∃ vs, KV kvs vs ∧ h.DictOf (mixKind P w) a vs
  | .dT kvs => kvs.length ≤ sizeLine ∧ (a == sysModules) = false ∧ ∃ xs : List (List Key × Addr × Value),
      Paired (fun (p : List Key × V) (q : List Key × Addr × Value) => p.1 = q.1 ∧ H q.2.1 = some (.tup (p.1.map kV)) ∧ RelV p.2 q.2.2) kvs xs ∧
      ∃ o es ep, h.get? a = some o ∧ o.ExactDict ∧ o.data = .dict es ep ∧ es.toList = xs.map (entryOfKey (tupleKind (mixKind P w))) ∧ (xs.map (·.1)).Nodup
  | .set S n => h.SetOf (intKind P w) a S n
  | .ins C dx fs => H dx = some (.own a) ∧ fs.length ≤ 1000 ∧ dx ≠ a ∧ h.get? a = some (PySem.W.instObj C dx) ∧
      ∃ mA, h.Ns1 dx mA ∧ (∀ f, RelO (fs.lookup f) (mA f)) ∧ PySem.Within mA (fs.map (·.1))
  | .own _ => ∃ o, h.get? a = some o
  | .xd fs => ∃ mA, h.Ns1 a mA ∧ ∀ f, RelO (fs.lookup f) (mA f)
  | .rng lo hi => ∃ t u v, h.get? a = some { cls := .type "range", data := .fields #[.int lo t, .int hi u, .int 1 v] }
  | .frz o u => h.get? a = some o ∧ ObjOk H h a u
  | .tbl ps => h.get? a = some { cls := .none, data := .fields ps }
  | .met f x => h.get? a = some (PySem.W.methodObj (.ref f) (.ref x))
  | .ext φ => φ h ∧ (∃ o, h.get? a = some o) ∧ ∀ h1 h2 : Heap, φ h1 → (∀ o, h1.get? a = some o → h2.get? a = some o) → φ h2
/-- the abstract heap is held -/
def HOk (H : Hp) (h : Heap) : Prop := ∀ a o, H a = some o → ObjOk P w H h a o
end

section
variable {P : Program} {w : World} {H H' : Hp} {h h' : Heap} {a : Addr} {o : HO}
theorem ObjOk.lt (x : ObjOk P w H h a o) : a < h.objs.size := by
  cases o with
  | lst xs => obtain ⟨_, _, _, _, e⟩ := x; exact Heap.lt_size e
  | tup xs => obtain ⟨_, _, _, p⟩ := x; exact p.lt
  | dK kvs => obtain ⟨_, _, _, _, o, _, _, e, _⟩ := x; exact Heap.lt_size e
  | dT kvs => obtain ⟨_, _, _, _, o, _, _, e, _⟩ := x; exact Heap.lt_size e
  | set S n => obtain ⟨o, _, _, _, e, _⟩ := x; exact Heap.lt_size e
  | ins C dx fs => obtain ⟨_, _, _, e, _⟩ := x; exact Heap.lt_size e
  | own y => obtain ⟨_, e⟩ := x; exact Heap.lt_size e
  | xd fs => obtain ⟨_, ⟨_, _, _, e, _⟩, _⟩ := x; exact Heap.lt_size e
  | rng lo hi => obtain ⟨_, _, _, e⟩ := x; exact Heap.lt_size e
  | frz ob u => obtain ⟨e, _⟩ := x; exact Heap.lt_size e
  | tbl ps => exact Heap.lt_size (show h.get? a = some _ from x)
  | met f y => exact Heap.lt_size (show h.get? a = some _ from x)
  | ext φ => obtain ⟨_, ⟨_, e⟩, _⟩ := x; exact Heap.lt_size e
theorem Paired.mapP {α β : Type} {F G : α → β → Prop} : ∀ {l₁ : List α} {l₂ : List β}, Paired F l₁ l₂ → (∀ a b, F a b → G a b) → Paired G l₁ l₂
  | _, _, .nil, _ => .nil
  | _, _, .cons r t, f => .cons (f _ _ r) (Paired.mapP t f)
/-- what an object's description leans on: its own object, its own dict, the tuples -/
theorem ObjOk.stay (x : ObjOk P w H h a o) (k : ∀ b u, (b = a ∨ H b = some (.own a)) → h.get? b = some u → h'.get? b = some u)
    (ho : ∀ b, H b = some (.own a) → H' b = some (.own a)) (ht : ∀ b xs, H b = some (.tup xs) → H' b = some (.tup xs)) : ObjOk P w H' h' a o := by
  induction o with
  | lst xs => obtain ⟨z, its, n, r, e⟩ := x; exact ⟨z, its, n, r, k _ _ (.inl rfl) e⟩
  | tup xs => obtain ⟨z, its, r, ob, e, c⟩ := x; exact ⟨z, its, r, ob, k _ _ (.inl rfl) e, c⟩
  | dK kvs => obtain ⟨z, y, vs, r, ob, es, ep, e, c⟩ := x; exact ⟨z, y, vs, r, ob, es, ep, k _ _ (.inl rfl) e, c⟩
  | dT kvs =>
    obtain ⟨z, y, xs, r, ob, es, ep, e, c⟩ := x
    exact ⟨z, y, xs, Paired.mapP r fun p q z => ⟨z.1, ht _ _ z.2.1, z.2.2⟩, ob, es, ep, k _ _ (.inl rfl) e, c⟩
  | set S n => obtain ⟨ob, es, ep, t, e, c⟩ := x; exact ⟨ob, es, ep, t, k _ _ (.inl rfl) e, c⟩
  | ins C dx fs =>
    obtain ⟨d, z, ne, e, mA, ⟨od, es, ep, e2, c⟩, r⟩ := x
    exact ⟨ho _ d, z, ne, k _ _ (.inl rfl) e, mA, ⟨od, es, ep, k _ _ (.inr d) e2, c⟩, r⟩
  | own y => obtain ⟨ob, e⟩ := x; exact ⟨ob, k _ _ (.inl rfl) e⟩
  | xd fs => obtain ⟨mA, ⟨od, es, ep, e, c⟩, r⟩ := x; exact ⟨mA, ⟨od, es, ep, k _ _ (.inl rfl) e, c⟩, r⟩
  | rng lo hi => obtain ⟨t, u, v, e⟩ := x; exact ⟨t, u, v, k _ _ (.inl rfl) e⟩
  | frz ob u ih => obtain ⟨e, q⟩ := x; exact ⟨k _ _ (.inl rfl) e, ih q⟩
  | tbl ps =>
    have e : h.get? a = some { cls := .none, data := .fields ps } := x
    show h'.get? a = some { cls := .none, data := .fields ps }
    exact k a _ (.inl rfl) e
  | met f y =>
    have e : h.get? a = some (PySem.W.methodObj (.ref f) (.ref y)) := x
    show h'.get? a = some (PySem.W.methodObj (.ref f) (.ref y))
    exact k a _ (.inl rfl) e
  | ext φ => obtain ⟨p, ⟨o, e⟩, st⟩ := x; exact ⟨st _ _ p fun o q => k _ _ (.inl rfl) q, ⟨o, k _ _ (.inl rfl) e⟩, st⟩
theorem HOk.lt (x : HOk P w H h) (e : H a = some o) : a < h.objs.size := (x a o e).lt
theorem HOk.fresh (x : HOk P w H h) (e : h.objs.size ≤ a) : H a = none := by
  cases q : H a with
  | none => rfl
  | some u => exact absurd (Nat.lt_of_lt_of_le (x.lt q) e) (Nat.lt_irrefl _)
/-- every object of the heap is kept -/
theorem HOk.kept (x : HOk P w H h) (k : ∀ b u, h.get? b = some u → h'.get? b = some u) : HOk P w H h' := fun a o e =>
  (x a o e).stay (fun b u _ q => k b u q) (fun _ q => q) fun _ _ q => q
/-- a new object is laid and tracked -/
theorem HOk.laid (x : HOk P w H h) (k : ∀ b u, h.get? b = some u → h'.get? b = some u) (hp : h.objs.size ≤ a) (new : ObjOk P w (upd H a o) h' a o) : HOk P w (upd H a o) h' := fun b u e => by
  have hn := x.fresh hp
  by_cases hb : b = a
  · subst hb; rw [upd_same] at e; cases e; exact new
  · rw [upd_ne hb] at e
    exact (x b u e).stay (fun c v _ q => k c v q) (fun c q => by rw [upd_ne (ne_of_none q hn)]; exact q) fun c xs q => by rw [upd_ne (ne_of_none q hn)]; exact q
end

/-- what may be read as u: it is u, or a known u -/
def Rd (H : Hp) (a : Addr) (u : HO) : Prop := H a = some u ∨ ∃ o, H a = some (.frz o u)
theorem Rd.of {H : Hp} {a : Addr} {u : HO} (h : H a = some u) : Rd H a u := .inl h
theorem Rd.ok {P : Program} {w : World} {H : Hp} {h : Heap} {a : Addr} {u : HO} (r : Rd H a u) (x : HOk P w H h) : ObjOk P w H h a u := by
  rcases r with r | ⟨o, r⟩
  · exact x a u r
  · obtain ⟨_, q⟩ := x a _ r
    exact q
/-- what may be written -/
def Mut : Option HO → Prop
  | some (.lst _) => True
  | some (.dK _) => True
  | some (.dT _) => True
  | some (.set _ _) => True
  | some (.ins _ _ _) => True
  | some (.ext _) => True
  | _ => False
section
variable {P : Program} {w : World} {H : Hp} {h h' : Heap} {x e : Addr} {o' : HO}
/-- the object at e is changed: x itself, or the dict of the instance x -/
theorem HOk.write (ok : HOk P w H h) (mu : Mut (H x)) (he : e = x ∨ H e = some (.own x)) (k : ∀ b u, b ≠ e → h.get? b = some u → h'.get? b = some u) (heo : ∃ u, h'.get? e = some u)
    (new : ObjOk P w (upd H x o') h' x o') : HOk P w (upd H x o') h' := fun b u q => by
  have nown : ∀ c y, H c = some (.own y) → c ≠ x := fun c y r z => by subst z; rw [r] at mu; exact mu
  have ntup : ∀ c xs, H c = some (.tup xs) → c ≠ x := fun c xs r z => by subst z; rw [r] at mu; exact mu
  by_cases hb : b = x
  · subst hb; rw [upd_same] at q; cases q; exact new
  · rw [upd_ne hb] at q
    by_cases hbe : b = e
    · have q' : H b = some (.own x) := by
        rcases he with z | z
        · exact absurd (hbe.trans z) hb
        · rw [hbe]; exact z
      rw [q] at q'; cases q'
      obtain ⟨v, hv⟩ := heo
      exact ⟨v, by rw [hbe]; exact hv⟩
    · refine (ok b u q).stay (fun c v hc r => k c v ?_ r) (fun c r => by rw [upd_ne (nown c b r)]; exact r) fun c xs r => by rw [upd_ne (ntup c xs r)]; exact r
      rcases hc with rfl | hc
      · exact hbe
      · rintro rfl
        rcases he with z | z
        · exact nown c b hc z
        · rw [hc] at z; cases z; exact hb rfl
end

/-! ### kept unless tracked; of the frames at fs (the callers') the slots may change (an exception that passes writes there); of the records at ex (iterators) nothing is said -/
structure Un (fs ex : List Addr) (H H' : Hp) (h h' : Heap) : Prop where
  keep : ∀ b o, h.get? b = some o → H b = none → b ∉ fs → b ∉ ex → h'.get? b = some o
  slot : ∀ b o, h.get? b = some o → H b = none → b ∈ fs → b ∉ ex → ∃ sl, h'.get? b = some { o with slots := sl }
  free : ∀ b o, h.get? b = some o → H b = none → b ∉ ex → H' b = none
  there : ∀ b o, h.get? b = some o → b ∉ ex → ∃ o', h'.get? b = some o'
  tups : ∀ b xs, H b = some (.tup xs) → H' b = some (.tup xs)
  frzs : ∀ b o u, H b = some (.frz o u) → H' b = some (.frz o u)
  tbls : ∀ b ps, H b = some (.tbl ps) → ∃ more, H' b = some (.tbl (ps ++ more))
section
variable {fs fs' ex ex' : List Addr} {H H1 H2 : Hp} {h h1 h2 h' : Heap} {a x e : Addr} {o : HO}
theorem Un.any (u : Un fs ex H H1 h h1) {b : Addr} {ob : Obj} (q : h.get? b = some ob) (n : H b = none) (hx : b ∉ ex) : ∃ sl, h1.get? b = some { ob with slots := sl } := by
  by_cases hb : b ∈ fs
  · exact u.slot b ob q n hb hx
  · exact ⟨ob.slots, u.keep b ob q n hb hx⟩
theorem Un.trans (a : Un fs ex H H1 h h1) (b : Un fs ex H1 H2 h1 h2) : Un fs ex H H2 h h2 where
  keep := fun c ob q n hc hx => b.keep c ob (a.keep c ob q n hc hx) (a.free c ob q n hx) hc hx
  slot := fun c ob q n hc hx => by
    obtain ⟨sl, e1⟩ := a.slot c ob q n hc hx
    obtain ⟨sl', e2⟩ := b.slot c _ e1 (a.free c ob q n hx) hc hx
    exact ⟨sl', e2⟩
  free := fun c ob q n hx => by
    obtain ⟨o', e1⟩ := a.there c ob q hx
    exact b.free c o' e1 (a.free c ob q n hx) hx
  there := fun c ob q hx => by
    obtain ⟨o', e1⟩ := a.there c ob q hx
    exact b.there c o' e1 hx
  tups := fun c xs q => b.tups c xs (a.tups c xs q)
  frzs := fun c ob xs q => b.frzs c ob xs (a.frzs c ob xs q)
  tbls := fun c ps q => by
    obtain ⟨m1, e1⟩ := a.tbls c ps q
    obtain ⟨m2, e2⟩ := b.tbls c _ e1
    exact ⟨m1 ++ m2, by rw [e2, Array.append_assoc]⟩
theorem Un.kept (k : ∀ b u, h.get? b = some u → h'.get? b = some u) : Un fs ex H H h h' :=
  ⟨fun b ob q _ _ _ => k b ob q, fun b ob q _ _ _ => ⟨ob.slots, k b ob q⟩, fun _ _ _ n _ => n, fun b ob q _ => ⟨ob, k b ob q⟩, fun _ _ q => q, fun _ _ _ q => q, fun _ ps q => ⟨#[], by rw [q]; simp⟩⟩
theorem Un.refl : Un fs ex H H h h := Un.kept fun _ _ q => q
theorem Un.laid (k : ∀ b u, h.get? b = some u → h'.get? b = some u) (hp : h.objs.size ≤ a) (hn : H a = none) : Un fs ex H (upd H a o) h h' where
  keep := fun b u q _ _ _ => k b u q
  slot := fun b u q _ _ _ => ⟨u.slots, k b u q⟩
  free := fun b u q n _ => by rw [upd_ne (Nat.ne_of_lt (Nat.lt_of_lt_of_le (Heap.lt_size q) hp))]; exact n
  there := fun b u q _ => ⟨u, k b u q⟩
  tups := fun b xs q => by rw [upd_ne (ne_of_none q hn)]; exact q
  frzs := fun b u xs q => by rw [upd_ne (ne_of_none q hn)]; exact q
  tbls := fun b ps q => ⟨#[], by rw [upd_ne (ne_of_none q hn), q]; simp⟩
theorem Un.write (mu : Mut (H x)) (he : e = x ∨ H e = some (.own x)) (k : ∀ b u, b ≠ e → h.get? b = some u → h'.get? b = some u) (heo : ∃ u, h'.get? e = some u) : Un fs ex H (upd H x o) h h' := by
  have hx : ∀ b, H b = none → b ≠ x := fun b n z => by subst z; rw [n] at mu; exact mu
  have hb : ∀ b, H b = none → b ≠ e := fun b n z => by
    subst z
    rcases he with r | r
    · exact hx b n r
    · rw [n] at r; cases r
  have hm : ∀ b u, H b = some u → ¬ Mut (some u) → b ≠ x := fun b u q nm z => by subst z; rw [q] at mu; exact nm mu
  refine ⟨fun b u q n _ _ => k b u (hb b n) q, fun b u q n _ _ => ⟨u.slots, k b u (hb b n) q⟩, fun b u q n _ => by rw [upd_ne (hx b n)]; exact n, fun b u q _ => ?_,
    fun b xs q => by rw [upd_ne (hm b _ q fun z => z)]; exact q, fun b u xs q => by rw [upd_ne (hm b _ q fun z => z)]; exact q, fun b ps q => ⟨#[], by rw [upd_ne (hm b _ q fun z => z), q]; simp⟩⟩
  by_cases hbe : b = e
  · subst hbe; exact heo
  · exact ⟨u, k b u hbe q⟩
theorem Un.mono (u : Un fs ex H H1 h h1) (hs : ∀ b ∈ fs, b ∈ fs') (hx : ∀ b ∈ ex, b ∈ ex') : Un fs' ex' H H1 h h1 :=
  ⟨fun b ob q n hb he => u.keep b ob q n (fun z => hb (hs b z)) fun z => he (hx b z), fun _ _ q n _ he => u.any q n fun z => he (hx _ z), fun b ob q n he => u.free b ob q n fun z => he (hx b z), fun b ob q he => u.there b ob q fun z => he (hx b z), u.tups, u.frzs, u.tbls⟩
end

/-! ### the heap without what is tracked -/
def trk (h : Heap) (H : Hp) : List Addr := (List.range h.objs.size).filter fun a => (H a).isSome
def hidT (h : Heap) (H : Hp) : Heap := PySem.W.hideAll h (trk h H)
theorem hidT_size (h : Heap) (H : Hp) : (hidT h H).objs.size = h.objs.size := PySem.W.hideAll_size _ _
theorem hidT_get {h : Heap} {H : Hp} {b : Addr} {o : Obj} (e : h.get? b = some o) (n : H b = none) : (hidT h H).get? b = some o :=
  PySem.W.hideAll_get _ e fun hm => by
    have q : (H b).isSome = true := (List.mem_filter.mp hm).2
    rw [n] at q; simp at q
theorem of_hidT {h : Heap} {H : Hp} {b : Addr} {o : Obj} (e : (hidT h H).get? b = some o) : h.get? b = some o ∧ H b = none := by
  have e' : h.get? b = some o := PySem.W.of_hideAll (trk h H) e
  refine ⟨e', ?_⟩
  cases q : H b with
  | none => rfl
  | some x =>
    have hm : b ∈ trk h H := List.mem_filter.mpr ⟨List.mem_range.mpr (Heap.lt_size e'), by simp [q]⟩
    have z : (hidT h H).get? b = none := PySem.W.hideAll_none (trk h H) hm
    rw [z] at e; cases e

/-! ### OpenK's ledger, filled with every new object but one -/
def allNews (g h : Heap) (L : Addr) : List (Addr × Obj) := (List.range h.objs.size).filterMap fun a => if a = L ∨ (g.get? a).isSome = true then none else (h.get? a).map fun o => (a, o)
def rest (g h : Heap) (L d : Addr) : List (Addr × Obj) := (allNews g h L).filter fun p => decide (p.1 ≠ d)
end L2

namespace L2
open PySem PySem.Spec PyProof.Rows

/-- the module's facts, over the base: the heap at the law's entry without what is tracked there -/
structure Mod (K : PySem.W.Frag) (mg : Str → Option Value) (base : Heap) : Prop where
  kin : K.In base
  glob : base.Ns mainGlobals mg
  blt : ∃ mb, base.Ns builtinsNs mb ∧ ∀ x : Str, x ≠ "__name__" → mb x = bootBuiltins x
  nolimit : base.NoLimit

/-- the context: a def's body (or a comprehension's block) running. base: fixed through the whole law; s₀, H₀: the entry; outer: the frames whose slots others may change (a def's callers); stack: all frames that run;
   ex: iterators that were made ahead of the entry and are walked here (a comprehension's); fn: the names whose cells were made at the entry (a def: all; a comprehension's block: its own); calm: not within an except suite; pn: pins that every state bears; xe: what is wanted of an exception that leaves the code -/
structure Cx where
  prog : Program
  w : World
  K : PySem.W.Frag
  mg : Str → Option Value
  base : Heap
  A : Around
  N : List Str
  s₀ : Shared
  H₀ : Hp
  env : Env
  outer : List Env
  stack : List Env
  ex : List Addr
  fn : Str → Bool
  calm : Bool
  pn : List (Addr × Obj)
  xe : Value → Shared → Prop
/-- the callers' frames -/
def frs (l : List Env) : List Addr := l.filterMap (·.frame)
abbrev Cx.fs (X : Cx) : List Addr := frs X.outer

def Vis (sc : Scope) (x : Str) : Prop := sc.names.lookup x = some .local ∨ sc.names.lookup x = some .cell ∨ sc.names.lookup x = some .free
def Loc (sc : Scope) (x : Str) : Prop := sc.names.lookup x = some .local ∨ sc.names.lookup x = some .cell
def Look (env : Env) (h : Heap) (m : Str → Option Value) (x : Str) (u : Value) : Prop :=
  (env.kindOf x = some .local ∧ m x = some u) ∨ ((env.kindOf x = some .cell ∨ env.kindOf x = some .free) ∧ ∃ c, env.cells.lookup x = some c ∧ h.IsCell c (some u))

structure Cx.Ok (X : Cx) : Prop where
  mod : Mod X.K X.mg X.base
  kind : X.env.scope.kind = .function
  glob : X.env.globals = mainGlobals
  blt : X.env.builtins = builtinsNs
  above : X.s₀.heap.objs.size ≤ X.env.locals
  inj : ∀ x y c, X.env.cells.lookup x = some c → X.env.cells.lookup y = some c → x = y
  has : ∀ x, (X.env.kindOf x = some .cell ∨ X.env.kindOf x = some .free) → ∃ c, X.env.cells.lookup x = some c
  cab : ∀ x c, X.fn x = true → X.env.cells.lookup x = some c → X.s₀.heap.objs.size ≤ c
  hd : X.calm = true → X.A.handled = none
  frames : X.A.frames = some X.stack
  stk : X.stack = X.outer ∨ (X.stack = X.env :: X.outer ∧ X.env.frame = some X.env.locals)
  exf : ∀ b ∈ X.ex, b ≠ X.env.locals ∧ ∀ x c, X.env.cells.lookup x = some c → c ≠ b
  bs : ∀ b o, X.base.get? b = some o → X.s₀.heap.get? b = some o ∧ X.H₀ b = none
  bsz : X.base.objs.size ≤ X.s₀.heap.objs.size
  noex : ∀ b o, X.base.get? b = some o → b ∉ X.ex
  exfs : ∀ b ∈ X.ex, b ∉ X.fs
  funs : X.s₀.heap.FunFrames X.base X.outer
  frf : ∀ b ∈ X.fs, X.H₀ b = none

structure Inv (X : Cx) (pins : List (Addr × Obj)) (σ : List (Option V)) (H : Hp) (s : Shared) : Prop where
  ok : X.Ok
  os : s.os = X.s₀.os
  bare : AllBare s.gens
  base : Un X.fs X.ex X.H₀ H X.s₀.heap s.heap
  loc : ∃ m, s.heap.Ns X.env.locals m ∧ ∀ (i : Nat) (x : Str) (v : V), X.N[i]? = some x → σ[i]? = some (some v) → Vis X.env.scope x → ∃ u, RelV v u ∧ Look X.env s.heap m x u
  cell : ∀ x c, X.env.cells.lookup x = some c → ∃ v, s.heap.IsCell c v
  free : H X.env.locals = none
  freeC : ∀ x c, X.env.cells.lookup x = some c → H c = none
  pin : ∀ p ∈ X.pn ++ pins, s.heap.get? p.1 = some p.2 ∧ H p.1 = none ∧ p.1 ≠ X.env.locals ∧ p.1 ∉ X.fs ∧ ∀ v, p.2.data ≠ .cell v
  hok : HOk X.prog X.w H s.heap
  len : σ.length = X.N.length

section
variable {X : Cx} {pins : List (Addr × Obj)} {σ : List (Option V)} {H H' : Hp} {s : Shared} {h' : Heap}

theorem Cx.Ok.nofr (ok : X.Ok) {b : Addr} {o : Obj} (e : X.base.get? b = some o) : b ∉ X.fs := fun hb => by
  have := (ok.funs.mem hb).1
  rw [e] at this; cases this
theorem Inv.bs (I : Inv X pins σ H s) : ∀ b o, X.base.get? b = some o → s.heap.get? b = some o ∧ H b = none := fun b o e =>
  ⟨I.base.keep b o (I.ok.bs b o e).1 (I.ok.bs b o e).2 (I.ok.nofr e) (I.ok.noex b o e), I.base.free b o (I.ok.bs b o e).1 (I.ok.bs b o e).2 (I.ok.noex b o e)⟩
theorem Inv.bk (I : Inv X pins σ H s) : ∀ b o, X.base.get? b = some o → s.heap.get? b = some o := fun b o e => (I.bs b o e).1
theorem Inv.mod (I : Inv X pins σ H s) : Mod X.K X.mg X.base := I.ok.mod
theorem Inv.kIn (I : Inv X pins σ H s) : X.K.In s.heap := I.ok.mod.kin.keeps I.bk
theorem Inv.nolimit (I : Inv X pins σ H s) : s.heap.NoLimit := I.ok.mod.nolimit.keeps I.bk
theorem Inv.lt (I : Inv X pins σ H s) : X.env.locals < s.heap.objs.size := let ⟨_, hn, _⟩ := I.loc; hn.lt
theorem Inv.sz (I : Inv X pins σ H s) : X.s₀.heap.objs.size ≤ s.heap.objs.size := Nat.le_trans I.ok.above (Nat.le_of_lt I.lt)
theorem Inv.nofs (I : Inv X pins σ H s) {a : Addr} (h : s.heap.objs.size ≤ a) : a ∉ X.fs := fun hb => by
  obtain ⟨_, o, ho, _⟩ := I.ok.funs.mem hb
  exact absurd (Nat.lt_of_lt_of_le (Heap.lt_size ho) (Nat.le_trans I.sz h)) (Nat.lt_irrefl _)
theorem Inv.cne (I : Inv X pins σ H s) : ∀ x c, X.env.cells.lookup x = some c → c ≠ X.env.locals := fun x c e z => by
  obtain ⟨v, o, ho, hd⟩ := I.cell x c e
  obtain ⟨m, ⟨o', es, ep, ho', hd', _⟩, _⟩ := I.loc
  rw [z, ho'] at ho; cases ho; rw [hd'] at hd; cases hd
theorem Inv.funs (I : Inv X pins σ H s) : s.heap.FunFrames X.base X.outer := by
  have all : ∀ (l : List Env), (∀ b ∈ frs l, b ∈ X.fs) → X.s₀.heap.FunFrames X.base l → s.heap.FunFrames X.base l := by
    intro l
    induction l with
    | nil => intro _ _; trivial
    | cons env r ih =>
      intro hs hl
      obtain ⟨hk, ⟨L, o, hf, hn, ho, hd⟩, hr⟩ := hl
      have hL : L ∈ X.fs := hs L (by unfold frs; rw [List.filterMap_cons, hf]; exact List.mem_cons_self)
      obtain ⟨sl, e⟩ := I.base.slot L o ho (I.ok.frf L hL) hL fun z => I.ok.exfs L z hL
      exact ⟨hk, ⟨L, _, hf, hn, e, hd⟩, ih (fun b hb => hs b (by unfold frs; rw [List.filterMap_cons, hf]; exact List.mem_cons_of_mem _ hb)) hr⟩
  exact all X.outer (fun _ hb => hb) I.ok.funs

/-- the frames that run, for a call -/
theorem Inv.stack (I : Inv X pins σ H s) : s.heap.FunFrames X.base X.stack := by
  rcases I.ok.stk with e | ⟨e, hf⟩
  · rw [e]; exact I.funs
  · rw [e]
    obtain ⟨m, hn, _⟩ := I.loc
    refine .cons (by rw [I.ok.kind]; decide) hf hn ?_ I.funs
    exact Heap.get?_none_of_le (Nat.le_trans I.ok.bsz I.ok.above)
theorem Inv.stkSub (I : Inv X pins σ H s) : ∀ b ∈ frs X.stack, b ∈ X.env.locals :: X.fs := fun b hb => by
  rcases I.ok.stk with e | ⟨e, hf⟩
  · rw [e] at hb; exact List.mem_cons_of_mem _ hb
  · rw [e] at hb
    unfold frs at hb
    rw [List.filterMap_cons, hf] at hb
    exact hb
theorem Inv.stkFree (I : Inv X pins σ H s) : ∀ b ∈ frs X.stack, H b = none := fun b hb => by
  rcases List.mem_cons.mp (I.stkSub b hb) with e | hb
  · rw [e]; exact I.free
  · obtain ⟨_, o, ho, _⟩ := I.ok.funs.mem hb
    exact I.base.free b o ho (I.ok.frf b hb) fun z => I.ok.exfs b z hb

/-- THE STEP: the untracked objects but the frame and the records at ch are kept (the callers' frames up to slots), the frame's map is kept, the new abstract heap is held -/
theorem Inv.step {g' : Array GenState} {t' : Nat} {d' : Drawn} {ch : List Addr} (I : Inv X pins σ H s)
    (hch : ∀ b ∈ ch, (b ∈ X.ex ∨ X.s₀.heap.objs.size ≤ b) ∧ b ≠ X.env.locals ∧ (∀ x c, X.env.cells.lookup x = some c → c ≠ b) ∧ ∀ p ∈ X.pn ++ pins, p.1 ≠ b)
    (keep : ∀ b o, b ≠ X.env.locals → b ∉ X.fs → b ∉ ch → s.heap.get? b = some o → H b = none → h'.get? b = some o)
    (slot : ∀ b o, b ≠ X.env.locals → b ∈ X.fs → b ∉ ch → s.heap.get? b = some o → H b = none → ∃ sl, h'.get? b = some { o with slots := sl }) (free : ∀ b o, b ∉ ch → s.heap.get? b = some o → H b = none → H' b = none)
    (there : ∀ b o, b ∉ ch → s.heap.get? b = some o → ∃ o', h'.get? b = some o')
    (tups : ∀ b xs, H b = some (.tup xs) → H' b = some (.tup xs)) (frzs : ∀ b o u, H b = some (.frz o u) → H' b = some (.frz o u)) (tbls : ∀ b ps, H b = some (.tbl ps) → ∃ more, H' b = some (.tbl (ps ++ more)))
    (ns : ∀ m, s.heap.Ns X.env.locals m → h'.Ns X.env.locals m) (hok : HOk X.prog X.w H' h') (hg : AllBare g') :
    Inv X pins σ H' { s with heap := h', gens := g', drawn := d', toks := t' } := by
  have neL : ∀ b o, X.s₀.heap.get? b = some o → b ≠ X.env.locals := fun b o e => Nat.ne_of_lt (Nat.lt_of_lt_of_le (Heap.lt_size e) I.ok.above)
  have neC : ∀ b o, X.s₀.heap.get? b = some o → b ∉ X.ex → b ∉ ch := fun b o e hx hb => by
    rcases (hch b hb).1 with z | z
    · exact hx z
    · exact absurd (Nat.lt_of_lt_of_le (Heap.lt_size e) z) (Nat.lt_irrefl _)
  have cellK : ∀ x c, X.env.cells.lookup x = some c → ∀ v, s.heap.IsCell c v → h'.IsCell c v := fun x c e v ⟨o, ho, hd⟩ => by
    have nch : c ∉ ch := fun z => (hch c z).2.2.1 x c e rfl
    by_cases hc : c ∈ X.fs
    · obtain ⟨sl, q⟩ := slot c o (I.cne x c e) hc nch ho (I.freeC x c e)
      exact ⟨_, q, hd⟩
    · exact ⟨o, keep c o (I.cne x c e) hc nch ho (I.freeC x c e), hd⟩
  refine ⟨I.ok, I.os, hg, ⟨fun b o e n hb hx => ?_, fun b o e n hb hx => ?_, fun b o e n hx => ?_, fun b o e hx => ?_, fun b xs e => tups b xs (I.base.tups b xs e), fun b o xs e => frzs b o xs (I.base.frzs b o xs e), fun b ps e => ?_⟩, ?_, fun x c e => ?_, ?_, fun x c e => ?_, fun p hp => ?_, hok, I.len⟩
  · exact keep b o (neL b o e) hb (neC b o e hx) (I.base.keep b o e n hb hx) (I.base.free b o e n hx)
  · obtain ⟨sl, e1⟩ := I.base.slot b o e n hb hx
    obtain ⟨sl', e2⟩ := slot b _ (neL b o e) hb (neC b o e hx) e1 (I.base.free b o e n hx)
    exact ⟨sl', e2⟩
  · obtain ⟨o', e1⟩ := I.base.there b o e hx
    exact free b o' (neC b o e hx) e1 (I.base.free b o e n hx)
  · obtain ⟨o', e1⟩ := I.base.there b o e hx
    exact there b o' (neC b o e hx) e1
  · obtain ⟨m1, e1⟩ := I.base.tbls b ps e
    obtain ⟨m2, e2⟩ := tbls b _ e1
    exact ⟨m1 ++ m2, by rw [e2, Array.append_assoc]⟩
  · obtain ⟨m, hn, hl⟩ := I.loc
    refine ⟨m, ns m hn, fun i x v e1 e2 e3 => ?_⟩
    obtain ⟨u, r, l⟩ := hl i x v e1 e2 e3
    refine ⟨u, r, ?_⟩
    rcases l with l | ⟨k, c, e, z⟩
    · exact .inl l
    · exact .inr ⟨k, c, e, cellK x c e _ z⟩
  · obtain ⟨v, z⟩ := I.cell x c e
    exact ⟨v, cellK x c e v z⟩
  · obtain ⟨m, ⟨o, _, _, ho, _⟩, _⟩ := I.loc
    exact free _ o (fun z => (hch _ z).2.1 rfl) ho I.free
  · obtain ⟨v, o, ho, hd⟩ := I.cell x c e
    exact free c o (fun z => (hch c z).2.2.1 x c e rfl) ho (I.freeC x c e)
  · obtain ⟨e, n, ne, nf, d⟩ := I.pin p hp
    have nch : p.1 ∉ ch := fun z => (hch p.1 z).2.2.2 p hp rfl
    exact ⟨keep p.1 p.2 ne nf nch e n, free p.1 p.2 nch e n, ne, nf, d⟩
/-- .. where the frame's own object is kept too -/
theorem Inv.un {t' : Nat} (I : Inv X pins σ H s) (u : Un X.fs [] H H' s.heap h') (hok : HOk X.prog X.w H' h') : Inv X pins σ H' { s with heap := h', toks := t' } := by
  obtain ⟨m, ⟨o, es, ep, ho, r⟩, _⟩ := id I.loc
  obtain ⟨sl, hL⟩ := u.any ho I.free (by simp)
  exact I.step (g' := s.gens) (d' := s.drawn) (ch := []) (fun _ z => nomatch z) (fun b o _ hb _ e n => u.keep b o e n hb (by simp)) (fun b o _ hb _ e n => u.slot b o e n hb (by simp)) (fun b o _ e n => u.free b o e n (by simp)) (fun b o _ e => u.there b o e (by simp)) u.tups u.frzs u.tbls (fun m' hm => by
    obtain ⟨o', es', ep', ho', r'⟩ := hm
    rw [ho] at ho'; cases ho'
    exact ⟨_, es', ep', hL, r'⟩) hok I.bare
/-- behind a call (or a comprehension's block): the slots of this frame may have changed too, the records at ch may have turned -/
theorem Inv.call {g' : Array GenState} {t' : Nat} {d' : Drawn} {ch : List Addr} (I : Inv X pins σ H s) (u : Un (frs X.stack) ch H H' s.heap h') (hok : HOk X.prog X.w H' h') (hg : AllBare g')
    (hch : ∀ b ∈ ch, (b ∈ X.ex ∨ X.s₀.heap.objs.size ≤ b) ∧ b ≠ X.env.locals ∧ (∀ x c, X.env.cells.lookup x = some c → c ≠ b) ∧ ∀ p ∈ X.pn ++ pins, p.1 ≠ b) :
    Inv X pins σ H' { s with heap := h', gens := g', drawn := d', toks := t' } := by
  obtain ⟨m, ⟨o, es, ep, ho, r⟩, _⟩ := id I.loc
  obtain ⟨sl, hL⟩ := u.any ho I.free fun z => (hch _ z).2.1 rfl
  exact I.step (ch := ch) hch (fun b o hL hb hc e n => u.keep b o e n (fun z => (List.mem_cons.mp (I.stkSub b z)).elim hL hb) hc) (fun b o _ _ hc e n => u.any e n hc) (fun b o hc e n => u.free b o e n hc) (fun b o hc e => u.there b o e hc) u.tups u.frzs u.tbls (fun m' hm => by
    obtain ⟨o', es', ep', ho', r'⟩ := hm
    rw [ho] at ho'; cases ho'
    exact ⟨_, es', ep', hL, r'⟩) hok hg
/-- an untracked record of ours (an iterator) has turned -/
theorem Inv.turned {t' : Nat} {it : Addr} (I : Inv X pins σ H s) (k : ∀ b o, b ≠ it → s.heap.get? b = some o → h'.get? b = some o) (hn : H it = none) (hL : it ≠ X.env.locals)
    (h1 : it ∈ X.ex ∨ X.s₀.heap.objs.size ≤ it) (h2 : ∀ x c, X.env.cells.lookup x = some c → c ≠ it) (h3 : ∀ p ∈ X.pn ++ pins, p.1 ≠ it) : Inv X pins σ H { s with heap := h', toks := t' } := by
  have nit : ∀ b u, H b = some u → b ≠ it := fun b u e z => by rw [z, hn] at e; cases e
  refine I.step (g' := s.gens) (d' := s.drawn) (ch := [it]) (fun b hb => ?_) (fun b o _ _ hc e _ => k b o (fun z => hc (by simp [z])) e) (fun b o _ _ hc e _ => ⟨o.slots, k b o (fun z => hc (by simp [z])) e⟩) (fun _ _ _ _ n => n)
    (fun b o hc e => ⟨o, k b o (fun z => hc (by simp [z])) e⟩) (fun _ _ e => e) (fun _ _ _ e => e) (fun b ps e => ⟨#[], by rw [e]; simp⟩) (fun m hm => ?_) (fun b u e => ?_) I.bare
  · have e : b = it := by simpa using hb
    subst e
    exact ⟨h1, hL, h2, h3⟩
  · obtain ⟨o, es, ep, ho, r⟩ := hm
    exact ⟨o, es, ep, k _ o (Ne.symm hL) ho, r⟩
  · refine (I.hok b u e).stay (fun c v hc q => k c v ?_ q) (fun _ q => q) fun _ _ q => q
    rcases hc with z | z
    · rw [z]; exact nit b u e
    · exact nit c _ z
theorem Inv.tok (I : Inv X pins σ H s) (t : Nat) : Inv X pins σ H { s with toks := t } := I.un (h' := s.heap) (t' := t) Un.refl I.hok
/-- all objects kept -/
theorem Inv.kept {t' : Nat} (I : Inv X pins σ H s) (k : ∀ b u, s.heap.get? b = some u → h'.get? b = some u) : Inv X pins σ H { s with heap := h', toks := t' } := I.un (Un.kept k) (I.hok.kept k)
/-- a new object laid and tracked -/
theorem Inv.laid {a : Addr} {o : HO} {t' : Nat} (I : Inv X pins σ H s) (k : ∀ b u, s.heap.get? b = some u → h'.get? b = some u) (hp : s.heap.objs.size ≤ a) (new : ObjOk X.prog X.w (upd H a o) h' a o) :
    Inv X pins σ (upd H a o) { s with heap := h', toks := t' } := I.un (Un.laid k hp (I.hok.fresh hp)) (I.hok.laid k hp new)
/-- an object written -/
theorem Inv.write {x e : Addr} {o : HO} {t' : Nat} (I : Inv X pins σ H s) (mu : Mut (H x)) (he : e = x ∨ H e = some (.own x)) (k : ∀ b u, b ≠ e → s.heap.get? b = some u → h'.get? b = some u) (heo : ∃ u, h'.get? e = some u)
    (new : ObjOk X.prog X.w (upd H x o) h' x o) : Inv X pins σ (upd H x o) { s with heap := h', toks := t' } := I.un (Un.write mu he k heo) (I.hok.write mu he k heo new)
/-- forgetting slots, pins -/
theorem Inv.weak {σ' : List (Option V)} (I : Inv X pins σ H s) (hl : σ'.length = σ.length) (w : ∀ (i : Nat) v, σ'[i]? = some (some v) → σ[i]? = some (some v)) : Inv X pins σ' H s :=
  ⟨I.ok, I.os, I.bare, I.base, let ⟨m, hn, hl'⟩ := I.loc; ⟨m, hn, fun i x v e1 e2 e3 => hl' i x v e1 (w i v e2) e3⟩, I.cell, I.free, I.freeC, I.pin, I.hok, hl.trans I.len⟩
theorem Inv.pins_of {pins' : List (Addr × Obj)} (I : Inv X pins σ H s) (h : ∀ p ∈ pins', s.heap.get? p.1 = some p.2 ∧ H p.1 = none ∧ p.1 ≠ X.env.locals ∧ p.1 ∉ X.fs ∧ ∀ v, p.2.data ≠ .cell v) : Inv X pins' σ H s :=
  ⟨I.ok, I.os, I.bare, I.base, I.loc, I.cell, I.free, I.freeC, fun p hp => (List.mem_append.mp hp).elim (fun z => I.pin p (List.mem_append_left _ z)) (h p), I.hok, I.len⟩

theorem nodup_ix {N : List Str} (hN : N.Nodup) {i j : Nat} {x : Str} (a : N[i]? = some x) (b : N[j]? = some x) : i = j := by
  obtain ⟨h1, e1⟩ := List.getElem?_eq_some_iff.mp a
  obtain ⟨h2, e2⟩ := List.getElem?_eq_some_iff.mp b
  exact (List.getElem_inj hN).mp (e1.trans e2.symm)

/-- a name is stored; what changed -/
theorem store_ok2 {M : Model} {A : Around} {E : Value → Shared → Prop} {i : Nat} {x : Str} {v : V} {u : Value} {Q : Unit → Shared → Prop} (I : Inv X pins σ H s) (hN : X.N.Nodup) (hi : X.N[i]? = some x) (hx : Loc X.env.scope x) (r : RelV v u)
    (h : ∀ s', Inv X pins (σ.set i (some v)) H s' → (∃ a, Heap.SameBut a s.heap s'.heap ∧ (a = X.env.locals ∨ X.env.cells.lookup x = some a)) → Q () s') (hf : X.fn x = true ∨ X.env.scope.names.lookup x = some .local := by first | exact .inl rfl | exact .inr rfl | assumption) : wpAny M A (storeName X.env x u) Q E s := by
  obtain ⟨m, hn, hl⟩ := id I.loc
  have hcls : (X.env.scope.kind == .class || (X.env.scope.kind == .module && X.env.locals != X.env.globals)) = false := by rw [I.ok.kind]; rfl
  have hiσ : i < σ.length := by rw [I.len]; exact (List.getElem?_eq_some_iff.mp hi).1
  have cne := I.cne
  have tracked : ∀ {a : Addr} {h' : Heap}, (∃ o, s.heap.get? a = some o ∧ H a = none) → Heap.SameBut a s.heap h' → HOk X.prog X.w H h' := fun {a h'} ha hs b ob e => by
    obtain ⟨_, _, hfree⟩ := ha
    refine (I.hok b ob e).stay (fun c w' hc q => (hs.2 c ?_).trans q) (fun _ q => q) fun _ _ q => q
    rintro rfl
    rcases hc with rfl | hc
    · rw [hfree] at e; cases e
    · rw [hfree] at hc; cases hc
  rcases hx with hk | hk
  · refine wpAny_storeName_local hk hn (fun h' hn' hs => ?_) hcls
    obtain ⟨oL, _, _, hoL, _⟩ := id hn
    refine h _ ⟨I.ok, I.os, I.bare, ⟨fun b o e n hb hx => ?_, fun b o e n hb hx => ?_, I.base.free, fun b o e hx => ?_, I.base.tups, I.base.frzs, I.base.tbls⟩, ⟨_, hn', fun j y v' e1 e2 e3 => ?_⟩, fun y c e => ?_, I.free, I.freeC, fun p hp => ?_, tracked ⟨oL, hoL, I.free⟩ hs, by simpa using I.len⟩ ⟨_, hs, .inl rfl⟩
    · exact (hs.2 b (Nat.ne_of_lt (Nat.lt_of_lt_of_le (Heap.lt_size e) I.ok.above))).trans (I.base.keep b o e n hb hx)
    · obtain ⟨sl, e1⟩ := I.base.slot b o e n hb hx
      exact ⟨sl, (hs.2 b (Nat.ne_of_lt (Nat.lt_of_lt_of_le (Heap.lt_size e) I.ok.above))).trans e1⟩
    · obtain ⟨o', e1⟩ := I.base.there b o e hx
      exact ⟨o', (hs.2 b (Nat.ne_of_lt (Nat.lt_of_lt_of_le (Heap.lt_size e) I.ok.above))).trans e1⟩
    · by_cases hj : j = i
      · subst hj
        rw [hi] at e1; cases e1
        rw [List.getElem?_set_self hiσ] at e2
        cases e2
        exact ⟨u, r, .inl ⟨hk, by simp⟩⟩
      · rw [List.getElem?_set_ne (Ne.symm hj)] at e2
        obtain ⟨u', r', q⟩ := hl j y v' e1 e2 e3
        refine ⟨u', r', ?_⟩
        rcases q with ⟨k, e⟩ | ⟨k, c, e, z⟩
        · refine .inl ⟨k, ?_⟩
          have : y ≠ x := fun e => hj (nodup_ix hN e1 (e ▸ hi))
          simp [this, e]
        · exact .inr ⟨k, c, e, z.sameBut hs (cne y c e)⟩
    · obtain ⟨w', z⟩ := I.cell y c e
      exact ⟨w', z.sameBut hs (cne y c e)⟩
    · obtain ⟨e, n, ne, nf, d⟩ := I.pin p hp
      exact ⟨(hs.2 p.1 ne).trans e, n, ne, nf, d⟩
  · have hfn : X.fn x = true := by
      rcases hf with z | z
      · exact z
      · rw [z] at hk; cases hk
    obtain ⟨c, hc⟩ := I.ok.has x (.inl hk)
    obtain ⟨w', z⟩ := I.cell x c hc
    refine wpAny_storeName_cell I.ok.kind hk hc z (fun h' hc' hs => ?_)
    obtain ⟨oc, hoc, hocd⟩ := id z
    refine h { s with heap := h' } ⟨I.ok, I.os, I.bare, ⟨fun b o e n hb hx => ?_, fun b o e n hb hx => ?_, I.base.free, fun b o e hx => ?_, I.base.tups, I.base.frzs, I.base.tbls⟩, ⟨m, hn.sameBut hs (Ne.symm (cne x c hc)), fun j y v' e1 e2 e3 => ?_⟩, fun y c' e => ?_, I.free, I.freeC, fun p hp => ?_, tracked ⟨oc, hoc, I.freeC x c hc⟩ hs, by simpa using I.len⟩ ⟨c, hs, .inr hc⟩
    · exact (hs.2 b (Nat.ne_of_lt (Nat.lt_of_lt_of_le (Heap.lt_size e) (I.ok.cab x c hfn hc)))).trans (I.base.keep b o e n hb hx)
    · obtain ⟨sl, e1⟩ := I.base.slot b o e n hb hx
      exact ⟨sl, (hs.2 b (Nat.ne_of_lt (Nat.lt_of_lt_of_le (Heap.lt_size e) (I.ok.cab x c hfn hc)))).trans e1⟩
    · obtain ⟨o', e1⟩ := I.base.there b o e hx
      exact ⟨o', (hs.2 b (Nat.ne_of_lt (Nat.lt_of_lt_of_le (Heap.lt_size e) (I.ok.cab x c hfn hc)))).trans e1⟩
    · by_cases hj : j = i
      · subst hj
        rw [hi] at e1; cases e1
        rw [List.getElem?_set_self hiσ] at e2
        cases e2
        exact ⟨u, r, .inr ⟨.inl hk, c, hc, hc'⟩⟩
      · rw [List.getElem?_set_ne (Ne.symm hj)] at e2
        obtain ⟨u', r', q⟩ := hl j y v' e1 e2 e3
        refine ⟨u', r', ?_⟩
        rcases q with q | ⟨k, c', e, z'⟩
        · exact .inl q
        · refine .inr ⟨k, c', e, z'.sameBut hs ?_⟩
          rintro rfl
          exact hj (nodup_ix hN e1 (I.ok.inj _ _ _ e hc ▸ hi))
    · by_cases hcc : c' = c
      · subst hcc; exact ⟨_, hc'⟩
      · obtain ⟨w2, z2⟩ := I.cell y c' e
        exact ⟨w2, z2.sameBut hs hcc⟩
    · obtain ⟨e, n, ne, nf, d⟩ := I.pin p hp
      refine ⟨(hs.2 p.1 ?_).trans e, n, ne, nf, d⟩
      intro q
      rw [q, hoc] at e
      have q' : oc = p.2 := Option.some.inj e
      exact d w' (by rw [← q']; exact hocd)
theorem store_ok {M : Model} {A : Around} {E : Value → Shared → Prop} {i : Nat} {x : Str} {v : V} {u : Value} {Q : Unit → Shared → Prop} (I : Inv X pins σ H s) (hN : X.N.Nodup) (hi : X.N[i]? = some x) (hx : Loc X.env.scope x) (r : RelV v u)
    (h : ∀ s', Inv X pins (σ.set i (some v)) H s' → Q () s') (hf : X.fn x = true ∨ X.env.scope.names.lookup x = some .local := by first | exact .inl rfl | exact .inr rfl | assumption) : wpAny M A (storeName X.env x u) Q E s :=
  store_ok2 I hN hi hx r (fun s' I' _ => h s' I') hf
/-- behind a call or a block, the state as it is -/
theorem Inv.call' {s' : Shared} {ch : List Addr} (I : Inv X pins σ H s) (ho : s'.os = s.os) (u : Un (frs X.stack) ch H H' s.heap s'.heap) (hok : HOk X.prog X.w H' s'.heap) (hg : AllBare s'.gens)
    (hch : ∀ b ∈ ch, (b ∈ X.ex ∨ X.s₀.heap.objs.size ≤ b) ∧ b ≠ X.env.locals ∧ (∀ x c, X.env.cells.lookup x = some c → c ≠ b) ∧ ∀ p ∈ X.pn ++ pins, p.1 ≠ b) : Inv X pins σ H' s' := by
  obtain ⟨h', g', d', t', o'⟩ := s'
  have e : o' = s.os := ho
  subst e
  exact I.call (g' := g') (t' := t') (d' := d') u hok hg hch
end

/-! ### the judgements -/
/-- an exception: its class, its own dict's address (where it has one), the abstract heap behind it -/
abbrev XK := Value → Option Addr → Hp → Prop
abbrev St := List (Option V)
abbrev VK := V → Hp → Prop
/-- an expression's reading; a test's; an argument list's -/
abbrev TE := St → Hp → VK → Prop
abbrev TT := St → Hp → (Bool → Hp → Prop) → Prop
abbrev TA := St → Hp → (List V → Hp → Prop) → Prop
/-- what is wanted behind a statement -/
structure Ends where
  nx : St → Hp → Prop
  rt : VK
  bk : St → Hp → Prop := fun _ _ => False
  ct : St → Hp → Prop := fun _ _ => False
abbrev TS := Ends → St → Hp → Prop

def EP (X : Cx) (pins : List (Addr × Obj)) (σ : St) (Q : VK) (u : Value) (s' : Shared) : Prop := ∃ v H', Inv X pins σ H' s' ∧ RelV v u ∧ Q v H'
def TP (X : Cx) (pins : List (Addr × Obj)) (σ : St) (Q : Bool → Hp → Prop) (b : Bool) (s' : Shared) : Prop := ∃ H', Inv X pins σ H' s' ∧ Q b H'
def AP (X : Cx) (pins : List (Addr × Obj)) (σ : St) (Q : List V → Hp → Prop) (us : List Value) (s' : Shared) : Prop := ∃ vs H', Inv X pins σ H' s' ∧ Vals vs us ∧ Q vs H'
def SP (X : Cx) (pins : List (Addr × Obj)) (D : Ends) (f : Flow) (s' : Shared) : Prop :=
  match f with
  | .next => ∃ σ' H', Inv X pins σ' H' s' ∧ D.nx σ' H'
  | .brk => ∃ σ' H', Inv X pins σ' H' s' ∧ D.bk σ' H'
  | .cont => ∃ σ' H', Inv X pins σ' H' s' ∧ D.ct σ' H'
  | .ret u => ∃ v σ' H', Inv X pins σ' H' s' ∧ RelV v u ∧ D.rt v H'

def PE (X : Cx) (e : Expr) (t : TE) : Prop :=
  ∀ (pins : List (Addr × Obj)) (s : Shared) (σ : St) (H : Hp) (Q : VK), Inv X pins σ H s → t σ H Q → wpAny (model X.prog X.w) X.A (eval e X.env) (EP X pins σ Q) X.xe s
def PT (X : Cx) (e : Expr) (t : TT) : Prop :=
  ∀ (pins : List (Addr × Obj)) (s : Shared) (σ : St) (H : Hp) (Q : Bool → Hp → Prop), Inv X pins σ H s → t σ H Q → wpAny (model X.prog X.w) X.A (isTrue e X.env (eval e X.env)) (TP X pins σ Q) X.xe s
/-- a test whatever its 'whole' is (and, or) -/
def PW (X : Cx) (e : Expr) (t : TT) : Prop :=
  ∀ (whole : Sem Value) (pins : List (Addr × Obj)) (s : Shared) (σ : St) (H : Hp) (Q : Bool → Hp → Prop), Inv X pins σ H s → t σ H Q → wpAny (model X.prog X.w) X.A (isTrue e X.env whole) (TP X pins σ Q) X.xe s
theorem PW.pt {X : Cx} {e : Expr} {t : TT} (h : PW X e t) : PT X e t := h _
/-- an argument list (no star), from the left -/
def PA (X : Cx) (es : List Expr) (t : TA) : Prop :=
  ∀ (pos : Pos) (pins : List (Addr × Obj)) (s : Shared) (σ : St) (H : Hp) (Q : List V → Hp → Prop), Inv X pins σ H s → t σ H Q → wpAny (model X.prog X.w) X.A (spliced (backTo pos (starEach es X.env))) (AP X pins σ Q) X.xe s
def PS (X : Cx) (st : Stmt) (t : TS) : Prop :=
  ∀ (pins : List (Addr × Obj)) (s : Shared) (σ : St) (H : Hp) (D : Ends), Inv X pins σ H s → t D σ H → wpAny (model X.prog X.w) X.A (exec st X.env) (SP X pins D) X.xe s
def PSs (X : Cx) (st : List Stmt) (t : TS) : Prop :=
  ∀ (pins : List (Addr × Obj)) (s : Shared) (σ : St) (H : Hp) (D : Ends), Inv X pins σ H s → t D σ H → wpAny (model X.prog X.w) X.A (execs st X.env) (SP X pins D) X.xe s
/-- weaken the end -/
theorem thn {α : Type} {t : Sem α} {Q Q' : α → Shared → Prop} {M : Model} {A : Around} {E : Value → Shared → Prop} {s : Shared} (h : wpAny M A t Q E s) (hQ : ∀ a s, Q a s → Q' a s) : wpAny M A t Q' E s := wpAny_mono h hQ fun _ _ x => x
end L2

namespace L2
open PySem PySem.Spec PyProof.Rows
section
variable {X : Cx}

/-! ### names and constants -/
def tVar (i : Nat) : TE := fun σ H Q => ∃ v, σ[i]? = some (some v) ∧ Q v H
def tC (v : V) : TE := fun _ H Q => Q v H
theorem pe_var {i : Nat} {x : Str} {pos : Pos} (hN : X.N[i]? = some x) (hv : Vis X.env.scope x) (hd : (x == ("__debug__" : Str)) = false := by decide) (hcd : (x == ("__classdict__" : Str)) = false := by decide) : PE X (.Name x pos) (tVar i) := by
  intro pins s σ H Q I h
  obtain ⟨v, e, h⟩ := h
  obtain ⟨m, hn, hl⟩ := I.loc
  obtain ⟨u, r, l⟩ := hl i x v hN e hv
  have fin : EP X pins σ Q u s := ⟨v, H, I, r, h⟩
  rcases l with ⟨hk, hm⟩ | ⟨hk, c, hc, hcell⟩
  · exact wpAny_Name (wpAny_loadName_local I.ok.kind hk hn hm fin) hd
  · rcases hk with hk | hk
    · exact wpAny_Name (wpAny_loadName_cell I.ok.kind hk hc hcell fin) hd
    · exact wpAny_Name (wpAny_loadName_free I.ok.kind hk hc hcell fin hcd) hd
theorem pe_int {i j pos} : PE X (.Constant (.int i) j pos) (tC (.int i)) := fun _ _ _ H _ I h => wpAny_Constant_int ⟨.int i, H, I.tok _, ⟨_, rfl⟩, h⟩
theorem pe_bl {b j pos} : PE X (.Constant (.bool b) j pos) (tC (.bl b)) := fun _ _ _ H _ I h => Constant_bool ⟨.bl b, H, I, rfl, h⟩
theorem pe_str {x j pos} : PE X (.Constant (.str x) j pos) (tC (.str x)) := fun _ _ _ H _ I h => Calls.Constant_str ⟨.str x, H, I.tok _, ⟨_, rfl⟩, h⟩

/-- a global name of the def -/
def Gl (X : Cx) (x : Str) : Prop := X.env.kindOf x = some .globalImplicit
theorem ld_glob {E : Value → Shared → Prop} {pins : List (Addr × Obj)} {s : Shared} {σ : St} {H : Hp} {x : Str} {u : Value} {pos : Pos} {Q : Value → Shared → Prop} (I : Inv X pins σ H s) (hg : Gl X x) (hm : X.mg x = some u) (h : Q u s)
    (hd : (x == ("__debug__" : Str)) = false := by decide) : wpAny (model X.prog X.w) X.A (eval (.Name x pos) X.env) Q E s :=
  Calls.Name_function_global I.ok.kind hg (Calls.loadGlobal_global (by rw [I.ok.glob]; exact I.mod.glob.keeps I.bk) hm h) hd
theorem ld_blt {E : Value → Shared → Prop} {pins : List (Addr × Obj)} {s : Shared} {σ : St} {H : Hp} {x : Str} {u : Value} {pos : Pos} {Q : Value → Shared → Prop} (I : Inv X pins σ H s) (hg : Gl X x) (hm : X.mg x = none) (hv : bootBuiltins x = some u) (h : Q u s)
    (hn : x ≠ "__name__" := by decide) (hd : (x == ("__debug__" : Str)) = false := by decide) : wpAny (model X.prog X.w) X.A (eval (.Name x pos) X.env) Q E s := by
  obtain ⟨mb, h1, h2⟩ := I.mod.blt
  exact Calls.Name_function_global I.ok.kind hg (Calls.loadGlobal_builtin (by rw [I.ok.glob]; exact I.mod.glob.keeps I.bk) hm (by rw [I.ok.blt]; exact h1.keeps I.bk) ((h2 x hn).trans hv) h) hd
/-! ### arithmetic -/
variable {a b : Expr} {ta tb : TE} {pos : Pos}
/-! ### comparisons -/
def PC (X : Cx) (op : CmpOp) (a b : Expr) (t : TE) : Prop :=
  ∀ (pins : List (Addr × Obj)) (s : Shared) (σ : St) (H : Hp) (Q : VK), Inv X pins σ H s → t σ H Q →
    wpAny (model X.prog X.w) X.A (eval a X.env) (fun v s₁ => wpAny (model X.prog X.w) X.A (eval b X.env) (fun u s₂ => wpAny (model X.prog X.w) X.A (compareOp op v u) (EP X pins σ Q) X.xe s₂) X.xe s₁) X.xe s
theorem nobehind (b : Expr) {op : CmpOp} (h : op ≠ .In) (h2 : op ≠ .NotIn) : behindInMarks op b = false := by
  have e1 : (op == CmpOp.In) = false := by cases op <;> first | rfl | exact absurd rfl h
  have e2 : (op == CmpOp.NotIn) = false := by cases op <;> first | rfl | exact absurd rfl h2
  cases b <;> simp [behindInMarks, e1, e2]
/-- a comparison as a value, as a test -/
def tB (t : TE) : TT := fun σ H Q => t σ H fun x H1 => ∃ c, x = .bl c ∧ Q c H1
theorem pt_cmp {op : CmpOp} {t : TE} (h : PC X op a b t) (h1 : behindInMarks op b = false := by first | exact nobehind _ (by decide) (by decide) | rfl) : PT X (.Compare a [op] [b] pos) (tB t) := by
  intro pins s σ H Q I hw
  refine wpAny_isTrue_Compare1 (thn (h pins s σ H _ I hw) fun v s1 h1 => thn h1 fun u s2 h2 => thn h2 fun c s3 ⟨x, H1, I1, r1, q1⟩ => ?_) h1
  obtain ⟨d, rfl, q⟩ := q1
  cases r1
  exact wpAny_truthy_bool ⟨H1, I1, q⟩
/-- an expression whose value is a bool, as a test -/
theorem pt_val {e : Expr} {t : TE} (h : PE X e t) (he : ∀ whole, isTrue e X.env whole = (do let v ← whole; standAt e.pos; holding [v] (truthy v)) := by intro _; rfl) : PT X e (tB t) := by
  intro pins s σ H Q I hw
  refine isTrue_plain (thn (h pins s σ H _ I hw) fun v s1 ⟨x, H1, I1, r1, q1⟩ => ?_) (he _)
  obtain ⟨d, rfl, q⟩ := q1
  cases r1
  exact wpAny_truthy_bool ⟨H1, I1, q⟩

/-! ### and, or, not -/
variable {tA tB' : TT} {rest : List Expr}
def tAnd (t u : TT) : TT := fun σ H Q => t σ H fun c H1 => if c = true then u σ H1 Q else Q false H1
def tOr (t u : TT) : TT := fun σ H Q => t σ H fun c H1 => if c = true then Q true H1 else u σ H1 Q
def tNot (t : TT) : TT := fun σ H Q => t σ H fun c H1 => Q (!c) H1
theorem pw_and1 (ha : PT X a tA) : PW X (.BoolOp .And [a] pos) tA := by
  intro wh pins s σ H Q I h
  refine isTrue_and (thn (ha pins s σ H Q I h) fun c s1 e => ?_)
  cases c with
  | true => exact isTrue_and_nil e
  | false => exact e
theorem pw_or1 (ha : PT X a tA) : PW X (.BoolOp .Or [a] pos) tA := by
  intro wh pins s σ H Q I h
  refine isTrue_or (thn (ha pins s σ H Q I h) fun c s1 e => ?_)
  cases c with
  | false => exact isTrue_or_nil e
  | true => exact e
theorem pw_and (ha : PT X a tA) (hb : PW X (.BoolOp .And (b :: rest) pos) tB') : PW X (.BoolOp .And (a :: b :: rest) pos) (tAnd tA tB') := by
  intro wh pins s σ H Q I h
  refine isTrue_and (thn (ha pins s σ H _ I h) fun c s1 ⟨H1, I1, q1⟩ => ?_)
  cases c with
  | true => exact hb wh pins s1 σ H1 Q I1 q1
  | false => exact ⟨H1, I1, q1⟩
theorem pw_or (ha : PT X a tA) (hb : PW X (.BoolOp .Or (b :: rest) pos) tB') : PW X (.BoolOp .Or (a :: b :: rest) pos) (tOr tA tB') := by
  intro wh pins s σ H Q I h
  refine isTrue_or (thn (ha pins s σ H _ I h) fun c s1 ⟨H1, I1, q1⟩ => ?_)
  cases c with
  | true => exact ⟨H1, I1, q1⟩
  | false => exact hb wh pins s1 σ H1 Q I1 q1
theorem pt_not (ha : PT X a tA) : PT X (.UnaryOp .Not a pos) (tNot tA) := by
  intro pins s σ H Q I h
  exact isTrue_not (ha pins s σ H (fun c H1 => Q (!c) H1) I h)
/-- .. as values (bools) -/
def tAndV (ta tb : TE) : TE := fun σ H Q => ta σ H fun x H1 => ∃ c, x = .bl c ∧ if c = true then tb σ H1 Q else Q (.bl false) H1
theorem pe_one {op} {t : TE} (h : PE X a t) : PE X (.BoolOp op [a] pos) t := fun pins s σ H Q I hw => BoolOp_one (h pins s σ H Q I hw)
theorem pe_and (ha : PE X a ta) (hb : PE X (.BoolOp .And (b :: rest) pos) tb) : PE X (.BoolOp .And (a :: b :: rest) pos) (tAndV ta tb) := by
  intro pins s σ H Q I h
  refine BoolOp_and (thn (ha pins s σ H _ I h) fun v s1 ⟨x, H1, I1, r1, q1⟩ => ?_)
  obtain ⟨c, rfl, q1⟩ := q1
  cases r1
  refine wpAny_truthy_bool ?_
  cases c with
  | true => exact hb pins s1 σ H1 Q I1 q1
  | false => exact ⟨.bl false, H1, I1, rfl, q1⟩
end
end L2

namespace L2
open PySem PySem.Spec PyProof.Rows

/-! ### a list, a tuple that is read: tracked, frozen, or an object of the module -/
def SqL (K : PySem.W.Frag) (H : Hp) (a : Addr) (xs : List V) : Prop :=
  Rd H a (.lst xs) ∨
    ∃ (o : Obj) (its : Array Value) (n : Nat), K.lookup a = some o ∧ o.cls = .type "list" ∧ o.dict = none ∧ o.data = .seq its n ∧ its.size ≤ sizeLine ∧ Vals xs its.toList
def SqT (K : PySem.W.Frag) (H : Hp) (a : Addr) (xs : List V) : Prop :=
  Rd H a (.tup xs) ∨
    ∃ (o : Obj) (its : Array Value) (n : Nat), K.lookup a = some o ∧ o.cls = .type "tuple" ∧ o.data = .seq its n ∧ its.size ≤ sizeLine ∧ Vals xs its.toList
def absV : Value → Option V
  | .none => some .non
  | .bool b => some (.bl b)
  | .int i _ => some (.int i)
  | .str x _ => some (.str x)
  | .bytes b _ => some (.byt b)
  | .float b _ => some (.flt b)
  | .ref a => some (.ref a)
  | .type n => some (.ty n)
  | _ => none
theorem RelV.abs {x : V} {u : Value} (r : RelV x u) : absV u = some x := by
  cases x with
  | non => cases r; rfl
  | bl _ => cases r; rfl
  | int _ => obtain ⟨t, rfl⟩ := r; rfl
  | str _ => obtain ⟨t, rfl⟩ := r; rfl
  | byt _ => obtain ⟨t, rfl⟩ := r; rfl
  | flt _ => obtain ⟨t, rfl⟩ := r; rfl
  | ref _ => cases r; rfl
  | ty _ => cases r; rfl
theorem RelV.inj {x y : V} {u : Value} (r : RelV x u) (q : RelV y u) : x = y := Option.some.inj (r.abs.symm.trans q.abs)
theorem Vals.inj : ∀ {xs ys : List V} {us : List Value}, Vals xs us → Vals ys us → xs = ys
  | _, _, _, .nil, .nil => rfl
  | _, _, _, .cons r t, .cons r' t' => by rw [r.inj r', Vals.inj t t']
section
variable {X : Cx} {pins : List (Addr × Obj)} {σ : St} {H : Hp} {s : Shared} {a : Addr} {xs ys : List V}
theorem SqL.of {K : PySem.W.Frag} (h : H a = some (.lst xs)) : SqL K H a xs := .inl (.inl h)
theorem SqT.of {K : PySem.W.Frag} (h : H a = some (.tup xs)) : SqT K H a xs := .inl (.inl h)
theorem Inv.list (I : Inv X pins σ H s) (h : SqL X.K H a xs) : ∃ its : List Value, Vals xs its ∧ PlainL s.heap a its.toArray ∧ xs.length ≤ sizeLine := by
  rcases h with h | ⟨o, its, n, hk, hc, hd, hs, hz, r⟩
  · obtain ⟨z, its, n, r, e⟩ := h.ok I.hok
    exact ⟨its, r, ⟨_, n, e, rfl, rfl, rfl⟩, z⟩
  · refine ⟨its.toList, r, ⟨o, n, I.kIn a o hk, hc, hd, by simpa using hs⟩, ?_⟩
    have e := r.length
    simp only [Array.length_toList] at e
    omega
theorem Inv.tuple (I : Inv X pins σ H s) (h : SqT X.K H a xs) : ∃ its : List Value, Vals xs its ∧ IsTup s.heap a its.toArray ∧ xs.length ≤ sizeLine := by
  rcases h with h | ⟨o, its, n, hk, hc, hs, hz, r⟩
  · obtain ⟨z, its, r, p⟩ := h.ok I.hok
    exact ⟨its, r, p, z⟩
  · refine ⟨its.toList, r, ⟨o, I.kIn a o hk, hc, n, by simpa using hs⟩, ?_⟩
    have e := r.length
    simp only [Array.length_toList] at e
    omega
theorem Inv.list_inj (I : Inv X pins σ H s) (h : SqL X.K H a xs) (h' : SqL X.K H a ys) : xs = ys := by
  obtain ⟨its, r, ⟨o, n, e, _, _, d⟩, _⟩ := I.list h
  obtain ⟨its', r', ⟨o', n', e', _, _, d'⟩, _⟩ := I.list h'
  rw [e] at e'; cases e'
  rw [d] at d'
  injection d' with d1 _
  have : its = its' := by simpa using congrArg Array.toList d1
  subst this
  exact r.inj r'
end

/-! ### another wish about exceptions -/
abbrev Cx.wish (X : Cx) (E : Value → Shared → Prop) : Cx := { X with xe := E }
/-- no exception leaves -/
abbrev Cx.nox (X : Cx) : Cx := X.wish fun _ _ => False
theorem Cx.Ok.wish {X : Cx} (ok : X.Ok) (E : Value → Shared → Prop) : (X.wish E).Ok :=
  ⟨ok.mod, ok.kind, ok.glob, ok.blt, ok.above, ok.inj, ok.has, ok.cab, ok.hd, ok.frames, ok.stk, ok.exf, ok.bs, ok.bsz, ok.noex, ok.exfs, ok.funs, ok.frf⟩
theorem Cx.Ok.unwish {X : Cx} {E : Value → Shared → Prop} (ok : (X.wish E).Ok) : X.Ok :=
  ⟨ok.mod, ok.kind, ok.glob, ok.blt, ok.above, ok.inj, ok.has, ok.cab, ok.hd, ok.frames, ok.stk, ok.exf, ok.bs, ok.bsz, ok.noex, ok.exfs, ok.funs, ok.frf⟩
section
variable {X : Cx} {pins : List (Addr × Obj)} {σ : St} {H : Hp} {s : Shared} {E : Value → Shared → Prop}
theorem Inv.wish (I : Inv X pins σ H s) (E : Value → Shared → Prop) : Inv (X.wish E) pins σ H s := ⟨I.ok.wish E, I.os, I.bare, I.base, I.loc, I.cell, I.free, I.freeC, I.pin, I.hok, I.len⟩
theorem Inv.unwish (I : Inv (X.wish E) pins σ H s) : Inv X pins σ H s := ⟨I.ok.unwish, I.os, I.bare, I.base, I.loc, I.cell, I.free, I.freeC, I.pin, I.hok, I.len⟩
theorem SP.unwish {D : Ends} {f : Flow} {s' : Shared} (h : SP (X.wish E) pins D f s') : SP X pins D f s' := by
  cases f with
  | next => obtain ⟨σ', H', I, q⟩ := h; exact ⟨σ', H', I.unwish, q⟩
  | brk => obtain ⟨σ', H', I, q⟩ := h; exact ⟨σ', H', I.unwish, q⟩
  | cont => obtain ⟨σ', H', I, q⟩ := h; exact ⟨σ', H', I.unwish, q⟩
  | ret u => obtain ⟨v, σ', H', I, r, q⟩ := h; exact ⟨v, σ', H', I.unwish, r, q⟩
theorem PE.nox {e : Expr} {t : TE} (h : PE X.nox e t) : PE X e t := fun pins s σ H Q I hw =>
  wpAny_mono (h pins s σ H Q (I.wish _) hw) (fun _ _ ⟨v, H', I', r, q⟩ => ⟨v, H', I'.unwish, r, q⟩) fun _ _ z => False.elim z
theorem PT.nox {e : Expr} {t : TT} (h : PT X.nox e t) : PT X e t := fun pins s σ H Q I hw =>
  wpAny_mono (h pins s σ H Q (I.wish _) hw) (fun _ _ ⟨H', I', q⟩ => ⟨H', I'.unwish, q⟩) fun _ _ z => False.elim z
theorem PSs.nox {st : List Stmt} {t : TS} (h : PSs X.nox st t) : PSs X st t := fun pins s σ H D I hw =>
  wpAny_mono (h pins s σ H D (I.wish _) hw) (fun _ _ q => q.unwish) fun _ _ z => False.elim z
end

/-! ### blocks and small statements -/
section
variable {X : Cx} {st : Stmt} {rest : List Stmt} {t u : TS} {e : Expr} {te : TE} {pos : Pos}
def tNext : TS := fun D σ H => D.nx σ H
def tSeq (t u : TS) : TS := fun D σ H => t { D with nx := u D } σ H
theorem pss_nil : PSs X [] tNext := fun _ _ σ H _ I h => wpAny_execs_nil ⟨σ, H, I, h⟩
theorem pss_cons (h1 : PS X st t) (h2 : PSs X rest u) : PSs X (st :: rest) (tSeq t u) := by
  intro pins s σ H D I h
  refine wpAny_execs_cons (thn (h1 pins s σ H { D with nx := u D } I h) fun f s1 q => ?_)
  cases f with
  | next =>
    obtain ⟨σ', H', I', q⟩ := q
    exact h2 pins s1 σ' H' D I' q
  | ret v => exact q
  | brk => exact q
  | cont => exact q
theorem pss_one (h1 : PS X st t) : PSs X [st] t := by
  intro pins s σ H D I h
  refine wpAny_execs_cons (thn (h1 pins s σ H D I h) fun f s1 q => ?_)
  cases f with
  | next => exact wpAny_execs_nil q
  | ret v => exact q
  | brk => exact q
  | cont => exact q
/-- in a def's body nothing is shown -/
theorem Inv.quiet {pins : List (Addr × Obj)} {σ : St} {H : Hp} {s : Shared} (I : Inv X pins σ H s) : interactive X.env = false := by simp [interactive, I.ok.kind]
/-- an expression whose value is dropped -/
def tDrop (te : TE) : TS := fun D σ H => te σ H fun _ H1 => D.nx σ H1
theorem ps_expr (he : PE X e te) (hs : swapsWith e none pos.line X.env = pure false := by rfl) : PS X (.Expr e pos) (tDrop te) := by
  intro pins s σ H D I h
  exact wpAny_Expr_any (thn (he pins s σ H _ I h) fun v s1 ⟨x, H1, I1, r1, q1⟩ => ⟨σ, H1, I1, q1⟩) I.quiet hs
def tRet (te : TE) : TS := fun D σ H => te σ H D.rt
theorem ps_ret (he : PE X e te) : PS X (.Return (some e) pos) (tRet te) := by
  intro pins s σ H D I h
  exact wpAny_Return_some (thn (he pins s σ H _ I h) fun v s1 ⟨x, H1, I1, r1, q1⟩ => ⟨x, σ, H1, I1, r1, q1⟩)
def tIfS (c : TT) (t u : TS) : TS := fun D σ H => c σ H fun b H1 => if b = true then t D σ H1 else u D σ H1
theorem ps_if {c : Expr} {a b : List Stmt} {tc : TT} (hc : PT X c tc) (ha : PSs X a t) (hb : PSs X b u) : PS X (.If c a b pos) (tIfS tc t u) := by
  intro pins s σ H D I h
  refine wpAny_If (thn (hc pins s σ H _ I h) fun d s1 ⟨H1, I1, q1⟩ => ?_)
  cases d with
  | true => exact ha pins s1 σ H1 D I1 q1
  | false => exact hb pins s1 σ H1 D I1 q1
end

/-! ### targets -/
abbrev TG := V → St → Hp → (St → Hp → Prop) → Prop
abbrev TGs := List V → St → Hp → (St → Hp → Prop) → Prop
def PG (X : Cx) (target : Expr) (t : TG) : Prop :=
  ∀ (pins : List (Addr × Obj)) (s : Shared) (σ : St) (H : Hp) (v : V) (u : Value) (Q : St → Hp → Prop), Inv X pins σ H s → RelV v u → t v σ H Q →
    wpAny (model X.prog X.w) X.A (assign target X.env u) (fun _ s' => ∃ σ' H', Inv X pins σ' H' s' ∧ Q σ' H') X.xe s
/-- several targets, one after another -/
def PGs (X : Cx) (ts : List Expr) (t : TGs) : Prop :=
  ∀ (pins : List (Addr × Obj)) (s : Shared) (σ : St) (H : Hp) (vs : List V) (us : List Value) (Q : St → Hp → Prop), Inv X pins σ H s → Vals vs us → t vs σ H Q →
    wpAny (model X.prog X.w) X.A (assignInOrder ((assignEach ts X.env).map (·.2)) us) (fun _ s' => ∃ σ' H', Inv X pins σ' H' s' ∧ Q σ' H') X.xe s
/-- o[i] = v, by values -/
abbrev TSet := V → V → V → Hp → (Hp → Prop) → Prop
def PSet (X : Cx) (t : TSet) : Prop :=
  ∀ (pins : List (Addr × Obj)) (s : Shared) (σ : St) (H : Hp) (o i v : V) (ov iv u : Value) (Q : Hp → Prop), Inv X pins σ H s → RelV o ov → RelV i iv → RelV v u → t o i v H Q →
    wpAny (model X.prog X.w) X.A (setItem ov iv u) (fun _ s' => ∃ H', Inv X pins σ H' s' ∧ Q H') X.xe s
/-- a op= b, by values -/
abbrev TIp := V → V → Hp → VK → Prop
def PIp (X : Cx) (op : Operator) (t : TIp) : Prop :=
  ∀ (pins : List (Addr × Obj)) (s : Shared) (σ : St) (H : Hp) (x y : V) (v u : Value) (Q : VK), Inv X pins σ H s → RelV x v → RelV y u → t x y H Q →
    wpAny (model X.prog X.w) X.A (inplaceOp op v u) (EP X pins σ Q) X.xe s
section
variable {X : Cx} {pos : Pos}
def gName (i : Nat) : TG := fun v σ H Q => Q (σ.set i (some v)) H
theorem pg_name {i : Nat} {x : Str} (hN : X.N.Nodup) (hi : X.N[i]? = some x) (hx : Loc X.env.scope x) (hf : X.fn x = true ∨ X.env.scope.names.lookup x = some .local := by first | exact .inl rfl | exact .inr rfl | assumption) : PG X (.Name x pos) (gName i) := by
  intro pins s σ H v u Q I r h
  exact wpAny_assign_Name (store_ok I hN hi hx r (fun s' I' => ⟨_, H, I', h⟩) hf)
def gNil : TGs := fun vs σ H Q => vs = [] ∧ Q σ H
def gCons (t : TG) (u : TGs) : TGs := fun vs σ H Q => ∃ v r, vs = v :: r ∧ t v σ H fun σ' H' => u r σ' H' Q
theorem pgs_nil : PGs X [] gNil := by
  intro pins s σ H vs us Q I r h
  obtain ⟨e, h⟩ := h
  subst e
  cases r
  exact assignInOrder_nil ⟨σ, H, I, h⟩
theorem pgs_cons {e : Expr} {es : List Expr} {t : TG} {u : TGs} (h1 : PG X e t) (h2 : PGs X es u)
    (hs : (assignEach (e :: es) X.env).map (·.2) = assign e X.env :: (assignEach es X.env).map (·.2) := by rfl) : PGs X (e :: es) (gCons t u) := by
  intro pins s σ H vs us Q I r h
  obtain ⟨v, vr, e1, h⟩ := h
  subst e1
  cases r with
  | cons r rr =>
    rw [hs]
    refine assignInOrder_cons (thn (h1 pins s σ H _ _ _ I r h) fun _ s1 ⟨σ1, H1, I1, q1⟩ => ?_)
    exact h2 pins s1 σ1 H1 _ _ Q I1 rr q1
/-- (a, b, ..) = a tuple of that length -/
def gTup (K : PySem.W.Frag) (n : Nat) (t : TGs) : TG := fun v σ H Q => ∃ a xs, v = .ref a ∧ SqT K H a xs ∧ xs.length = n ∧ t xs σ H Q
theorem pg_tup {es : List Expr} {k : Nat} {t : TGs} {n : Nat} (hc : X.calm = true) (h : PGs X es t)
    (hn : (assignEach es X.env).length = n := by rfl) (hst : (assignEach es X.env).findIdx? (·.1) = none := by rfl) : PG X (.Tuple es k pos) (gTup X.K n t) := by
  intro pins s σ H v u Q I r hw
  obtain ⟨a, xs, e1, hq, hl, hw⟩ := hw
  subst e1
  cases r
  obtain ⟨its, rv, ht, hz⟩ := I.tuple hq
  refine assign_Tuple_tuple (I.ok.hd hc) ht (by simp [hn, ← hl, rv.length]) hst fun h' hx => ?_
  have I1 : Inv X pins σ H { s with heap := h' } := I.kept (t' := s.toks) fun b o e => hx b o (Nat.ne_of_lt (Heap.lt_size e)) e
  exact h pins _ σ H xs _ Q I1 (by simpa using rv) hw
/-- o[i] = .. -/
def gSub (to ti : TE) (t : TSet) : TG := fun v σ H Q => to σ H fun o H1 => ti σ H1 fun i H2 => t o i v H2 fun H3 => Q σ H3
theorem pg_sub {o i : Expr} {to ti : TE} {t : TSet} (ho : PE X o to) (hi : PE X i ti) (hs : PSet X t)
    (ha : ∀ v, assign (.Subscript o i pos) X.env v = (do
      let ov ← holding [v] (eval o X.env)
      let iv ← holding [v, ov] (eval i X.env)
      standAt pos
      holding [v, ov, iv] (setItem ov iv v)
      release [v, ov, iv] []) := by intro _; rfl) : PG X (.Subscript o i pos) (gSub to ti t) := by
  intro pins s σ H v u Q I r h
  rw [ha]
  refine wpAny_bind (wpAny_holding (thn (ho pins s σ H _ I h) fun ov s1 ⟨x, H1, I1, r1, q1⟩ => ?_))
  refine wpAny_bind (wpAny_holding (thn (hi pins s1 σ H1 _ I1 q1) fun iv s2 ⟨y, H2, I2, r2, q2⟩ => ?_))
  refine wpAny_bind (wpAny_standAt (wpAny_bind (wpAny_holding (thn (hs pins s2 σ H2 x y v ov iv u _ I2 r1 r2 r q2) fun _ s3 ⟨H3, I3, q3⟩ => ?_))))
  exact wpAny_release ⟨σ, H3, I3, q3⟩
/-- target = value -/
def tAsg (te : TE) (g : TG) : TS := fun D σ H => te σ H fun x H1 => g x σ H1 D.nx
theorem ps_asg {tg e : Expr} {te : TE} {g : TG} (he : PE X e te) (hg : PG X tg g) (hs : swapsWithSole [tg] e pos.line X.env = pure false := by rfl) (hw : swappedStores [tg] e X.env = pure none := by rfl)
    (h1 : (assignEach [tg] X.env).map (·.2) = [assign tg X.env] := by rfl) : PS X (.Assign [tg] e pos) (tAsg te g) := by
  intro pins s σ H D I h
  refine wpAny_Assign_stores (thn (he pins s σ H _ I h) fun v s1 ⟨x, H1, I1, r1, q1⟩ => ?_) hs hw
  rw [h1]
  exact thn (hg pins s1 σ H1 x v _ I1 r1 q1) fun _ s2 q => q
/-- name = value -/
theorem ps_set {i : Nat} {x : Str} {e : Expr} {te : TE} {pos' : Pos} (hN : X.N.Nodup) (hi : X.N[i]? = some x) (hx : Loc X.env.scope x) (he : PE X e te) (hs : swapsWith e (some (.Name x pos')) pos.line X.env = pure false := by rfl) (hf : X.fn x = true ∨ X.env.scope.names.lookup x = some .local := by first | exact .inl rfl | exact .inr rfl | assumption) :
    PS X (.Assign [.Name x pos'] e pos) (tAsg te (gName i)) := by
  intro pins s σ H D I h
  refine wpAny_Assign_Name (thn (he pins s σ H _ I h) fun v s1 ⟨y, H1, I1, r1, q1⟩ => ?_) hs
  exact store_ok I1 hN hi hx r1 (fun s2 I2 => ⟨_, H1, I2, q1⟩) hf
/-- a, b = x, y with plain local names: stored from the right; the pair itself is not tracked (the opening rows as in PyProof/Rows/TupAssign.lean:23) -/
def tPar (i j : Nat) (ta : TA) : TS := fun D σ H => ta σ H fun vs H1 => ∃ v w, vs = [v, w] ∧ D.nx ((σ.set i (some v)).set j (some w)) H1
theorem ps_par {i j : Nat} {x y : Str} {a b : Expr} {ta : TA} {px py pt : Pos} {kt k2 pt2} (hc : X.calm = true) (hN : X.N.Nodup) (hi : X.N[i]? = some x) (hj : X.N[j]? = some y) (hij : i ≠ j)
    (hx : X.env.scope.names.lookup x = some .local) (hy : X.env.scope.names.lookup y = some .local) (ha : PA X [a, b] ta)
    (hw : swappedStores [.Tuple [.Name x px, .Name y py] kt pt] (.Tuple [a, b] k2 pt2) X.env = pure (some [x, y]))
    (hs : swapsWithSole [.Tuple [.Name x px, .Name y py] kt pt] (.Tuple [a, b] k2 pt2) pos.line X.env = pure false := by rfl) :
    PS X (.Assign [.Tuple [.Name x px, .Name y py] kt pt] (.Tuple [a, b] k2 pt2) pos) (tPar i j ta) := by
  intro pins s σ H D I h
  rw [exec_Assign_arm]
  refine wpAny_bind (wpAny_standAt ?_)
  rw [hs]
  refine wpAny_bind (wpAny_pure ?_)
  rw [if_neg (by decide)]
  refine wpAny_bind (Tuple_ (thn (ha _ pins s σ H _ I h) fun us s1 ⟨vs, H1, I1, r1, q1⟩ => ?_))
  obtain ⟨v, w, e1, q1⟩ := q1
  subst e1
  obtain ⟨u1, u2, rfl, rv, rw'⟩ : ∃ u1 u2, us = [u1, u2] ∧ RelV v u1 ∧ RelV w u2 := by
    cases r1 with
    | cons p q =>
      cases q with
      | cons p' q' =>
        cases q'
        exact ⟨_, _, rfl, p, p'⟩
  refine wpAny_newObj_type ?_ (by show 2 ≤ sizeLine; decide)
  have I2 : Inv X pins σ H1 { s1 with heap := s1.heap.push { cls := .type "tuple", data := .seq [u1, u2].toArray } } := I1.kept (t' := s1.toks) fun b o e => Heap.get?_push_of_some _ e
  rw [hw]
  refine wpAny_bind (wpAny_pure ?_)
  show wpAny (model X.prog X.w) X.A (do rule "assign.swapped-stores"; let items ← unpackItems (.ref s1.heap.objs.size) 2 none; assignInOrder [fun v => bindName X.env y v, fun v => bindName X.env x v] items.reverse; pure Flow.next) _ _ _
  refine wpAny_bind (wpAny_rule (wpAny_bind (unpackItems_tuple (items := #[u1, u2]) (I.ok.hd hc) (IsTup.new s1.heap _) fun h' hx' => ?_)))
  have I3 := I2.kept (h' := h') (t' := s1.toks) fun b o e => hx' b o (Nat.ne_of_lt (Heap.lt_size e)) e
  show wpAny _ _ (assignInOrder [fun v => bindName X.env y v, fun v => bindName X.env x v] [u2, u1] >>= fun _ => pure Flow.next) _ _ _
  refine wpAny_bind (assignInOrder_cons (wpAny_bindName (store_ok I3 hN hj (.inl hy) rw' (fun s2 I4 => ?_) (.inr hy))))
  refine assignInOrder_cons (wpAny_bindName (store_ok I4 hN hi (.inl hx) rv (fun s3 I5 => assignInOrder_nil (wpAny_pure ?_)) (.inr hx)))
  rw [List.set_comm _ _ (Ne.symm hij)] at I5
  exact ⟨_, H1, I5, q1⟩
/-- name op= e -/
def tAug (i : Nat) (te : TE) (ti : TIp) : TS := fun D σ H => ∃ x, σ[i]? = some (some x) ∧ te σ H fun y H1 => ti x y H1 fun z H2 => D.nx (σ.set i (some z)) H2
theorem ps_aug {i : Nat} {x : Str} {e : Expr} {te : TE} {op : Operator} {ti : TIp} {pos' : Pos} (hN : X.N.Nodup) (hi : X.N[i]? = some x) (hx : Loc X.env.scope x) (he : PE X e te) (ho : PIp X op ti) (hf : X.fn x = true ∨ X.env.scope.names.lookup x = some .local := by first | exact .inl rfl | exact .inr rfl | assumption) :
    PS X (.AugAssign (.Name x pos') op e pos) (tAug i te ti) := by
  intro pins s σ H D I h
  obtain ⟨v, e1, h⟩ := h
  obtain ⟨m, hn, hl⟩ := I.loc
  have vis : Vis X.env.scope x := by rcases hx with k | k; exact .inl k; exact .inr (.inl k)
  obtain ⟨u, r, l⟩ := hl i x v hi e1 vis
  refine wpAny_AugAssign_Name ?_
  have go : wpAny (model X.prog X.w) X.A (eval e X.env) (fun w s₂ => wpAny (model X.prog X.w) X.A (inplaceOp op u w) (fun r s₃ => wpAny (model X.prog X.w) X.A (storeName X.env x r) (fun _ => SP X pins D .next) X.xe s₃) X.xe s₂) X.xe s := by
    refine thn (he pins s σ H _ I h) fun w s1 ⟨y, H1, I1, r1, q1⟩ => ?_
    refine thn (ho pins s1 σ H1 v y u w _ I1 r r1 q1) fun z s2 ⟨zv, H2, I2, r2, q2⟩ => ?_
    exact store_ok I2 hN hi hx r2 (fun s3 I3 => ⟨_, H2, I3, q2⟩) hf
  rcases l with ⟨hk, hm⟩ | ⟨hk, c, hc, hcell⟩
  · exact wpAny_loadName_local I.ok.kind hk hn hm go
  · rcases hk with hk | hk
    · exact wpAny_loadName_cell I.ok.kind hk hc hcell go
    · rcases hx with k | k
      · have : X.env.scope.names.lookup x = some .free := hk
        rw [k] at this; cases this
      · have : X.env.scope.names.lookup x = some .free := hk
        rw [k] at this; cases this
/-- ints -/
def ipI (f : Int → Int → Int) : TIp := fun x y H Q => ∃ i j, x = .int i ∧ y = .int j ∧ Q (.int (f i j)) H
theorem ip_add : PIp X .Add (ipI fun i j => i + j) := by
  intro pins s σ H x y v u Q I r1 r2 h
  obtain ⟨i, j, e1, e2, q⟩ := h
  subst e1; subst e2
  obtain ⟨t, rfl⟩ := r1
  obtain ⟨t', rfl⟩ := r2
  exact iadd_int ⟨.int _, H, I.tok _, ⟨_, rfl⟩, q⟩
theorem ip_sub : PIp X .Sub (ipI fun i j => i - j) := by
  intro pins s σ H x y v u Q I r1 r2 h
  obtain ⟨i, j, e1, e2, q⟩ := h
  subst e1; subst e2
  obtain ⟨t, rfl⟩ := r1
  obtain ⟨t', rfl⟩ := r2
  exact isub_int ⟨.int _, H, I.tok _, ⟨_, rfl⟩, q⟩
end

/-! ### while -/
section
variable {X : Cx} {pos : Pos}
end

/-! ### what a loop or a comprehension walks -/
/-- at turn i: it yields x (the heap may grow), or it stops -/
structure It where
  go : Nat → Hp → Prop
  yld : Nat → Hp → V → Hp → Prop
  stop : Nat → Hp → Prop
/-- the iterator's own objects may turn: they are not the frame's, not pinned, younger than the entry (or a comprehension's own) -/
def FpOk (X : Cx) (pins : List (Addr × Obj)) (H : Hp) (b : Addr) : Prop :=
  H b = none ∧ b ≠ X.env.locals ∧ b ∉ X.fs ∧ (b ∈ X.ex ∨ X.s₀.heap.objs.size ≤ b) ∧ (∀ x c, X.env.cells.lookup x = some c → c ≠ b) ∧ ∀ p ∈ X.pn ++ pins, p.1 ≠ b
theorem Inv.fpOk {X : Cx} {pins : List (Addr × Obj)} {σ : St} {H H' : Hp} {s : Shared} {b : Addr} (I : Inv X pins σ H s) (hb : s.heap.objs.size ≤ b) (hn : H' b = none) : FpOk X pins H' b := by
  refine ⟨hn, Nat.ne_of_gt (Nat.lt_of_lt_of_le I.lt hb), I.nofs hb, .inr (Nat.le_trans I.sz hb), fun x c e z => ?_, fun p hp z => ?_⟩
  · obtain ⟨v, q⟩ := I.cell x c e
    exact absurd (Nat.lt_of_lt_of_le q.lt (by rw [z]; exact hb)) (Nat.lt_irrefl _)
  · exact absurd (Nat.lt_of_lt_of_le (Heap.lt_size (I.pin p hp).1) (by rw [z]; exact hb)) (Nat.lt_irrefl _)
structure Turn (P : Program) (w : World) (K : PySem.W.Frag) (tg : Expr) (J : It) (fp : List Addr) (it : Addr) (tn : Nat → Heap → Prop) : Prop where
  mem : it ∈ fp
  obj : ∀ i h, tn i h → ∀ b ∈ fp, ∃ o, h.get? b = some o ∧ ∀ v, o.data ≠ .cell v
  keep : ∀ i h h', tn i h → (∀ b ∈ fp, ∀ o, h.get? b = some o → h'.get? b = some o) → tn i h'
  item : ∀ (X : Cx), X.prog = P → X.w = w → X.K = K → X.calm = true → ∀ (i : Nat) (pins : List (Addr × Obj)) (s : Shared) (σ : St) (H : Hp) (E : Value → Shared → Prop), Inv X pins σ H s → (∀ b ∈ fp, FpOk X pins H b) → tn i s.heap → J.go i H →
    wpAny (model P w) X.A (pyNext (.ref it)) (fun r s1 => ∃ u, r = some u ∧
      wpAny (model P w) X.A (letOwnedTupleGo tg (.ref it) u) (fun _ s2 => ∃ x H', Inv X pins σ H' s2 ∧ RelV x u ∧ J.yld i H x H' ∧ tn (i + 1) s2.heap ∧ ∀ b ∈ fp, H' b = none) E s1) E s
  done : ∀ (X : Cx), X.prog = P → X.w = w → X.K = K → X.calm = true → ∀ (i : Nat) (pins : List (Addr × Obj)) (s : Shared) (σ : St) (H : Hp) (E : Value → Shared → Prop), Inv X pins σ H s → (∀ b ∈ fp, FpOk X pins H b) → tn i s.heap → J.stop i H →
    wpAny (model P w) X.A (pyNext (.ref it)) (fun r s1 => r = none ∧ Inv X pins σ H s1) E s
  self : ∀ (A : Around) (i : Nat) (s : Shared) (Q : Value → Shared → Prop) (E : Value → Shared → Prop), tn i s.heap → Q (.ref it) s → wpAny (model P w) A (pyIter (.ref it)) Q E s
abbrev TI := St → Hp → (It → Hp → Prop) → Prop
/-- an iterator has come -/
def PIE (X : Cx) (pins : List (Addr × Obj)) (σ : St) (tg : Expr) (R : It → Hp → Prop) (itv : Value) (s2 : Shared) : Prop :=
  ∃ (it : Addr) (fp : List Addr) (tn : Nat → Heap → Prop) (J : It) (H' : Hp), itv = .ref it ∧ Inv X pins σ H' s2 ∧ Turn X.prog X.w X.K tg J fp it tn ∧ tn 0 s2.heap ∧ (∀ b ∈ fp, FpOk X pins H' b) ∧ R J H'
def PI (X : Cx) (tg iter : Expr) (wi : TI) : Prop :=
  ∀ (pins : List (Addr × Obj)) (s : Shared) (σ : St) (H : Hp) (R : It → Hp → Prop), Inv X pins σ H s → wi σ H R →
    wpAny (model X.prog X.w) X.A (eval iter X.env) (fun v s1 => wpAny (model X.prog X.w) X.A (pyIter v) (PIE X pins σ tg R) X.xe s1) X.xe s

/-- the step ahead of the store is nothing for an iterator that keeps no tuple -/
theorem go_of {M : Model} {A : Around} {E : Value → Shared → Prop} {s : Shared} {tg : Expr} {it : Addr} {u : Value} {o : Obj} {n : String} {vs : Array Value} {Q : Unit → Shared → Prop} (ho : s.heap.get? it = some o) (hc : o.cls = .type n) (hd : o.data = .fields vs)
    (hn : ["enumerate", "zip", "dict_itemiterator", "dict_reverseitemiterator", "odict_iterator", "itertools.zip_longest", "itertools.pairwise"].contains n = false) (hQ : Q () s) : wpAny M A (letOwnedTupleGo tg (.ref it) u) Q E s := by
  unfold letOwnedTupleGo
  cases tg <;> first
    | exact wpAny_pure hQ
    | (cases u <;> first
        | exact wpAny_pure hQ
        | (refine wpAny_bind (wpAny_load ho ?_)
           rw [hc, hd]
           show wpAny M A (if (["enumerate", "zip", "dict_itemiterator", "dict_reverseitemiterator", "odict_iterator", "itertools.zip_longest", "itertools.pairwise"].contains n && vs[0]? == some (rawInt _)) = true then _ else _) Q E s
           rw [if_neg (by intro h; rw [hn, Bool.false_and] at h; cases h)]
           exact wpAny_pure hQ))

/-- the list at a, as it stands at each turn (a loop may append to it) -/
def Itl (K : PySem.W.Frag) (a : Addr) : It :=
  ⟨fun i H => ∃ xs x, SqL K H a xs ∧ xs[i]? = some x, fun i H x H' => H' = H ∧ ∀ xs, SqL K H a xs → xs[i]? = some x, fun i H => ∃ xs, SqL K H a xs ∧ xs.length ≤ i⟩
/-- lo, lo + 1, .. (n of them) -/
def Itr (lo : Int) (n : Nat) : It := ⟨fun i _ => i < n, fun i H x H' => H' = H ∧ x = .int (lo + i), fun i _ => n ≤ i⟩
theorem turn_list {P : Program} {w : World} {K : PySem.W.Frag} {tg : Expr} (a it : Addr) : Turn P w K tg (Itl K a) [it] it (fun i h => h.IsListIter it a i) where
  mem := by simp
  obj := fun i h st b hb => by
    have e : b = it := by simpa using hb
    subst e
    obtain ⟨o, e, c, d⟩ := st
    exact ⟨o, e, fun v z => by rw [d] at z; cases z⟩
  keep := fun i h h' st k => st.at fun o e => k it (by simp) o e
  item := by
    intro X hP hw hK hc i pins s σ H E I hf st hg
    subst hP hw hK
    obtain ⟨xs, x, hq, hx⟩ := hg
    obtain ⟨its, rv, p, hz⟩ := I.list hq
    obtain ⟨u, hu, ru⟩ := rv.get hx
    obtain ⟨f0, f1, f2, f3, f4, f5⟩ := hf it (by simp)
    refine wpAny_pyNext_list_item st p.isList (x := u) (by simpa using hu) fun h' st' sb => ?_
    have I1 : Inv X pins σ H { s with heap := h' } := I.turned (t' := s.toks) (fun b o hb e => (sb.2 b hb).trans e) f0 f1 f3 f4 f5
    obtain ⟨o, e, c, d⟩ := id st'
    exact ⟨u, rfl, go_of (s := { s with heap := h' }) e c d (by decide) ⟨x, H, I1, ru, ⟨rfl, fun ys hy => by rw [I.list_inj hy hq]; exact hx⟩, st', fun b hb => (hf b hb).1⟩⟩
  done := by
    intro X hP hw hK hc i pins s σ H E I hf st hg
    subst hP hw hK
    obtain ⟨xs, hq, hx⟩ := hg
    obtain ⟨its, rv, p, hz⟩ := I.list hq
    obtain ⟨f0, f1, f2, f3, f4, f5⟩ := hf it (by simp)
    have hl := rv.length
    exact wpAny_pyNext_list_end (I.ok.hd hc) st p.isList (by simp; omega) fun h' eb => ⟨rfl, I.turned (t' := s.toks) (fun b o hb e => eb b o hb e) f0 f1 f3 f4 f5⟩
  self := fun _ _ _ _ _ st h => wpAny_pyIter_listiter st h
theorem turn_range {P : Program} {w : World} {K : PySem.W.Frag} {tg : Expr} (it : Addr) (lo : Int) (n : Nat) : Turn P w K tg (Itr lo n) [it] it (fun i h => IsRangeIter h it (lo + (i : Nat) * 1) ((n : Int) - (i : Nat)) 1) where
  mem := by simp
  obj := fun i h st b hb => by
    have e : b = it := by simpa using hb
    subst e
    exact ⟨_, st, fun v z => by
      have z' : Data.fields _ = Data.cell v := z
      cases z'⟩
  keep := fun i h h' st k => k it (by simp) _ st
  item := by
    intro X hP hw hK hc i pins s σ H E I hf st hg
    subst hP hw hK
    obtain ⟨f0, f1, f2, f3, f4, f5⟩ := hf it (by simp)
    have W := Walks.range (prog := X.prog) (w := X.w) (I.ok.hd hc) it lo 1 n
    refine W.item i s _ _ hg st fun v h' tk hv st' kk => ?_
    obtain ⟨t, rfl⟩ := hv
    have I1 : Inv X pins σ H { s with heap := h', toks := tk } := I.turned (fun b o hb e => kk b o (by simpa using hb) e) f0 f1 f3 f4 f5
    refine ⟨_, rfl, go_of (s := { s with heap := h', toks := tk }) (n := "range_iterator") st' rfl rfl (by decide) ⟨.int (lo + i), H, I1, ⟨t, ?_⟩, ⟨rfl, rfl⟩, st', fun b hb => (hf b hb).1⟩⟩
    rw [Int.mul_one]
  done := by
    intro X hP hw hK hc i pins s σ H E I hf st hg
    subst hP hw hK
    obtain ⟨f0, f1, f2, f3, f4, f5⟩ := hf it (by simp)
    exact wpAny_pyNext_range_end (I.ok.hd hc) st (by have : n ≤ i := hg; omega) fun h' eb => ⟨rfl, I.turned (t' := s.toks) (fun b o hb e => eb b o hb e) f0 f1 f3 f4 f5⟩
  self := fun _ _ _ _ _ st h => wpAny_pyIter_rangeiter st h
end L2

namespace L2
open PySem PySem.Spec PyProof.Rows
section
variable {X : Cx} {tg : Expr}
def iList (K : PySem.W.Frag) (tl : TE) : TI := fun σ H R => tl σ H fun x H1 => ∃ a, x = .ref a ∧ (∃ xs, SqL K H1 a xs) ∧ R (Itl K a) H1
theorem pi_list {l : Expr} {tl : TE} (hl : PE X l tl) : PI X tg l (iList X.K tl) := by
  intro pins s σ H R I h
  refine thn (hl pins s σ H _ I h) fun v s1 ⟨x, H1, I1, r1, q1⟩ => ?_
  obtain ⟨a, e, ⟨xs, hq⟩, q⟩ := q1
  subst e
  cases r1
  obtain ⟨its, rv, p, hz⟩ := I1.list hq
  refine wpAny_pyIter_list p.isList ?_
  refine ⟨s1.heap.objs.size, [s1.heap.objs.size], _, _, H1, rfl, I1.kept (t' := s1.toks) fun b o e => Heap.get?_push_of_some _ e, turn_list a _, ⟨_, Heap.get?_push_size _ rfl, rfl, rfl⟩, fun b hb => ?_, q⟩
  have e : b = s1.heap.objs.size := by simpa using hb
  subst e
  exact I1.fpOk (Nat.le_refl _) (I1.hok.fresh (Nat.le_refl _))
/-- a range object just made, walked -/
theorem range_it {pins : List (Addr × Obj)} {σ : St} {H : Hp} {s : Shared} {R : It → Hp → Prop} {E : Value → Shared → Prop} {lo hi : Int} {t u v : Tok} {tk : Nat} (I : Inv X pins σ H s) (h1 : -(2 ^ 62) ≤ lo) (h2 : lo < 2 ^ 62) (h3 : -(2 ^ 62) ≤ hi) (h4 : hi < 2 ^ 62)
    (q : R (Itr lo (hi - lo).toNat) H) : wpAny (model X.prog X.w) X.A (pyIter (.ref s.heap.objs.size)) (PIE X pins σ tg R) E { s with heap := s.heap.push { cls := .type "range", data := .fields #[.int lo t, .int hi u, .int 1 v] }, toks := tk } := by
  refine wpAny_pyIter_range (IsRange.new ..) (small_one h1 h2 h3 h4) ?_
  have I1 : Inv X pins σ H { s with heap := s.heap.push { cls := .type "range", data := .fields #[.int lo t, .int hi u, .int 1 v] }, toks := tk } := I.kept fun b o e => Heap.get?_push_of_some _ e
  refine ⟨(s.heap.push { cls := .type "range", data := .fields #[.int lo t, .int hi u, .int 1 v] }).objs.size, [(s.heap.push { cls := .type "range", data := .fields #[.int lo t, .int hi u, .int 1 v] }).objs.size], _, _, H, rfl,
    I1.kept (t' := tk) fun b o e => Heap.get?_push_of_some _ e, turn_range _ lo (hi - lo).toNat, ?_, fun b hb => ?_, q⟩
  · have e1 : lo + ((0 : Nat) : Int) * 1 = lo := by simp
    have e2 : (((hi - lo).toNat : Nat) : Int) - ((0 : Nat) : Int) = Builtin.Range.rangeSize lo hi 1 := by rw [rangeSize_one]; split <;> omega
    show IsRangeIter _ _ (lo + ((0 : Nat) : Int) * 1) ((((hi - lo).toNat : Nat) : Int) - ((0 : Nat) : Int)) 1
    rw [e1, e2]
    exact Heap.get?_push_size _ rfl
  · have e : b = (s.heap.push { cls := .type "range", data := .fields #[.int lo t, .int hi u, .int 1 v] }).objs.size := by simpa using hb
    subst e
    exact I1.fpOk (Nat.le_refl _) (I1.hok.fresh (Nat.le_refl _))
def iRng1 (ta : TA) : TI := fun σ H R => ta σ H fun vs H1 => ∃ j : Int, vs = [.int j] ∧ -(2 ^ 62) ≤ j ∧ j < 2 ^ 62 ∧ R (Itr 0 j.toNat) H1
def iRng2 (ta : TA) : TI := fun σ H R => ta σ H fun vs H1 => ∃ i j : Int, vs = [.int i, .int j] ∧ (-(2 ^ 62) ≤ i ∧ i < 2 ^ 62 ∧ -(2 ^ 62) ≤ j ∧ j < 2 ^ 62) ∧ R (Itr i (j - i).toNat) H1
theorem pi_range1 {a : Expr} {ta : TA} {p pos : Pos} (hg : Gl X "range") (hm : X.mg "range" = none) (ha : PA X [a] ta) (hs : starEach [a] X.env = [(false, eval a X.env)] := by rfl) : PI X tg (.Call (.Name "range" p) [a] [] pos) (iRng1 ta) := by
  intro pins s σ H R I h
  refine Call_ (ld_blt I hg hm boot_range (PyProof.Rows.callWith_type1 (thn (ha pos pins s σ H _ I h) fun us s1 ⟨vs, H1, I1, r1, q1⟩ => ?_) hs rfl))
  obtain ⟨j, e, q1, q2, q⟩ := q1
  subst e
  cases r1 with
  | cons r rr =>
    cases rr
    obtain ⟨t, rfl⟩ := r
    exact call_range_1 (range_it I1 (by omega) (by omega) q1 q2 (by simpa using q))
theorem pi_range2 {a b : Expr} {ta : TA} {p pos : Pos} (hg : Gl X "range") (hm : X.mg "range" = none) (ha : PA X [a, b] ta) (hs : starEach [a, b] X.env = [(false, eval a X.env), (false, eval b X.env)] := by rfl) (hs2 : starEach [b] X.env = [(false, eval b X.env)] := by rfl) :
    PI X tg (.Call (.Name "range" p) [a, b] [] pos) (iRng2 ta) := by
  intro pins s σ H R I h
  refine Call_ (ld_blt I hg hm boot_range (PyProof.Rows.callWith_type1 (thn (ha pos pins s σ H _ I h) fun us s1 ⟨vs, H1, I1, r1, q1⟩ => ?_) (by rw [hs, hs2]) (by rw [hs2]; rfl)))
  obtain ⟨i, j, e, ⟨q1, q2, q3, q4⟩, q⟩ := q1
  subst e
  cases r1 with
  | cons r rr =>
    cases rr with
    | cons r' rr =>
      cases rr
      obtain ⟨t, rfl⟩ := r
      obtain ⟨t', rfl⟩ := r'
      exact call_range_2 (range_it I1 q1 q2 q3 q4 q)

/-! ### for -/
/-- W: the invariant by the turn and a measure; N: what the body is to reach -/
def tFor (wi : TI) (g : TG) (tb : TS) : TS := fun D σ H => wi σ H fun J H1 => ∃ W : Nat → Nat → St → Hp → Prop, (∃ m, W 0 m σ H1) ∧ ∀ i m σ H, W i m σ H →
  (J.stop i H ∧ D.nx σ H) ∨ (J.go i H ∧ ∃ N : St → Hp → Prop, (∀ σ' H', N σ' H' → ∃ m', m' < m ∧ W (i + 1) m' σ' H') ∧ ∀ x H', J.yld i H x H' → g x σ H' fun σ2 H2 => tb { D with nx := N, ct := N, bk := D.nx } σ2 H2)
/-- the records at fp as they stand -/
def pinsAt (fp : List Addr) (h : Heap) : List (Addr × Obj) := fp.filterMap fun b => (h.get? b).map fun o => (b, o)
theorem mem_pinsAt {fp : List Addr} {h : Heap} {b : Addr} {o : Obj} (hb : b ∈ fp) (e : h.get? b = some o) : (b, o) ∈ pinsAt fp h := List.mem_filterMap.mpr ⟨b, hb, by rw [e]; rfl⟩
theorem of_pinsAt {fp : List Addr} {h : Heap} {p : Addr × Obj} (hp : p ∈ pinsAt fp h) : p.1 ∈ fp ∧ h.get? p.1 = some p.2 := by
  obtain ⟨b, hb, e⟩ := List.mem_filterMap.mp hp
  cases q : h.get? b with
  | none => rw [q] at e; cases e
  | some o =>
    rw [q] at e
    have e' : (b, o) = p := Option.some.inj e
    subst e'
    exact ⟨hb, q⟩
theorem Inv.pinned {pins : List (Addr × Obj)} {σ : St} {H : Hp} {s : Shared} {fp : List Addr} (I : Inv X pins σ H s) (hf : ∀ b ∈ fp, FpOk X pins H b) (ho : ∀ b ∈ fp, ∃ o, s.heap.get? b = some o ∧ ∀ v, o.data ≠ .cell v) : Inv X (pins ++ pinsAt fp s.heap) σ H s :=
  I.pins_of fun p hp => (List.mem_append.mp hp).elim (fun z => I.pin p (List.mem_append_right _ z)) fun z => by
    obtain ⟨hb, e⟩ := of_pinsAt z
    obtain ⟨f0, f1, f2, _⟩ := hf p.1 hb
    obtain ⟨o, e', d⟩ := ho p.1 hb
    rw [e] at e'; cases e'
    exact ⟨e, f0, f1, f2, d⟩
theorem Inv.unpinned {pins pl : List (Addr × Obj)} {σ : St} {H : Hp} {s : Shared} (I : Inv X (pins ++ pl) σ H s) : Inv X pins σ H s := I.pins_of fun p hp => I.pin p (List.mem_append_right _ (List.mem_append_left _ hp))
theorem ps_for {iter : Expr} {body : List Stmt} {wi : TI} {g : TG} {tb : TS} {pos : Pos} (hp : PassesOwn (model X.prog X.w) X.A X.env X.xe) (hc : X.calm = true) (hi : PI X tg iter wi) (hg : PG X tg g) (hb : PSs X body tb)
    (hs : ∀ x, foldedSetIterable iter X.env x = pure x := by intro _; rfl) : PS X (.For tg iter body [] pos) (tFor wi g tb) := by
  intro pins s σ H D I h
  refine wpAny_For (thn (hi pins s σ H _ I h) fun v s1 h1 => thn h1 fun itv s2 h2 => ?_) hs
  obtain ⟨it, fp, tn, J, H2, e, I2, T, st2, f2, W, ⟨m0, w0⟩, turn⟩ := h2
  subst e
  -- what stays true of the iterator's objects through the loop
  have stat : ∀ {H' : Hp}, (∀ b ∈ fp, H' b = none) → ∀ b ∈ fp, FpOk X pins H' b := fun hn b hb => ⟨hn b hb, (f2 b hb).2⟩
  refine codeAny_forLoop_any (fun n s' => ∃ i σ' H', Inv X pins σ' H' s' ∧ tn i s'.heap ∧ (∀ b ∈ fp, H' b = none) ∧ W i n σ' H') ?_ m0 ⟨0, σ, H2, I2, st2, fun b hb => (f2 b hb).1, w0⟩
  rintro n s3 ⟨i, σ3, H3, I3, st3, fr3, w3⟩
  rcases turn i n σ3 H3 w3 with ⟨stop, qn⟩ | ⟨go, N, hN, step⟩
  · refine wpAny_passesOwn hp (thn (T.done X rfl rfl rfl hc i pins s3 σ3 H3 X.xe I3 (stat fr3) st3 stop) fun r s4 ⟨hr, I4⟩ => ?_)
    subst hr
    exact wpAny_execs_nil ⟨σ3, H3, I4, qn⟩
  · refine wpAny_passesOwn hp (thn (T.item X rfl rfl rfl hc i pins s3 σ3 H3 X.xe I3 (stat fr3) st3 go) fun r s4 ⟨u, hr, h4⟩ => ?_)
    subst hr
    refine wpAny_passesOwn hp (thn h4 fun _ s5 ⟨x, H5, I5, r5, y5, st5, fr5⟩ => ?_)
    have I5' := I5.pinned (stat fr5) (T.obj _ _ st5)
    refine wpAny_passesOwn hp (thn (hg _ s5 σ3 H5 x u _ I5' r5 (step x H5 y5)) fun _ s6 ⟨σ6, H6, I6, q6⟩ => ?_)
    refine wpAny_passesOwn hp (thn (hb _ s6 σ6 H6 _ I6 q6) fun f s7 q7 => ?_)
    have again : ∀ {σ7 : St} {H7 : Hp}, Inv X (pins ++ pinsAt fp s5.heap) σ7 H7 s7 → N σ7 H7 → ∃ m, m < n ∧ ∃ i σ' H', Inv X pins σ' H' s7 ∧ tn i s7.heap ∧ (∀ b ∈ fp, H' b = none) ∧ W i m σ' H' := fun {σ7 H7} I7 n7 => by
      obtain ⟨m', hm, w7⟩ := hN σ7 H7 n7
      refine ⟨m', hm, i + 1, σ7, H7, I7.unpinned, T.keep _ _ _ st5 fun b hb o e => (I7.pin (b, o) (List.mem_append_right _ (List.mem_append_right _ (mem_pinsAt hb e)))).1, fun b hb => ?_, w7⟩
      obtain ⟨o, e, d⟩ := T.obj _ _ st5 b hb
      exact (I7.pin (b, o) (List.mem_append_right _ (List.mem_append_right _ (mem_pinsAt hb e)))).2.1
    cases f with
    | next => obtain ⟨σ7, H7, I7, n7⟩ := q7; exact again I7 n7
    | cont => obtain ⟨σ7, H7, I7, n7⟩ := q7; exact again I7 n7
    | brk => obtain ⟨σ7, H7, I7, q7⟩ := q7; exact ⟨σ7, H7, I7.unpinned, q7⟩
    | ret v => obtain ⟨x7, σ7, H7, I7, r7, q7⟩ := q7; exact ⟨x7, σ7, H7, I7.unpinned, r7, q7⟩
end

/-! ### the forms one uses -/
theorem for_range {lo : Int} {n : Nat} {g : TG} {tb : TS} {D : Ends} {σ : St} {H : Hp} (Pv : Nat → St → Hp → Prop) (h0 : Pv 0 σ H)
    (hs : ∀ i σ H, i < n → Pv i σ H → g (.int (lo + i)) σ H fun σ2 H2 => tb { D with nx := Pv (i + 1), ct := Pv (i + 1), bk := D.nx } σ2 H2) (hd : ∀ σ H, Pv n σ H → D.nx σ H) :
    ∃ W : Nat → Nat → St → Hp → Prop, (∃ m, W 0 m σ H) ∧ ∀ i m σ H, W i m σ H →
      ((Itr lo n).stop i H ∧ D.nx σ H) ∨ ((Itr lo n).go i H ∧ ∃ N : St → Hp → Prop, (∀ σ' H', N σ' H' → ∃ m', m' < m ∧ W (i + 1) m' σ' H') ∧ ∀ x H', (Itr lo n).yld i H x H' → g x σ H' fun σ2 H2 => tb { D with nx := N, ct := N, bk := D.nx } σ2 H2) := by
  refine ⟨fun i m σ H => m = n - i ∧ i ≤ n ∧ Pv i σ H, ⟨n, by simp, Nat.zero_le _, h0⟩, ?_⟩
  rintro i m σ H ⟨rfl, hi, p⟩
  by_cases hlt : i < n
  · refine .inr ⟨hlt, Pv (i + 1), fun σ' H' p' => ⟨n - (i + 1), by omega, rfl, hlt, p'⟩, fun x H' y => ?_⟩
    obtain ⟨e, y⟩ := y
    subst e y
    exact hs i σ _ hlt p
  · have e : i = n := by omega
    subst e
    exact .inl ⟨Nat.le_refl _, hd σ H p⟩
end L2

namespace L2
open PySem PySem.Spec PyProof.Rows

abbrev R2 := V → V → Hp → VK → Prop
/-- a two-place operation on values: f is binaryOp op, inplaceOp op or compareOp op -/
def OpR (X : Cx) (f : Value → Value → Sem Value) (r : R2) : Prop :=
  ∀ (pins : List (Addr × Obj)) (s : Shared) (σ : St) (H : Hp) (x y : V) (v u : Value) (Q : VK), Inv X pins σ H s → RelV x v → RelV y u → r x y H Q →
    wpAny (model X.prog X.w) X.A (f v u) (EP X pins σ Q) X.xe s
/-- a one-place operation -/
def UnR (X : Cx) (f : Value → Sem Value) (r : V → Hp → VK → Prop) : Prop :=
  ∀ (pins : List (Addr × Obj)) (s : Shared) (σ : St) (H : Hp) (x : V) (v : Value) (Q : VK), Inv X pins σ H s → RelV x v → r x H Q →
    wpAny (model X.prog X.w) X.A (f v) (EP X pins σ Q) X.xe s
/-- a call of a value that is known (a builtin, a type) with values -/
def CallR (X : Cx) (f : Value) (r : List V → Hp → VK → Prop) : Prop :=
  ∀ (pins : List (Addr × Obj)) (s : Shared) (σ : St) (H : Hp) (xs : List V) (us : List Value) (Q : VK), Inv X pins σ H s → Vals xs us → r xs H Q →
    wpAny (model X.prog X.w) X.A (call f us) (EP X pins σ Q) X.xe s
/-- a value's truth -/
def TruR (X : Cx) (r : V → Hp → (Bool → Hp → Prop) → Prop) : Prop :=
  ∀ (pins : List (Addr × Obj)) (s : Shared) (σ : St) (H : Hp) (x : V) (v : Value) (Q : Bool → Hp → Prop), Inv X pins σ H s → RelV x v → r x H Q →
    wpAny (model X.prog X.w) X.A (truthy v) (TP X pins σ Q) X.xe s

def tOp (r : R2) (ta tb : TE) : TE := fun σ H Q => ta σ H fun x H1 => tb σ H1 fun y H2 => r x y H2 Q
def tUn (r : V → Hp → VK → Prop) (ta : TE) : TE := fun σ H Q => ta σ H fun x H1 => r x H1 Q
/-- ints in, under C, and a value out -/
def rI (C : Int → Int → Prop) (g : Int → Int → V) : R2 := fun x y H Q => ∃ i j, x = .int i ∧ y = .int j ∧ C i j ∧ Q (g i j) H
def rI0 (g : Int → Int → V) : R2 := fun x y H Q => ∃ i j, x = .int i ∧ y = .int j ∧ Q (g i j) H
def rU (g : Int → V) : V → Hp → VK → Prop := fun x H Q => ∃ i, x = .int i ∧ Q (g i) H

section
variable {X : Cx} {a b c : Expr} {ta tb tc : TE} {pos : Pos}

theorem binT (ha : PE X a ta) (hb : PE X b tb) {pins : List (Addr × Obj)} {s : Shared} {σ : St} {H : Hp} {R : V → V → Hp → Prop} (I : Inv X pins σ H s)
    (h : ta σ H fun x H1 => tb σ H1 fun y H2 => R x y H2) {Q : Value → Shared → Prop} {f : Value → Value → Sem Value}
    (hf : ∀ v u s2 x y H2, Inv X pins σ H2 s2 → RelV x v → RelV y u → R x y H2 → wpAny (model X.prog X.w) X.A (f v u) Q X.xe s2) :
    wpAny (model X.prog X.w) X.A (eval a X.env) (fun v s₁ => wpAny (model X.prog X.w) X.A (eval b X.env) (fun u s₂ => wpAny (model X.prog X.w) X.A (f v u) Q X.xe s₂) X.xe s₁) X.xe s := by
  refine thn (ha pins s σ H _ I h) fun v s1 ⟨x, H1, I1, r1, q1⟩ => ?_
  refine thn (hb pins s1 σ H1 _ I1 q1) fun u s2 ⟨y, H2, I2, r2, q2⟩ => ?_
  exact hf v u s2 x y H2 I2 r1 r2 q2

theorem pe_op {op : Operator} {r : R2} (ho : OpR X (binaryOp op) r) (ha : PE X a ta) (hb : PE X b tb) : PE X (.BinOp a op b pos) (tOp r ta tb) := by
  intro pins s σ H Q I h
  exact wpAny_BinOp (binT ha hb I h fun v u s2 x y H2 I2 rx ry q => ho pins s2 σ H2 x y v u Q I2 rx ry q)
theorem pe_un {op : UnaryOp} {r : V → Hp → VK → Prop} (ho : UnR X (unaryOp op) r) (ha : PE X a ta) : PE X (.UnaryOp op a pos) (tUn r ta) := by
  intro pins s σ H Q I h
  exact UnaryOp_ (thn (ha pins s σ H _ I h) fun v s1 ⟨x, H1, I1, r1, q1⟩ => ho pins s1 σ H1 x v Q I1 r1 q1)
/-! ### ints -/
theorem opI {f : Value → Value → Sem Value} {C : Int → Int → Prop} {g : Int → Int → Int}
    (rule : ∀ (i j : Int) (t u : Tok) (s : Shared) (Q : Value → Shared → Prop) (E : Value → Shared → Prop), C i j → Q (.int (g i j) s.toks) { s with toks := s.toks + 1 } → wpAny (model X.prog X.w) X.A (f (.int i t) (.int j u)) Q E s) :
    OpR X f (rI C fun i j => .int (g i j)) := by
  intro pins s σ H x y v u Q I rx ry h
  obtain ⟨i, j, rfl, rfl, hc, q⟩ := h
  obtain ⟨t, rfl⟩ := rx
  obtain ⟨t', rfl⟩ := ry
  exact rule i j t t' s _ _ hc ⟨.int (g i j), H, I.tok _, ⟨_, rfl⟩, q⟩
theorem opI0 {f : Value → Value → Sem Value} {g : Int → Int → Int}
    (rule : ∀ (i j : Int) (t u : Tok) (s : Shared) (Q : Value → Shared → Prop) (E : Value → Shared → Prop), Q (.int (g i j) s.toks) { s with toks := s.toks + 1 } → wpAny (model X.prog X.w) X.A (f (.int i t) (.int j u)) Q E s) :
    OpR X f (rI0 fun i j => .int (g i j)) := by
  intro pins s σ H x y v u Q I rx ry h
  obtain ⟨i, j, rfl, rfl, q⟩ := h
  obtain ⟨t, rfl⟩ := rx
  obtain ⟨t', rfl⟩ := ry
  exact rule i j t t' s _ _ ⟨.int (g i j), H, I.tok _, ⟨_, rfl⟩, q⟩
theorem opB0 {f : Value → Value → Sem Value} {g : Int → Int → Bool}
    (rule : ∀ (i j : Int) (t u : Tok) (s : Shared) (Q : Value → Shared → Prop) (E : Value → Shared → Prop), Q (.bool (g i j)) s → wpAny (model X.prog X.w) X.A (f (.int i t) (.int j u)) Q E s) :
    OpR X f (rI0 fun i j => .bl (g i j)) := by
  intro pins s σ H x y v u Q I rx ry h
  obtain ⟨i, j, rfl, rfl, q⟩ := h
  obtain ⟨t, rfl⟩ := rx
  obtain ⟨t', rfl⟩ := ry
  exact rule i j t t' s _ _ ⟨.bl (g i j), H, I, rfl, q⟩

def CDiv (i j : Int) : Prop := 0 < j ∧ j < 1073741824
def CPow (i j : Int) : Prop := 0 ≤ j ∧ j ≤ 1000000 ∧ i.natAbs < 2 ^ 64
def CMul (i j : Int) : Prop := (-(2 ^ 64) < i ∧ i < 2 ^ 64) ∨ (-(2 ^ 64) < j ∧ j < 2 ^ 64)
theorem CMul.ok {i j : Int} (h : CMul i j) : IntMulOk i j := by
  rcases h with ⟨h1, h2⟩ | ⟨h1, h2⟩
  · exact .of_left (intBits_le_64 h1 h2)
  · exact .of_right (intBits_le_64 h1 h2)
theorem op_add : OpR X (binaryOp .Add) (rI0 fun i j => .int (i + j)) := opI0 fun _ _ _ _ _ _ _ q => add_int q
theorem op_sub : OpR X (binaryOp .Sub) (rI0 fun i j => .int (i - j)) := opI0 fun _ _ _ _ _ _ _ q => sub_int q
theorem op_mul : OpR X (binaryOp .Mult) (rI CMul fun i j => .int (i * j)) := opI fun _ _ _ _ _ _ _ hc q => mul_int q hc.ok
/-- // by a positive divisor -/
theorem op_fdiv : OpR X (binaryOp .FloorDiv) (rI CDiv fun i j => .int (i / j)) := opI fun i j _ _ _ _ _ hc q => by
  have h1 : (0 : Int) < j := hc.1
  have h2 : j < 1073741824 := hc.2
  exact floordiv_int (by omega) (by rw [Int.fdiv_eq_ediv_of_nonneg i (by omega)]; exact q) (.inl (PyProof.noPylong_small (by omega)))
/-- % by a positive divisor of any size -/
theorem op_mod : OpR X (binaryOp .Mod) (rI (fun _ j => 0 < j) fun i j => .int (i % j)) := opI fun i j _ _ _ _ _ hc q => by
  have h1 : (0 : Int) < j := hc
  exact mod_int' (by omega) (by rw [Int.fmod_eq_emod_of_nonneg i (by omega)]; exact q)
theorem op_pow : OpR X (binaryOp .Pow) (rI CPow fun i j => .int (i ^ j.toNat)) := opI fun _ _ _ _ _ _ _ hc q => pow_int_small hc.1 hc.2.1 hc.2.2 q
theorem unI {f : Value → Sem Value} {g : Int → Int}
    (rule : ∀ (i : Int) (t : Tok) (s : Shared) (Q : Value → Shared → Prop) (E : Value → Shared → Prop), Q (.int (g i) s.toks) { s with toks := s.toks + 1 } → wpAny (model X.prog X.w) X.A (f (.int i t)) Q E s) :
    UnR X f (rU fun i => .int (g i)) := by
  intro pins s σ H x v Q I rx h
  obtain ⟨i, rfl, q⟩ := h
  obtain ⟨t, rfl⟩ := rx
  exact rule i t s _ _ ⟨.int (g i), H, I.tok _, ⟨_, rfl⟩, q⟩
theorem un_neg : UnR X (unaryOp .USub) (rU fun i => .int (-i)) := unI fun _ _ _ _ _ q => neg_int q
/-! ### bools among ints: n += (a < b) -/
end

/-! ### comparisons -/
/-- the scalars that == tells apart as data does -/
def scal : V → V → Bool
  | .non, .non => true | .non, .int _ => true | .int _, .non => true | .non, .bl _ => true | .bl _, .non => true | .non, .str _ => true | .str _, .non => true
  | .int _, .int _ => true | .bl _, .bl _ => true | .str _, .str _ => true | .byt _, .byt _ => true
  | .int _, .str _ => true | .str _, .int _ => true | .bl _, .str _ => true | .str _, .bl _ => true
  | _, _ => false
def rEq : R2 := fun x y H Q => scal x y = true ∧ Q (.bl (decide (x = y))) H
def rNe : R2 := fun x y H Q => scal x y = true ∧ Q (.bl (!decide (x = y))) H

theorem dec_int {i j : Int} : decide (V.int i = V.int j) = (i == j) := by
  rw [Bool.eq_iff_iff]
  simp
theorem dec_bl {i j : Bool} : decide (V.bl i = V.bl j) = (i == j) := by
  rw [Bool.eq_iff_iff]
  simp
theorem dec_str {i j : Str} : decide (V.str i = V.str j) = (i == j) := by
  rw [Bool.eq_iff_iff]
  simp
theorem dec_byt {i j : Array UInt8} : decide (V.byt i = V.byt j) = (i.toList == j.toList) := by
  rw [Bool.eq_iff_iff]
  cases i
  cases j
  simp

section
variable {X : Cx} {a b c : Expr} {ta tb tc : TE} {pos : Pos}
theorem fin_bl {pins : List (Addr × Obj)} {σ : St} {H : Hp} {s : Shared} {Q : VK} {k k' : Bool} (I : Inv X pins σ H s) (q : Q (.bl k) H) (e : k = k') : EP X pins σ Q (.bool k') s := by
  subst e
  exact ⟨.bl k, H, I, rfl, q⟩
theorem op_eq : OpR X (compareOp .Eq) rEq := by
  intro pins s σ H x y v u Q I rx ry h
  obtain ⟨hs, q⟩ := h
  cases x with
  | non =>
    cases rx
    cases y with
    | non => cases ry; exact PySem.EqNone.eq_none_none (fin_bl I q (by simp))
    | bl j => cases ry; exact PySem.EqNone.eq_none_bool (fin_bl I q (by simp))
    | int j => obtain ⟨t', rfl⟩ := ry; exact PySem.EqNone.eq_none_int (fin_bl I q (by simp))
    | str j => obtain ⟨t', rfl⟩ := ry; exact PySem.EqNone.eq_none_str (fin_bl I q (by simp))
    | _ => exact absurd (show false = true from hs) Bool.false_ne_true
  | bl i =>
    cases rx
    cases y with
    | non => cases ry; exact PySem.EqNone.eq_bool_none (fin_bl I q (by simp))
    | bl j => cases ry; exact eq_bool (fin_bl I q dec_bl)
    | str j => obtain ⟨t', rfl⟩ := ry; exact PySem.EqMixed.eq_bool_str (fin_bl I q (by simp))
    | _ => exact absurd (show false = true from hs) Bool.false_ne_true
  | int i =>
    obtain ⟨t, rfl⟩ := rx
    cases y with
    | non => cases ry; exact PySem.EqNone.eq_int_none (fin_bl I q (by simp))
    | int j => obtain ⟨t', rfl⟩ := ry; exact eq_int (fin_bl I q dec_int)
    | str j => obtain ⟨t', rfl⟩ := ry; exact PySem.EqMixed.eq_int_str (fin_bl I q (by simp))
    | _ => exact absurd (show false = true from hs) Bool.false_ne_true
  | str i =>
    obtain ⟨t, rfl⟩ := rx
    cases y with
    | non => cases ry; exact PySem.EqNone.eq_str_none (fin_bl I q (by simp))
    | bl j => cases ry; exact PySem.EqMixed.eq_str_bool (fin_bl I q (by simp))
    | int j => obtain ⟨t', rfl⟩ := ry; exact PySem.EqMixed.eq_str_int (fin_bl I q (by simp))
    | str j => obtain ⟨t', rfl⟩ := ry; exact eq_str (fin_bl I q dec_str)
    | _ => exact absurd (show false = true from hs) Bool.false_ne_true
  | byt i =>
    obtain ⟨t, rfl⟩ := rx
    cases y with
    | byt j => obtain ⟨t', rfl⟩ := ry; exact PySem.W.eq_bytes (fin_bl I q dec_byt)
    | _ => exact absurd (show false = true from hs) Bool.false_ne_true
  | _ => cases y <;> exact absurd (show false = true from hs) Bool.false_ne_true
theorem op_ne : OpR X (compareOp .NotEq) rNe := by
  intro pins s σ H x y v u Q I rx ry h
  obtain ⟨hs, q⟩ := h
  cases x with
  | non =>
    cases rx
    cases y with
    | non => cases ry; exact PySem.EqNone.ne_none_none (fin_bl I q (by simp))
    | bl j => cases ry; exact PySem.EqNone.ne_none_bool (fin_bl I q (by simp))
    | int j => obtain ⟨t', rfl⟩ := ry; exact PySem.EqNone.ne_none_int (fin_bl I q (by simp))
    | str j => obtain ⟨t', rfl⟩ := ry; exact PySem.EqNone.ne_none_str (fin_bl I q (by simp))
    | _ => exact absurd (show false = true from hs) Bool.false_ne_true
  | bl i =>
    cases rx
    cases y with
    | non => cases ry; exact PySem.EqNone.ne_bool_none (fin_bl I q (by simp))
    | bl j => cases ry; exact ne_bool (fin_bl I q (congrArg not dec_bl))
    | str j => obtain ⟨t', rfl⟩ := ry; exact PySem.EqMixed.ne_bool_str (fin_bl I q (by simp))
    | _ => exact absurd (show false = true from hs) Bool.false_ne_true
  | int i =>
    obtain ⟨t, rfl⟩ := rx
    cases y with
    | non => cases ry; exact PySem.EqNone.ne_int_none (fin_bl I q (by simp))
    | int j => obtain ⟨t', rfl⟩ := ry; exact ne_int (fin_bl I q (congrArg not dec_int))
    | str j => obtain ⟨t', rfl⟩ := ry; exact PySem.EqMixed.ne_int_str (fin_bl I q (by simp))
    | _ => exact absurd (show false = true from hs) Bool.false_ne_true
  | str i =>
    obtain ⟨t, rfl⟩ := rx
    cases y with
    | non => cases ry; exact PySem.EqNone.ne_str_none (fin_bl I q (by simp))
    | bl j => cases ry; exact PySem.EqMixed.ne_str_bool (fin_bl I q (by simp))
    | int j => obtain ⟨t', rfl⟩ := ry; exact PySem.EqMixed.ne_str_int (fin_bl I q (by simp))
    | str j => obtain ⟨t', rfl⟩ := ry; exact ne_str (fin_bl I q (congrArg not dec_str))
    | _ => exact absurd (show false = true from hs) Bool.false_ne_true
  | byt i =>
    obtain ⟨t, rfl⟩ := rx
    cases y with
    | byt j => obtain ⟨t', rfl⟩ := ry; exact PySem.W.ne_bytes (fin_bl I q (congrArg not dec_byt))
    | _ => exact absurd (show false = true from hs) Bool.false_ne_true
  | _ => cases y <;> exact absurd (show false = true from hs) Bool.false_ne_true

theorem op_lt : OpR X (compareOp .Lt) (rI0 fun i j => .bl (decide (i < j))) := opB0 fun _ _ _ _ _ _ _ q => lt_int q
theorem op_gt : OpR X (compareOp .Gt) (rI0 fun i j => .bl (decide (j < i))) := opB0 fun _ _ _ _ _ _ _ q => gt_int q
theorem op_ge : OpR X (compareOp .GtE) (rI0 fun i j => .bl (decide (j ≤ i))) := opB0 fun _ _ _ _ _ _ _ q => ge_int q
theorem op_lt_str : OpR X (compareOp .Lt) (fun x y H Q => ∃ i j, x = .str i ∧ y = .str j ∧ Q (.bl (decide (i.cps.toList < j.cps.toList))) H) := by
  intro pins s σ H x y v u Q I rx ry h
  obtain ⟨i, j, rfl, rfl, q⟩ := h
  obtain ⟨t, rfl⟩ := rx
  obtain ⟨t', rfl⟩ := ry
  exact lt_str (fin_bl I q rfl)
/-- the one string within the other -/
theorem op_in_str : OpR X (compareOp .In) (fun x y H Q => ∃ i j, x = .str i ∧ y = .str j ∧ Q (.bl (!(Builtin.Str.occurrences j i 0 j.length 1).isEmpty)) H) := by
  intro pins s σ H x y v u Q I rx ry h
  obtain ⟨i, j, rfl, rfl, q⟩ := h
  obtain ⟨t, rfl⟩ := rx
  obtain ⟨t', rfl⟩ := ry
  exact in_str (fin_bl I q rfl)

/-- two rules for one operation: by cases -/
theorem OpR.or {f : Value → Value → Sem Value} {r r' : R2} (h : OpR X f r) (h' : OpR X f r') : OpR X f (fun x y H Q => r x y H Q ∨ r' x y H Q) := by
  intro pins s σ H x y v u Q I rx ry q
  rcases q with q | q
  · exact h pins s σ H x y v u Q I rx ry q
  · exact h' pins s σ H x y v u Q I rx ry q

theorem nomark (b : Expr) {op : CmpOp} (h : op ≠ .In := by decide) (h2 : op ≠ .NotIn := by decide) : behindInMarks op b = false := by
  have e1 : (op == CmpOp.In) = false := by cases op <;> first | rfl | exact absurd rfl h
  have e2 : (op == CmpOp.NotIn) = false := by cases op <;> first | rfl | exact absurd rfl h2
  cases b <;> simp [behindInMarks, e1, e2]
/-- a comparison as a value; hm: nomark b, or (for in, not in) by with_unfolding_all rfl -/
theorem pe_cmpR {op : CmpOp} {r : R2} (ho : OpR X (compareOp op) r) (ha : PE X a ta) (hb : PE X b tb) (hm : behindInMarks op b = false) : PE X (.Compare a [op] [b] pos) (tOp r ta tb) := by
  intro pins s σ H Q I h
  exact wpAny_Compare1 (binT ha hb I h fun v u s2 x y H2 I2 rx ry q => ho pins s2 σ H2 x y v u Q I2 rx ry q) hm
/-- a reading of a value as a test -/
def tTest (t : TE) : TT := fun σ H Q => t σ H fun x H' => ∃ k, x = .bl k ∧ Q k H'
theorem pt_cmpR {op : CmpOp} {r : R2} (ho : OpR X (compareOp op) r) (ha : PE X a ta) (hb : PE X b tb) (hm : behindInMarks op b = false) : PT X (.Compare a [op] [b] pos) (tTest (tOp r ta tb)) := by
  intro pins s σ H Q I h
  refine wpAny_isTrue_Compare1 (thn (ha pins s σ H _ I h) fun v s1 ⟨x, H1, I1, r1, q1⟩ => thn (hb pins s1 σ H1 _ I1 q1) fun u s2 ⟨y, H2, I2, r2, q2⟩ =>
    thn (ho pins s2 σ H2 x y v u _ I2 r1 r2 q2) fun c s3 ⟨z, H3, I3, r3, k, e, q3⟩ => ?_) hm
  subst e
  cases r3
  exact wpAny_truthy_bool ⟨H3, I3, q3⟩
/-! ### truth -/
/-- a value's truth by the abstract heap -/
def TruV (K : PySem.W.Frag) (x : V) (H : Hp) (k : Bool) : Prop :=
  match x with
  | .non => k = false
  | .bl b => k = b
  | .int i => k = (i != 0)
  | .str y => y.length ≤ sizeLine ∧ k = ((y.length : Int) != 0)
  | .byt y => y.size ≤ sizeLine ∧ k = ((y.size : Int) != 0)
  | .ref p => (∃ xs, SqL K H p xs ∧ k = !xs.isEmpty) ∨ (∃ xs, SqT K H p xs ∧ k = !xs.isEmpty) ∨ ∃ kvs, H p = some (.dK kvs) ∧ k = !kvs.isEmpty
  | _ => False
theorem isEmpty_kv {κ : Type} {kvs : List (κ × V)} {vs : List (κ × Value)} (r : KV kvs vs) : (!vs.isEmpty) = !kvs.isEmpty := by
  cases r <;> rfl
theorem isEmpty_of {xs : List V} {its : List Value} (r : Vals xs its) : (!its.toArray.isEmpty) = !xs.isEmpty := by
  cases r <;> simp
theorem line63 : (sizeLine : Nat) < 2 ^ 63 := by rw [sizeLine_eq]; decide
theorem tru_ok : TruR X (fun x H Q => ∃ k, TruV X.K x H k ∧ Q k H) := by
  intro pins s σ H x v Q I rx h
  obtain ⟨k, e, q⟩ := h
  have hl := line63
  have hs : sizeLine = 16777216 := sizeLine_eq
  cases x with
  | non =>
    cases rx
    have e' : k = false := e
    subst e'
    exact truthy_none ⟨H, I, q⟩
  | bl b =>
    cases rx
    have e' : k = b := e
    subst e'
    exact wpAny_truthy_bool ⟨H, I, q⟩
  | int i =>
    obtain ⟨t, rfl⟩ := rx
    have e' : k = (i != 0) := e
    subst e'
    exact PySem.P.truthy_int ⟨H, I, q⟩
  | str y =>
    obtain ⟨t, rfl⟩ := rx
    obtain ⟨hy, e'⟩ : y.length ≤ sizeLine ∧ k = ((y.length : Int) != 0) := e
    subst e'
    exact PySem.P.truthy_str (by omega) ⟨H, I.tok _, q⟩
  | byt y =>
    obtain ⟨t, rfl⟩ := rx
    obtain ⟨hy, e'⟩ : y.size ≤ sizeLine ∧ k = ((y.size : Int) != 0) := e
    subst e'
    exact PySem.W.truthy_bytes (by omega) ⟨H, I.tok _, q⟩
  | ref p =>
    cases rx
    have e' : (∃ xs, SqL X.K H p xs ∧ k = !xs.isEmpty) ∨ (∃ xs, SqT X.K H p xs ∧ k = !xs.isEmpty) ∨ ∃ kvs, H p = some (.dK kvs) ∧ k = !kvs.isEmpty := e
    rcases e' with ⟨xs, hx, e'⟩ | ⟨xs, hx, e'⟩ | ⟨kvs, hx, e'⟩
    · subst e'
      obtain ⟨its, r, pl, hz⟩ := I.list hx
      have hlen := r.length
      exact wpAny_truthy_list pl.isList (by simp only [List.size_toArray]; omega) ⟨H, I.tok _, by rw [isEmpty_of r]; exact q⟩
    · subst e'
      obtain ⟨its, r, pl, hz⟩ := I.tuple hx
      have hlen := r.length
      exact truthy_tuple pl (by simp only [List.size_toArray]; omega) ⟨H, I.tok _, by rw [isEmpty_of r]; exact q⟩
    · subst e'
      obtain ⟨hz, hS, vs, r, m⟩ : kvs.length ≤ sizeLine ∧ (p == sysModules) = false ∧ ∃ vs, KV kvs vs ∧ s.heap.DictOf (mixKind X.prog X.w) p vs := I.hok p _ hx
      have hlen : kvs.length = vs.length := Paired.length r
      exact wpAny_truthy_dict hS m (by omega) ⟨H, I.tok _, by rw [isEmpty_kv r]; exact q⟩
  | _ => exact (show False from e).elim
/-! ### strs and bytes -/
theorem op_add_str : OpR X (binaryOp .Add) (fun x y H Q => ∃ i j, x = .str i ∧ y = .str j ∧ i.length + j.length ≤ sizeLine ∧ Q (.str (i ++ j)) H) := by
  intro pins s σ H x y v u Q I rx ry h
  obtain ⟨i, j, rfl, rfl, hz, q⟩ := h
  obtain ⟨t, rfl⟩ := rx
  obtain ⟨t', rfl⟩ := ry
  exact add_str (fun t' tk => ⟨.str (i ++ j), H, I.tok _, ⟨_, rfl⟩, q⟩) hz
theorem iop_add_str : OpR X (inplaceOp .Add) (fun x y H Q => ∃ i j, x = .str i ∧ y = .str j ∧ i.length + j.length ≤ sizeLine ∧ Q (.str (i ++ j)) H) := by
  intro pins s σ H x y v u Q I rx ry h
  obtain ⟨i, j, rfl, rfl, hz, q⟩ := h
  obtain ⟨t, rfl⟩ := rx
  obtain ⟨t', rfl⟩ := ry
  exact iadd_str (fun t' tk => ⟨.str (i ++ j), H, I.tok _, ⟨_, rfl⟩, q⟩) hz
/-! ### scalar builtins, by CallR -/
theorem vals1 {x : V} {us : List Value} (r : Vals [x] us) : ∃ u, us = [u] ∧ RelV x u := by
  cases r with
  | cons r1 r2 => cases r2; exact ⟨_, rfl, r1⟩
theorem vals2 {x y : V} {us : List Value} (r : Vals [x, y] us) : ∃ u w', us = [u, w'] ∧ RelV x u ∧ RelV y w' := by
  cases r with
  | cons r1 r2 =>
    cases r2 with
    | cons r3 r4 => cases r4; exact ⟨_, _, rfl, r1, r3⟩
theorem call_max2 (hc : X.calm = true) : CallR X (.builtin "max") (fun xs H Q => ∃ i j, xs = [.int i, .int j] ∧ Q (.int (if j > i then j else i)) H) := by
  intro pins s σ H xs us Q I r h
  obtain ⟨i, j, rfl, q⟩ := h
  obtain ⟨u, w', rfl, ⟨t, rfl⟩, ⟨t', rfl⟩⟩ := vals2 r
  refine max_two_ints (I.ok.hd hc) fun h' tk k => ⟨_, H, I.kept k, ?_, q⟩
  by_cases hj : j > i
  · rw [if_pos hj, if_pos hj]; exact ⟨_, rfl⟩
  · rw [if_neg hj, if_neg hj]; exact ⟨_, rfl⟩
theorem call_min2 (hc : X.calm = true) : CallR X (.builtin "min") (fun xs H Q => ∃ i j, xs = [.int i, .int j] ∧ Q (.int (if j < i then j else i)) H) := by
  intro pins s σ H xs us Q I r h
  obtain ⟨i, j, rfl, q⟩ := h
  obtain ⟨u, w', rfl, ⟨t, rfl⟩, ⟨t', rfl⟩⟩ := vals2 r
  refine min_two_ints (I.ok.hd hc) fun h' tk k => ⟨_, H, I.kept k, ?_, q⟩
  by_cases hj : j < i
  · rw [if_pos hj, if_pos hj]; exact ⟨_, rfl⟩
  · rw [if_neg hj, if_neg hj]; exact ⟨_, rfl⟩
theorem call_int1 : CallR X (.type "int") (fun xs H Q => (∃ i, xs = [.int i] ∧ Q (.int i) H) ∨ ∃ k, xs = [.bl k] ∧ Q (.int (if k then 1 else 0)) H) := by
  intro pins s σ H xs us Q I r h
  rcases h with ⟨i, rfl, q⟩ | ⟨k, rfl, q⟩
  · obtain ⟨u, rfl, t, rfl⟩ := vals1 r
    exact call_int_int ⟨.int i, H, I, ⟨_, rfl⟩, q⟩
  · obtain ⟨u, rfl, r1⟩ := vals1 r
    cases r1
    exact call_int_bool ⟨.int (if k then 1 else 0), H, I.tok _, ⟨_, rfl⟩, q⟩
end
end L2

namespace L2
open PySem PySem.Spec PyProof.Rows

/-! ### an instance, its attributes a map -/
structure ObjM (h : Heap) (x dx C : Addr) (mA : Str → Option Value) : Prop where
  obj : h.get? x = some (PySem.W.instObj C dx)
  ns : h.Ns1 dx mA
  ne : dx ≠ x

section
variable {prog : Program} {w : World} {A : Around} {E : Value → Shared → Prop} {s : Shared} {K : PySem.W.Frag} {x dx C f : Addr} {mA : Str → Option Value} {name : Str} {v : Value}

end

/-! ### the attributes as a list of pairs -/
section
variable {P : Program} {w : World} {H H' : Hp} {h h' : Heap} {a C dx : Addr} {fs fs' : List (Str × V)}
end

/-! ### what of the text a class must have -/
structure Cls (K : PySem.W.Frag) (C : Addr) : Prop where
  pg : PySem.W.plainGet K C Str.empty = true
  hd : PySem.W.hasDictIn K C = true
  po : PySem.W.plainOver K C = true
  sa : PySem.W.findIn K (.ref C) "__setattr__" = some (some (.builtin "object.__setattr__"))
theorem Cls.get {K : PySem.W.Frag} {C : Addr} (c : Cls K C) (f : Str) : PySem.W.plainGet K C f = true := c.pg
/-- a constant of the class -/
structure Con (K : PySem.W.Frag) (C : Addr) (f : Str) (v : V) (u : Value) : Prop where
  at_ : PySem.W.findIn K (.ref C) f = some (some u)
  rel : RelV v u
  get : PySem.W.specialIn K u "__get__" = some none
  cp : PySem.W.copiedNames.contains f = false
/-- a method: a plain def of the class or of one above it -/
structure Meth (K : PySem.W.Frag) (C : Addr) (m : Str) (f : Addr) : Prop where
  at_ : PySem.W.findIn K (.ref C) m = some (some (.ref f))
  fn : PySem.W.isFn K (.ref f) = true
  kp : PySem.W.keepIn K (.ref f) = true

section
variable {X : Cx} {pins : List (Addr × Obj)} {σ : St} {H : Hp} {s : Shared} {a C dx : Addr} {fs : List (Str × V)} {f : Str} {v : V} {A : Around} {E : Value → Shared → Prop}

/-- a new instance, tracked, without attributes -/
theorem Inv.made (I : Inv X pins σ H s) : Inv X pins σ (upd (upd H s.heap.objs.size (.own (s.heap.objs.size + 1))) (s.heap.objs.size + 1) (.ins C s.heap.objs.size []))
    { s with heap := (s.heap.push PySem.W.emptyDict).push (PySem.W.instObj C s.heap.objs.size) } := by
  have e1 : (s.heap.push PySem.W.emptyDict).get? s.heap.objs.size = some PySem.W.emptyDict := Heap.get?_push_size s.heap rfl
  have e2 : ((s.heap.push PySem.W.emptyDict).push (PySem.W.instObj C s.heap.objs.size)).get? (s.heap.objs.size + 1) = some (PySem.W.instObj C s.heap.objs.size) := by
    have := Heap.get?_push_size (s.heap.push PySem.W.emptyDict) (o := PySem.W.instObj C s.heap.objs.size) rfl
    rwa [Heap.size_push] at this
  have e3 : (s.heap.push PySem.W.emptyDict).Ns s.heap.objs.size (fun _ => none) := ⟨PySem.W.emptyDict, #[], _, e1, rfl, (fun e he => absurd he (by simp)), fun _ => rfl⟩
  have I1 := I.laid (a := s.heap.objs.size) (o := .own (s.heap.objs.size + 1)) (h' := s.heap.push PySem.W.emptyDict) (t' := s.toks) (fun b u q => Heap.get?_push_of_some _ q) (Nat.le_refl _) ⟨_, e1⟩
  refine I1.laid (a := s.heap.objs.size + 1) (o := .ins C s.heap.objs.size []) (t' := s.toks) (fun b u q => Heap.get?_push_of_some _ q) (Nat.le_of_eq (Heap.size_push _ _)) ?_
  have ne : s.heap.objs.size ≠ s.heap.objs.size + 1 := Nat.ne_of_lt (Nat.lt_succ_self _)
  refine ⟨by rw [upd_ne ne, upd_same], Nat.zero_le _, ne, e2, fun _ => none, (Heap.Ns1.of_empty e3).at fun o q => Heap.get?_push_of_some _ q, fun _ => True.intro, fun y hy => absurd rfl hy⟩

end

/-! ### readings and rules -/
section
variable {X : Cx} {o e value : Expr} {f : Str} {pos pos' tpos : Pos} {ta tv : TE}
end

/-! ### isinstance -/
section
variable {X : Cx} {pins : List (Addr × Obj)} {σ : St} {H : Hp} {s : Shared} {A : Around} {E : Value → Shared → Prop} {Q : Value → Shared → Prop} {c : Value} {b : Bool}
/-- the type of a value, as the fragment's deciders take it; for an instance its class -/
inductive TyOf (K : PySem.W.Frag) (H : Hp) : V → Value → Prop where
  | non : TyOf K H .non (.type "NoneType")
  | bl (x : Bool) : TyOf K H (.bl x) (.type "bool")
  | int (i : Int) : TyOf K H (.int i) (.type "int")
  | str (x : Str) : TyOf K H (.str x) (.type "str")
  | flt (x : UInt64) : TyOf K H (.flt x) (.type "float")
  | lst {a : Addr} {xs : List V} (e : H a = some (.lst xs)) : TyOf K H (.ref a) (.type "list")
  | frz {a : Addr} {o : Obj} {xs : List V} (e : H a = some (.frz o (.lst xs))) : TyOf K H (.ref a) (.type "list")
  | tup {a : Addr} {xs : List V} (e : H a = some (.tup xs)) : TyOf K H (.ref a) (.type "tuple")
  | dK {a : Addr} {kvs : List (Key × V)} (e : H a = some (.dK kvs)) : TyOf K H (.ref a) (.type "dict")
  | dT {a : Addr} {kvs : List (List Key × V)} (e : H a = some (.dT kvs)) : TyOf K H (.ref a) (.type "dict")
  | ins {a C dx : Addr} {fs : List (Str × V)} (e : H a = some (.ins C dx fs)) (cl : Cls K C) (ha : PySem.W.findIn K (.ref C) "__class__" = some (some (.builtin "object.__class__")))
      (hn : PySem.W.specialIn K (.builtin "object.__class__") "__get__" = some (some (.builtin "getset_descriptor.__get__"))) (htk : PySem.W.takesIn K (.builtin "object.__class__") = some true)
      (hm : PySem.W.mroIn K C (.type "object") = some true) : TyOf K H (.ref a) (.ref C)
end
end L2

namespace L2
open PySem PySem.Spec PyProof.Rows

/-! ### room -/
structure Room (k : Nat) (A : Around) : Prop where
  hd : A.handled = none
  dp : A.depth + 3 * k + 5 < recursionLimit
  un : A.units + 16 * k + 200 < cLine
  gd : A.guards = some []
theorem Room.mono {j k : Nat} {A : Around} (r : Room k A) (h : j ≤ k) : Room j A := ⟨r.hd, by have := r.dp; omega, by have := r.un; omega, r.gd⟩
theorem Room.deeper {k : Nat} {A : Around} (r : Room (k + 1) A) (env : Env) : Room k (A.deeper env) :=
  ⟨r.hd, by have := r.dp; show A.depth + 1 + 3 * k + 5 < _; omega, by have := r.un; show A.units + 3 + 16 * k + 200 < _; omega, r.gd⟩
theorem Room.in1 {k : Nat} {A : Around} (r : Room (k + 1) A) : Room k A.in1 :=
  ⟨r.hd, by have := r.dp; show A.depth + 3 * k + 5 < _; omega, by have := r.un; show A.units + 1 + 16 * k + 200 < _; omega, r.gd⟩
theorem Room.depth {k : Nat} {A : Around} (r : Room k A) : A.depth < recursionLimit := by have := r.dp; omega
theorem Room.units {k : Nat} {A : Around} (r : Room k A) : A.units + 64 < cLine := by have := r.un; omega
/-! ### argument lists and displays -/
def tNil : TA := fun _ H Q => Q [] H
def tCons (ta : TE) (tr : TA) : TA := fun σ H Q => ta σ H fun x H1 => tr σ H1 fun xs H2 => Q (x :: xs) H2
section
variable {X : Cx} {e : Expr} {es : List Expr} {te : TE} {t : TA} {pos : Pos}
theorem pa_nil : PA X [] tNil := fun _ _ _ _ H Q I h => Calls.spliced_nil ⟨[], H, I, .nil, h⟩
theorem pa_cons (ha : PE X e te) (hr : PA X es t) (hs : starEach (e :: es) X.env = (false, eval e X.env) :: starEach es X.env := by rfl) : PA X (e :: es) (tCons te t) := by
  intro pos pins s σ H Q I h
  rw [hs]
  show wpAny _ _ (spliced ((false, eval e X.env) :: backTo pos (starEach es X.env))) _ _ s
  refine Calls.spliced_cons (thn (ha pins s σ H _ I h) fun u s1 ⟨x, H1, I1, r1, q1⟩ => ?_)
  exact thn (hr pos pins s1 σ H1 _ I1 q1) fun us s2 ⟨xs, H2, I2, r2, q2⟩ => ⟨x :: xs, H2, I2, .cons r1 r2, q2⟩

/-- a tuple, a list of written items -/
def tTup (t : TA) : TE := fun σ H Q => t σ H fun xs H1 => xs.length ≤ sizeLine ∧ ∀ p, H1 p = none → Q (.ref p) (upd H1 p (.tup xs))
def tLst (t : TA) : TE := fun σ H Q => t σ H fun xs H1 => xs.length ≤ sizeLine ∧ ∀ p, H1 p = none → Q (.ref p) (upd H1 p (.lst xs))
theorem pe_tup {x1} (h : PA X es t) : PE X (.Tuple es x1 pos) (tTup t) := by
  intro pins s σ H Q I hq
  refine wpAny_Tuple_spliced (thn (h pos pins s σ H _ I hq) fun us s1 ⟨xs, H1, I1, r, z, q⟩ => ⟨by rw [← r.length]; exact z, ?_⟩)
  have hf : H1 s1.heap.objs.size = none := I1.hok.fresh (Nat.le_refl _)
  refine ⟨.ref s1.heap.objs.size, upd H1 s1.heap.objs.size (.tup xs), I1.laid (t' := s1.toks) (fun b u e => Heap.get?_push_of_some _ e) (Nat.le_refl _) ?_, rfl, q _ hf⟩
  exact ⟨z, us, r, ⟨_, Heap.get?_push_size _ rfl, rfl, _, rfl⟩⟩
theorem pe_lst (h : PA X es t) : PE X (.List es pos) (tLst t) := by
  intro pins s σ H Q I hq
  refine wpAny_List_spliced (thn (h pos pins s σ H _ I hq) fun us s1 ⟨xs, H1, I1, r, z, q⟩ => ⟨by rw [← r.length]; exact z, ?_⟩)
  have hf : H1 s1.heap.objs.size = none := I1.hok.fresh (Nat.le_refl _)
  refine ⟨.ref s1.heap.objs.size, upd H1 s1.heap.objs.size (.lst xs), I1.laid (t' := s1.toks) (fun b u e => Heap.get?_push_of_some _ e) (Nat.le_refl _) ?_, rfl, q _ hf⟩
  exact ⟨z, us, 0, r, Heap.get?_push_size _ rfl⟩
end

/-! ### what a def promises -/
/-- a def's promise: the bound arguments in the parameters' order, the heap, the wanted end, the wanted exception -/
abbrev Sp := List V → Hp → VK → XK → Prop
/-- how an exception lies behind a call (file 08 gives it): the callers' frames, abstract heap and state ahead of the call, the wish, the exception, the state -/
abbrev CXT := List Env → Hp → Shared → XK → Value → Shared → Prop

/-- the state at a call -/
structure Env0 (P : Program) (w : World) (K : PySem.W.Frag) (mg : Str → Option Value) (base : Heap) (A : Around) (outer : List Env) (s : Shared) (H : Hp) : Prop where
  frames : A.frames = some outer
  mod : Mod K mg base
  bs : ∀ b o, base.get? b = some o → s.heap.get? b = some o ∧ H b = none
  bsz : base.objs.size ≤ s.heap.objs.size
  funs : s.heap.FunFrames base outer
  frf : ∀ b ∈ frs outer, H b = none
  hok : HOk P w H s.heap
  bare : AllBare s.gens
/-- a call's end -/
def CE (outer : List Env) (P : Program) (w : World) (H : Hp) (s : Shared) (Q : VK) (u : Value) (s' : Shared) : Prop :=
  ∃ v H', s'.os = s.os ∧ AllBare s'.gens ∧ Un (frs outer) [] H H' s.heap s'.heap ∧ HOk P w H' s'.heap ∧ RelV v u ∧ Q v H'
def CR (CX : CXT) (outer : List Env) (P : Program) (w : World) (H : Hp) (s : Shared) (Q : VK) (E : XK) (r : Result) (s' : Shared) : Prop :=
  match r with
  | .ok (.ret u) => CE outer P w H s Q u s'
  | .ok _ => False
  | .error e => CX outer H s E e s'
structure FnOk (P : Program) (w : World) (K : PySem.W.Frag) (mg : Str → Option Value) (base : Heap) (CX : CXT) (k : Nat) (f : Addr) (fd : FuncData) (ps : List Str) (sp : Sp) : Prop where
  len : ∀ vs H Q E, sp vs H Q E → vs.length = ps.length
  run : ∀ (A : Around) (outer : List Env) (s : Shared) (H : Hp) (args : Args) (us : List Value) (vs : List V) (Q : VK) (E : XK), Room k A → Env0 P w K mg base A outer s H → BindsTo s fd args (ps.zip us) → Vals vs us → sp vs H Q E →
    codeAny (model P w) A (.call (.ref f) args) (CR CX outer P w H s Q E) s
theorem FnOk.mono {P : Program} {w : World} {K : PySem.W.Frag} {mg : Str → Option Value} {base : Heap} {CX : CXT} {j k : Nat} {f : Addr} {fd : FuncData} {ps : List Str} {sp : Sp} (F : FnOk P w K mg base CX j f fd ps sp) (h : j ≤ k) :
    FnOk P w K mg base CX k f fd ps sp := ⟨F.len, fun A outer s H args us vs Q E hr => F.run A outer s H args us vs Q E (hr.mono h)⟩
/-- a weaker promise -/
theorem FnOk.imp {P : Program} {w : World} {K : PySem.W.Frag} {mg : Str → Option Value} {base : Heap} {CX : CXT} {k : Nat} {f : Addr} {fd : FuncData} {ps : List Str} {sp sp' : Sp} (F : FnOk P w K mg base CX k f fd ps sp)
    (h : ∀ vs H Q E, sp' vs H Q E → sp vs H Q E) : FnOk P w K mg base CX k f fd ps sp' :=
  ⟨fun vs H Q E q => F.len vs H Q E (h _ _ _ _ q), fun A outer s H args us vs Q E hr he hb hv hs => F.run A outer s H args us vs Q E hr he hb hv (h _ _ _ _ hs)⟩

theorem Env0.in1 {P : Program} {w : World} {K : PySem.W.Frag} {mg : Str → Option Value} {base : Heap} {A : Around} {outer : List Env} {s : Shared} {H : Hp} (e : Env0 P w K mg base A outer s H) :
    Env0 P w K mg base A.in1 outer s H := ⟨e.frames, e.mod, e.bs, e.bsz, e.funs, e.frf, e.hok, e.bare⟩

section
variable {X : Cx} {pins : List (Addr × Obj)} {σ : St} {H : Hp} {s s' : Shared}
/-- from a body: what a callee wants -/
theorem Inv.env0 (I : Inv X pins σ H s) : Env0 X.prog X.w X.K X.mg X.base X.A X.stack s H :=
  ⟨I.ok.frames, I.ok.mod, I.bs, Nat.le_trans I.ok.bsz I.sz, I.stack, I.stkFree, I.hok, I.bare⟩
/-- behind a call -/
theorem Inv.after {Q : VK} {u : Value} (I : Inv X pins σ H s) (h : CE X.stack X.prog X.w H s Q u s') : EP X pins σ Q u s' := by
  obtain ⟨v, H', os, bare, un, hok, r, q⟩ := h
  obtain ⟨hh, g, d, t, os'⟩ := s'
  obtain rfl : os' = s.os := os
  exact ⟨v, H', I.call (h' := hh) (g' := g) (d' := d) (t' := t) (ch := []) un hok bare (fun b z => absurd z (by simp)), r, q⟩
end

/-! ### calls -/
/-- f(..): the written arguments, then the defaults dvs; E: what is wanted of an exception -/
def tCall (sp : Sp) (dvs : List V) (E : XK) (t : TA) : TE := fun σ H Q => t σ H fun vs H1 => sp (vs ++ dvs) H1 Q E
/-- how the parameters are bound: us the positional arguments, kw the keywords' values by name, ds the defaults that fill up -/
def Binds (K : PySem.W.Frag) (fd : FuncData) (ps : List Str) (ds : List Value) : Prop :=
  ∀ (s : Shared) (us : List Value), K.In s.heap → (us ++ ds).length = ps.length → BindsTo s fd ⟨us, []⟩ (ps.zip (us ++ ds))
/-- every parameter is given -/
theorem Binds.all {K : PySem.W.Frag} {fd : FuncData} {ps : List Str} (h : ∀ us : List Value, us.length = ps.length → bindArgs fd ⟨us, []⟩ = pure (ps.zip us)) : Binds K fd ps [] := fun s us _ hl => by
  rw [List.append_nil] at hl ⊢
  exact .of_eq (h us hl)

/-- an exception of a callee reaches what this body wants of exceptions -/
def Passes (CX : CXT) (X : Cx) (E : XK) : Prop := ∀ (pins : List (Addr × Obj)) (σ : St) (H : Hp) (s : Shared) (e : Value) (s' : Shared), Inv X pins σ H s → CX X.stack H s E e s' → X.xe e s'

section
variable {X : Cx} {CX : CXT} {k : Nat} {f C : Addr} {fd : FuncData} {ps : List Str} {sp : Sp} {dvs : List V} {ds : List Value} {E : XK} {x m : Str} {p pos apos : Pos} {e o : Expr} {es : List Expr} {ta : TE} {t : TA}

/-- the callee runs -/
theorem run_fn {pins : List (Addr × Obj)} {σ : St} {H : Hp} {s : Shared} {Q : VK} {us : List Value} {vs : List V} (F : FnOk X.prog X.w X.K X.mg X.base CX k f fd ps sp) (hr : Room k X.A) (hb : Binds X.K fd ps ds) (hd : Vals dvs ds) (hx : Passes CX X E)
    (I : Inv X pins σ H s) (r : Vals vs us) (h : sp (vs ++ dvs) H Q E) : wpAny (model X.prog X.w) X.A (call (.ref f) us) (EP X pins σ Q) X.xe s := by
  have r2 : Vals (vs ++ dvs) (us ++ ds) := r.append hd
  have hl : (us ++ ds).length = ps.length := by rw [← r2.length]; exact F.len _ _ _ _ h
  refine wpAny_call (codeAny_mono (F.run X.A X.stack s H ⟨us, []⟩ (us ++ ds) (vs ++ dvs) Q E hr I.env0 (hb s us I.kIn hl) r2 h) fun r s' hq => ?_)
  cases r with
  | error e => exact hx pins σ H s e s' I hq
  | ok fl =>
    cases fl with
    | ret u => exact I.after hq
    | next => exact False.elim hq
    | brk => exact False.elim hq
    | cont => exact False.elim hq

theorem pe_call (F : FnOk X.prog X.w X.K X.mg X.base CX k f fd ps sp) (hr : Room k X.A) (hg : Gl X x) (hm : X.mg x = some (.ref f)) (hk : PySem.W.keepIn X.K (.ref f) = true) (hb : Binds X.K fd ps ds) (hd : Vals dvs ds) (hx : Passes CX X E)
    (ha : PA X (e :: es) t) (hdb : (x == ("__debug__" : Str)) = false := by decide) (he : starEach (e :: es) X.env = (false, eval e X.env) :: starEach es X.env := by rfl) (hpl : (backTo pos (starEach es X.env)).any (·.1) = false := by rfl) :
    PE X (.Call (.Name x p) (e :: es) [] pos) (tCall sp dvs E t) := by
  intro pins s σ H Q I h
  refine wpAny_Call_Name_kw (ld_glob I hg hm ?_ hdb)
  refine PySem.W.callWith_K (h₀ := X.base) I.ok.mod.kin hk (thn (ha pos pins s σ H _ I h) fun us s1 ⟨vs, H1, I1, r, q⟩ => ⟨I1.kIn, ?_⟩) he hpl
  exact run_fn F hr hb hd hx I1 r q
/-- what a class must have to be made -/
structure Mk (K : PySem.W.Frag) (C f : Addr) : Prop where
  makes : PySem.W.makesIn K C = true
  init : PySem.W.findIn K (.ref C) "__init__" = some (some (.ref f))
  fn : PySem.W.isFn K (.ref f) = true
  kp : PySem.W.keepIn K (.ref C) = true

end

/-! ### keywords -/
section
variable {X : Cx} {CX : CXT} {k : Nat} {f C : Addr} {fd : FuncData} {ps ks : List Str} {sp : Sp} {E : XK} {x m : Str} {p pos apos kpos : Pos} {e o : Expr} {es : List Expr} {kws : List Keyword} {te ta : TE} {t tk : TA} {nm : Option Str}
/-- how a call with keywords binds: g puts the positional values us and the keywords' values ws (names ks) in the parameters' order, defaults among them -/
structure KBinds (K : PySem.W.Frag) (fd : FuncData) (ps ks : List Str) (g : List Value → List Value → List Value) (gV : List V → List V → List V) : Prop where
  to : ∀ (s : Shared) (us ws : List Value), K.In s.heap → (g us ws).length = ps.length → BindsTo s fd ⟨us, ks.zip ws⟩ (ps.zip (g us ws))
  rel : ∀ {vs : List V} {us : List Value} {zs : List V} {ws : List Value}, Vals vs us → Vals zs ws → Vals (gV vs zs) (g us ws)
variable {g : List Value → List Value → List Value} {gV : List V → List V → List V}
end

/-! ### a def's body keeps its promise -/
/-- names: the parameters first -/
structure FnScope (N P : List Str) (sc : Scope) : Prop where
  kind : sc.kind = .function
  co : sc.isCoroutine = false
  gen : sc.isGenerator = false
  nd : N.Nodup
  pre : N.take P.length = P
  par : ∀ x ∈ P, sc.names.lookup x = some .local ∨ sc.names.lookup x = some .cell
  nofree : ∀ y ∈ sc.names, y.2 ≠ .free

theorem bindL_out {kindOf : Str → Option NameKind} {x : Str} : ∀ {binds : List (Str × Value)} {m : Str → Option Value}, (∀ v, (x, v) ∉ binds) → bindL kindOf binds m x = m x
  | [], _, _ => rfl
  | (n, v) :: r, m, h => by
    unfold bindL
    rw [bindL_out fun w hw => h w (List.mem_cons_of_mem _ hw)]
    split
    · have : x ≠ n := by rintro rfl; exact h v List.mem_cons_self
      simp [this]
    · rfl
theorem bindC_out {kindOf : Str → Option NameKind} {x : Str} : ∀ {binds : List (Str × Value)} {m : Str → Option Value}, (∀ v, (x, v) ∉ binds) → bindC kindOf binds m x = m x
  | [], _, _ => rfl
  | (n, v) :: r, m, h => by
    unfold bindC
    rw [bindC_out fun w hw => h w (List.mem_cons_of_mem _ hw)]
    split
    · rfl
    · have : x ≠ n := by rintro rfl; exact h v List.mem_cons_self
      simp [this]
theorem bindL_get {kindOf : Str → Option NameKind} {x : Str} {v : Value} : ∀ {P : List Str} {vs : List Value} {i : Nat} {m : Str → Option Value}, P.Nodup → P[i]? = some x → vs[i]? = some v → kindOf x = some .local →
    bindL kindOf (P.zip vs) m x = some v
  | [], _, _, _, _, h, _, _ => by simp at h
  | _ :: _, [], _, _, _, _, h, _ => by simp at h
  | p :: P, w :: vs, 0, m, nd, h1, h2, hk => by
    simp at h1 h2; subst h1; subst h2
    show bindL kindOf ((p, w) :: P.zip vs) m p = _
    unfold bindL
    rw [bindL_out fun v hv => (List.nodup_cons.mp nd).1 (List.of_mem_zip hv).1, if_pos hk]
    simp
  | p :: P, w :: vs, i + 1, m, nd, h1, h2, hk => by
    show bindL kindOf ((p, w) :: P.zip vs) m x = _
    unfold bindL
    exact bindL_get (i := i) (List.nodup_cons.mp nd).2 (by simpa using h1) (by simpa using h2) hk
theorem bindC_get {kindOf : Str → Option NameKind} {x : Str} {v : Value} : ∀ {P : List Str} {vs : List Value} {i : Nat} {m : Str → Option Value}, P.Nodup → P[i]? = some x → vs[i]? = some v → kindOf x ≠ some .local →
    bindC kindOf (P.zip vs) m x = some v
  | [], _, _, _, _, h, _, _ => by simp at h
  | _ :: _, [], _, _, _, _, h, _ => by simp at h
  | p :: P, w :: vs, 0, m, nd, h1, h2, hk => by
    simp at h1 h2; subst h1; subst h2
    show bindC kindOf ((p, w) :: P.zip vs) m p = _
    unfold bindC
    rw [bindC_out fun v hv => (List.nodup_cons.mp nd).1 (List.of_mem_zip hv).1, if_neg hk]
    simp
  | p :: P, w :: vs, i + 1, m, nd, h1, h2, hk => by
    show bindC kindOf ((p, w) :: P.zip vs) m x = _
    unfold bindC
    exact bindC_get (i := i) (List.nodup_cons.mp nd).2 (by simpa using h1) (by simpa using h2) hk

/-- the names' values at the entry -/
def start (N : List Str) (vs : List V) : St := vs.map some ++ List.replicate (N.length - vs.length) none

/-- the context of a def's body, at its entry; an exception leaves the frame, then lies as CX says -/
def cxOf (CX : CXT) (P : Program) (w : World) (K : PySem.W.Frag) (mg : Str → Option Value) (base : Heap) (N : List Str) (qual : Str) (scope : Scope) (f : Addr) (cd : Value) (A : Around) (outer : List Env) (s : Shared) (H : Hp) (E : XK) : Cx where
  prog := P
  w := w
  K := K
  mg := mg
  base := base
  A := A.deeper (envOfC qual scope s.heap.objs.size f cd)
  N := N
  s₀ := s
  H₀ := H
  env := envOfC qual scope s.heap.objs.size f cd
  outer := outer
  stack := envOfC qual scope s.heap.objs.size f cd :: outer
  ex := []
  calm := true
  fn := fun _ => true
  pn := []
  xe := fun e s' => wpAny (model P w) (A.deeper (envOfC qual scope s.heap.objs.size f cd)) (leaving (envOfC qual scope s.heap.objs.size f cd) e) (fun _ s'' => CX outer H s E e s'') (fun e' s'' => CX outer H s E e' s'') s'

theorem cell_has {sc : Scope} {n : Nat} {x : Str} (h : sc.names.lookup x = some .cell) : ∃ c, (cellsFrom n sc.names []).lookup x = some c := by
  have q := PySem.W.cellsFrom_some sc.names n [] (.inl h)
  exact Option.isSome_iff_exists.mp q

theorem inv_start {CX : CXT} {P : Program} {w : World} {K : PySem.W.Frag} {mg : Str → Option Value} {base : Heap} {N ps : List Str} {qual : Str} {scope : Scope} {f : Addr} {cd : Value} {A : Around} {outer : List Env} {s s1 : Shared} {H : Hp} {E : XK} {us : List Value} {vs : List V}
    (S : FnScope N ps scope) (hd : A.handled = none) (e0 : Env0 P w K mg base A outer s H) (hl : vs.length = ps.length) (r : Vals vs us)
    (x : InCallC s s.heap.objs.size (bindL (envOfC qual scope s.heap.objs.size f cd).kindOf (ps.zip us) fun _ => none) (cellsFrom (s.heap.objs.size + 1) scope.names []) (bindC (envOfC qual scope s.heap.objs.size f cd).kindOf (ps.zip us) fun _ => none) s1) :
    Inv (cxOf CX P w K mg base N qual scope f cd A outer s H E) [] (start N vs) H s1 := by
  have hpl : ps.length ≤ N.length := by have := congrArg List.length S.pre; rw [List.length_take] at this; omega
  obtain ⟨h1, tk, rfl, hk⟩ := x.done
  have noA : ∀ b : Addr, b ∉ (cxOf CX P w K mg base N qual scope f cd A outer s H E).ex := fun b z => absurd (show b ∈ ([] : List Addr) from z) (by simp)
  refine ⟨⟨e0.mod, S.kind, rfl, rfl, Nat.le_refl _, fun y z c h1 h2 => ?_, fun y hy => ?_, fun y c _ h => ?_, fun _ => hd, Around.frames_deeper e0.frames, .inr ⟨rfl, rfl⟩, fun b z => absurd z (noA b), e0.bs, e0.bsz, fun b _ _ => noA b, fun b z => absurd z (noA b), e0.funs, e0.frf⟩,
    rfl, e0.bare, Un.kept hk, ⟨_, x.toInCall.ns, fun i y v h1 h2 h3 => ?_⟩, fun y c h => ⟨_, x.cell y c h⟩, e0.hok.fresh (Nat.le_refl _), fun y c h => ?_, fun p hp => absurd (show p ∈ ([] : List (Addr × Obj)) from hp) (by simp), e0.hok.kept hk, ?_⟩
  · exact name_of_addr x.apart (PySem.mem_of_lookup h1) (PySem.mem_of_lookup h2)
  · have hy : scope.names.lookup y = some .cell ∨ scope.names.lookup y = some .free := hy
    rcases hy with hy | hy
    · exact cell_has hy
    · exact absurd rfl (S.nofree _ (PySem.mem_of_lookup hy))
  · exact Nat.le_of_lt (x.above y c (PySem.mem_of_lookup h))
  · have hi : i < vs.length := by
      unfold start at h2
      by_cases hi : i < vs.length
      · exact hi
      · rw [List.getElem?_append_right (by simpa using hi)] at h2
        rw [List.getElem?_replicate] at h2
        split at h2 <;> cases h2
    have ha : vs[i]? = some v := by
      unfold start at h2
      rw [List.getElem?_append_left (by simpa using hi), List.getElem?_map] at h2
      cases e : vs[i]? with
      | none => rw [e] at h2; cases h2
      | some a => rw [e] at h2; cases h2; rfl
    obtain ⟨u, hu, rv⟩ := r.get ha
    have hp : ps[i]? = some y := by
      rw [← S.pre, List.getElem?_take_of_lt (by omega)]; exact h1
    have ndP : ps.Nodup := by rw [← S.pre]; exact S.nd.sublist (List.take_sublist _ _)
    refine ⟨u, rv, ?_⟩
    rcases S.par y (List.mem_of_getElem? hp) with k | k
    · exact .inl ⟨k, bindL_get ndP hp hu k⟩
    · obtain ⟨c, e⟩ := cell_has (n := s.heap.objs.size + 1) k
      refine .inr ⟨.inl k, c, e, ?_⟩
      have q := x.cell y c e
      rw [bindC_get ndP hp hu (by show scope.names.lookup y ≠ _; rw [k]; decide)] at q
      exact q
  · exact e0.hok.fresh (Nat.le_of_lt (x.above y c (PySem.mem_of_lookup h)))
  · unfold start
    show _ = N.length
    rw [List.length_append, List.length_map, List.length_replicate]
    omega

/-- THE RULE: a def (or a method) of the text, by its body. The body's reading t is chosen for each entry; it is run at the parameters' values -/
theorem fn_of {CX : CXT} {P : Program} {w : World} {K : PySem.W.Frag} {mg : Str → Option Value} {base : Heap} {k : Nat} {f : Addr} {name qual : Str} {params : Arguments} {body : List Stmt} {scope : Scope} {dV kV doc pm cdv ct oc : Value} {an od : Option Addr}
    {osl : Array (Option Value)} {N ps : List Str} {sp : Sp} (lk : K.lookup f = some ⟨oc, od, .func (PySem.W.fnOf name qual params body scope dV kV doc pm an cdv ct), osl⟩) (hcd : PySem.W.codeIn K cdv qual = true) (S : FnScope N ps scope)
    (len : ∀ vs H Q E, sp vs H Q E → vs.length = ps.length)
    (hbody : ∀ (A : Around) (outer : List Env) (s : Shared) (H : Hp) (vs : List V) (Q : VK) (E : XK), Room k (A.deeper (envOfC qual scope s.heap.objs.size f cdv)) → sp vs H Q E →
      ∃ t, PSs (cxOf CX P w K mg base N qual scope f cdv A outer s H E) body t ∧ t { nx := fun _ H' => Q .non H', rt := Q } (start N vs) H) :
    FnOk P w K mg base CX (k + 1) f (PySem.W.fnOf name qual params body scope dV kV doc pm an cdv ct) ps sp := by
  refine ⟨len, fun A outer s H args us vs Q E hr e0 hb r hsp => ?_⟩
  have hl := len _ _ _ _ hsp
  have KX : K.In s.heap := e0.mod.kin.keeps fun b o e => (e0.bs b o e).1
  have lim : s.heap.NoLimit := e0.mod.nolimit.keeps fun b o e => (e0.bs b o e).1
  have hkind : ∀ y ∈ ps.zip us, scope.names.lookup y.1 = some .local ∨ (scope.names.lookup y.1 = some .cell ∧ ((cellsFrom (s.heap.objs.size + 1) scope.names []).lookup y.1).isSome = true) := fun ⟨n, v⟩ hy => by
    rcases S.par n (List.of_mem_zip hy).1 with q | q
    · exact .inl q
    · exact .inr ⟨q, PySem.W.cellsFrom_some _ _ _ (.inl q)⟩
  refine codeAny_call_function hr.depth (KX _ _ lk) rfl S.co S.gen rfl (PySem.W.codeRec_of KX hcd) (hb _ _ _ _ ?_)
  refine wpAny_newFunctionEnv_cells S.kind hkind fun env he s1 x => ?_
  subst he
  refine ⟨lim.keeps x.toInCall.keep, codeAny_func ?_⟩
  obtain ⟨t, ht, hq⟩ := hbody A outer s H vs Q E (hr.deeper _) hsp
  have I : Inv (cxOf CX P w K mg base N qual scope f cdv A outer s H E) [] (start N vs) H s1 := inv_start S hr.hd e0 hl r x
  refine wpAny_mono (ht [] s1 (start N vs) H _ I hq) (fun fl s' hs => ?_) fun e s' hs => hs
  have fin : ∀ {σ' : St} {H' : Hp} {v : V} {u : Value}, Inv (cxOf CX P w K mg base N qual scope f cdv A outer s H E) [] σ' H' s' → RelV v u → Q v H' → CE outer P w H s Q u s' :=
    fun {σ' H' v u} J rv q => ⟨v, H', J.os, J.bare, J.base, J.hok, rv, q⟩
  cases fl with
  | ret u =>
    obtain ⟨v, σ', H', J, rv, q⟩ := hs
    exact fin J rv q
  | next =>
    obtain ⟨σ', H', J, q⟩ := hs
    exact fin (v := V.non) (u := Value.none) J rfl q
  | brk =>
    obtain ⟨_, _, _, q⟩ := hs
    exact False.elim q
  | cont =>
    obtain ⟨_, _, _, q⟩ := hs
    exact False.elim q
end L2

namespace L2
open PySem PySem.Spec PyProof.Rows
section
variable {X : Cx} {x : Str} {p pos : Pos} {e : Expr} {es : List Expr} {t : TA} {id T : String} {r : List V → Hp → VK → Prop}

def tCB (r : List V → Hp → VK → Prop) (t : TA) : TE := fun σ H Q => t σ H fun vs H1 => r vs H1 Q
/-- f(e, ..), f a built-in function -/
theorem pe_callB (hc : CallR X (.builtin id) r) (hg : Gl X x) (hm : X.mg x = none) (hv : bootBuiltins x = some (.builtin id)) (ha : PA X (e :: es) t) (hn : x ≠ "__name__" := by decide) (hdb : (x == ("__debug__" : Str)) = false := by decide)
    (he : starEach (e :: es) X.env = (false, eval e X.env) :: starEach es X.env := by rfl) (hpl : (backTo pos (starEach es X.env)).any (·.1) = false := by rfl) : PE X (.Call (.Name x p) (e :: es) [] pos) (tCB r t) := by
  intro pins s σ H Q I h
  refine wpAny_Call_Name_kw (ld_blt I hg hm hv ?_ hn hdb)
  exact PyProof.Rows.callWith_builtin1 (thn (ha pos pins s σ H _ I h) fun us s1 ⟨vs, H1, I1, r1, q1⟩ => hc pins s1 σ H1 vs us Q I1 r1 q1) he hpl
/-- T(e, ..), T a built-in type -/
theorem pe_callTy (hc : CallR X (.type T) r) (hg : Gl X x) (hm : X.mg x = none) (hv : bootBuiltins x = some (.type T)) (ha : PA X (e :: es) t) (hn : x ≠ "__name__" := by decide) (hdb : (x == ("__debug__" : Str)) = false := by decide)
    (he : starEach (e :: es) X.env = (false, eval e X.env) :: starEach es X.env := by rfl) (hpl : (backTo pos (starEach es X.env)).any (·.1) = false := by rfl) : PE X (.Call (.Name x p) (e :: es) [] pos) (tCB r t) := by
  intro pins s σ H Q I h
  refine wpAny_Call_Name_kw (ld_blt I hg hm hv ?_ hn hdb)
  exact PyProof.Rows.callWith_type1 (thn (ha pos pins s σ H _ I h) fun us s1 ⟨vs, H1, I1, r1, q1⟩ => hc pins s1 σ H1 vs us Q I1 r1 q1) he hpl
end
end L2

namespace HT
open PySem PyProof.Rows

section
open PySem.SeqAt
open PySem.AutoSeq1 (wpAny_loadPart')
open PySem.MeetsSeq PySem.MeetsSeq2 PySem.MeetsSeq3

end

section
variable {prog : Program} {w : World} {A : Around} {E : Value → Shared → Prop} {s : Shared}

/-! ### t[a:b], not the whole -/
/-- a slice's bound as a place among n (d where it is left out) -/
def sIx (n d : Nat) : Option Int → Nat
  | none => d
  | some v => if v < 0 then (v + (n : Int)).toNat else min v.toNat n
theorem sIx_none (n d : Nat) : sIx n d none = d := rfl
theorem sIx_nat (n d k : Nat) : sIx n d (some (k : Int)) = min k n := by
  show (if (k : Int) < 0 then ((k : Int) + (n : Int)).toNat else min (k : Int).toNat n) = min k n
  rw [if_neg (by omega), Int.toNat_natCast]
theorem sIx_le (n d : Nat) (hd : d ≤ n) (o : Option Int) : sIx n d o ≤ n := by
  cases o with
  | none => exact hd
  | some v =>
    show (if v < 0 then (v + (n : Int)).toNat else min v.toNat n) ≤ n
    by_cases hv : v < 0
    · rw [if_pos hv]; omega
    · rw [if_neg hv]; exact Nat.min_le_right _ _
end
end HT

namespace L2
open PySem PySem.Spec PyProof.Rows

/-! ### the parts of a slice -/
abbrev TO := St → Hp → (Option Int → Hp → Prop) → Prop
/-- a slice's part (left out, or an int) -/
def PO (X : Cx) (e : Option Expr) (t : TO) : Prop :=
  ∀ (pins : List (Addr × Obj)) (s : Shared) (σ : St) (H : Hp) (Q : Option Int → Hp → Prop), Inv X pins σ H s → t σ H Q →
    wpAny (model X.prog X.w) X.A (evalPart e X.env) (fun u s' => ∃ o H', Inv X pins σ H' s' ∧ IsPart u o ∧ Q o H') X.xe s
def tNoPart : TO := fun _ H Q => Q none H
def tPart (t : TE) : TO := fun σ H Q => t σ H fun x H1 => ∃ i, x = .int i ∧ Q (some i) H1

theorem intsAre_of {ns : List Int} : ∀ {us : List Value}, Vals (ns.map V.int) us → IntsAre us ns := by
  induction ns with
  | nil => intro us r; rw [List.map_nil] at r; cases r; exact .nil
  | cons n ns ih =>
    intro us r
    rw [List.map_cons] at r
    cases r with
    | cons r1 r2 =>
      obtain ⟨t, e⟩ := r1
      subst e
      exact .cons n t (ih r2)

section
variable {X : Cx} {e : Expr} {te : TE} {lo hi : Option Expr} {tl th : TO} {pos p2 : Pos}

theorem po_none : PO X none tNoPart := by
  intro pins s σ H Q I h
  rw [evalPart_none]
  exact wpAny_pure ⟨none, H, I, .none, h⟩
theorem po_some (h : PE X e te) : PO X (some e) (tPart te) := by
  intro pins s σ H Q I hw
  rw [evalPart_some]
  refine thn (h pins s σ H _ I hw) fun u s1 ⟨x, H1, I1, r1, q1⟩ => ?_
  obtain ⟨i, rfl, q⟩ := q1
  obtain ⟨t, rfl⟩ := r1
  exact ⟨some i, H1, I1, .int i t, q⟩

/-- what a slice of a value is, by values: the slice object stands at sl -/
def SlR (X : Cx) (r : V → Option Int → Option Int → Hp → VK → Prop) : Prop :=
  ∀ (pins : List (Addr × Obj)) (s : Shared) (σ : St) (H : Hp) (x : V) (v vl vu : Value) (lo hi : Option Int) (sl : Addr) (Q : VK), Inv X pins σ H s → RelV x v → s.heap.IsSliceOf sl vl vu .none → IsPart vl lo → IsPart vu hi → r x lo hi H Q →
    ∃ T id, typeLookup (.type T) "__getitem__" = pure (some (.builtin id)) ∧ s.TypeIs v T ∧ wpAny (model X.prog X.w) X.A (getItem v (.ref sl)) (EP X pins σ Q) X.xe s
theorem SlR.or {r r' : V → Option Int → Option Int → Hp → VK → Prop} (h : SlR X r) (h' : SlR X r') : SlR X (fun x lo hi H Q => r x lo hi H Q ∨ r' x lo hi H Q) := by
  intro pins s σ H x v vl vu lo hi sl Q I rx hs pl pu q
  rcases q with q | q
  · exact h pins s σ H x v vl vu lo hi sl Q I rx hs pl pu q
  · exact h' pins s σ H x v vl vu lo hi sl Q I rx hs pl pu q
def tSl (r : V → Option Int → Option Int → Hp → VK → Prop) (te : TE) (tl th : TO) : TE := fun σ H Q => te σ H fun x H1 => tl σ H1 fun l H2 => th σ H2 fun u H3 => r x l u H3 Q
/-- a[lo:hi], any a -/
theorem pe_slice {r : V → Option Int → Option Int → Hp → VK → Prop} (hr : SlR X r) (he : PE X e te) (hl : PO X lo tl) (hu : PO X hi th) : PE X (.Subscript e (.Slice lo hi none p2) pos) (tSl r te tl th) := by
  intro pins s σ H Q I h
  refine Subscript_ (thn (he pins s σ H _ I h) fun v s1 ⟨x, H1, I1, r1, q1⟩ => ?_)
  refine wpAny_Slice (thn (hl pins s1 σ H1 _ I1 q1) fun vl s2 ⟨l, H2, I2, pl, q2⟩ => thn (hu pins s2 σ H2 _ I2 q2) fun vu s3 ⟨u, H3, I3, pu, q3⟩ => ?_)
  rw [evalPart_none]
  refine wpAny_pure ?_
  have I4 : Inv X pins σ H3 { s3 with heap := s3.heap.push { cls := .type "slice", data := .fields #[vl, vu, .none] } } := I3.kept (t' := s3.toks) fun b ob q => Heap.get?_push_of_some _ q
  obtain ⟨T, id, hT, ht, hg⟩ := hr pins { s3 with heap := s3.heap.push { cls := .type "slice", data := .fields #[vl, vu, .none] } } σ H3 x v vl vu l u s3.heap.objs.size Q I4 r1 (Heap.IsSliceOf.new ..) pl pu q3
  show wpAny (model X.prog X.w) X.A (subscriptTail e (.Slice lo hi none p2) v (.ref s3.heap.objs.size)) (EP X pins σ Q) X.xe { s3 with heap := s3.heap.push { cls := .type "slice", data := .fields #[vl, vu, .none] } }
  exact tail_any (ops := [.ref s3.heap.objs.size, v]) ht hT hg (by with_unfolding_all rfl)

/-- the items of xs[lo:hi] -/
def cutV (xs : List V) (lo hi : Option Int) : List V := (xs.drop (HT.sIx xs.length 0 lo)).take (HT.sIx xs.length xs.length hi - HT.sIx xs.length 0 lo)
theorem cutV_length (xs : List V) (lo hi : Option Int) : (cutV xs lo hi).length ≤ xs.length := by
  unfold cutV
  rw [List.length_take, List.length_drop]
  omega
/-! ### t < u, t + u -/
end
end L2

namespace L2
open PySem PySem.Spec PyProof.Rows

/-! ### places -/
/-- the place that an index of any sign means -/
def ixN (n : Nat) (i : Int) : Option Nat := if 0 ≤ i then (if i < n then some i.toNat else none) else if -(n : Int) ≤ i then some (i + n).toNat else none
def atI {α : Type} (xs : List α) (i : Int) : Option α := (ixN xs.length i).bind fun j => xs[j]?
theorem ixN_seq {n : Nat} {i : Int} {j : Nat} (h : ixN n i = some j) : seqIndex? i n = some j ∧ j < n ∧ -(n : Int) ≤ i ∧ i < n := by
  unfold ixN at h
  by_cases h0 : 0 ≤ i
  · rw [if_pos h0] at h
    by_cases h1 : i < n
    · rw [if_pos h1] at h
      have e : i.toNat = j := Option.some.inj h
      exact ⟨by rw [seqIndex_of h0 h1, e], by omega, by omega, h1⟩
    · rw [if_neg h1] at h; cases h
  · rw [if_neg h0] at h
    by_cases h1 : -(n : Int) ≤ i
    · rw [if_pos h1] at h
      have e : (i + n).toNat = j := Option.some.inj h
      exact ⟨by rw [seqIndex_neg (by omega) h1, e], by omega, h1, by omega⟩
    · rw [if_neg h1] at h; cases h
theorem atI_get {α : Type} {xs : List α} {i : Int} {v : α} (h : atI xs i = some v) : ∃ j, seqIndex? i xs.length = some j ∧ xs[j]? = some v ∧ j < xs.length ∧ -(xs.length : Int) ≤ i ∧ i < xs.length := by
  unfold atI at h
  cases e : ixN xs.length i with
  | none => rw [e] at h; cases h
  | some j =>
    rw [e] at h
    obtain ⟨h1, h2, h3, h4⟩ := ixN_seq e
    exact ⟨j, h1, h, h2, h3, h4⟩
theorem atI_nat {α : Type} {xs : List α} {j : Nat} {v : α} (h : xs[j]? = some v) : atI xs (j : Int) = some v := by
  have hj : j < xs.length := (List.getElem?_eq_some_iff.mp h).1
  have e : ixN xs.length (j : Int) = some j := by
    unfold ixN
    rw [if_pos (by omega), if_pos (by omega)]; simp
  unfold atI; rw [e]; exact h
theorem atI_last {α : Type} (xs : List α) (v : α) : atI (xs ++ [v]) (-1) = some v := by
  have hl : (xs ++ [v]).length = xs.length + 1 := by simp
  have e : ixN (xs ++ [v]).length (-1) = some xs.length := by
    unfold ixN
    rw [hl, if_neg (by decide), if_pos (by omega)]
    congr 1
    omega
  unfold atI
  rw [e]
  show (xs ++ [v])[xs.length]? = some v
  simp

/-! ### what may be subscripted -/
/-- what stands as an index of a plain subscript -/
def PlainIx (b : Expr) : Prop := ∀ o i, subscripted b false o i = operate [o, i] (getItem o i)
/-- a subscript by values -/
def IxR (X : Cx) (r : R2) : Prop :=
  ∀ (value slice : Expr) (pins : List (Addr × Obj)) (s : Shared) (σ : St) (H : Hp) (x y : V) (v u : Value) (Q : VK), Inv X pins σ H s → RelV x v → RelV y u → r x y H Q →
    subscripted slice false v u = operate [v, u] (getItem v u) → wpAny (model X.prog X.w) X.A (subscriptTail value slice v u) (EP X pins σ Q) X.xe s
/-- a call of a builtin's method by values: the receiver, the arguments -/
def MtR (X : Cx) (id : String) (r : V → List V → Hp → VK → Prop) : Prop :=
  ∀ (pins : List (Addr × Obj)) (s : Shared) (σ : St) (H : Hp) (x : V) (xs : List V) (v : Value) (us : List Value) (Q : VK), Inv X pins σ H s → RelV x v → Vals xs us → r x xs H Q →
    wpAny (model X.prog X.w) X.A (call (.builtin id) (v :: us)) (EP X pins σ Q) X.xe s
section
variable {X : Cx} {a b : Expr} {ta tb : TE} {pos : Pos}
theorem IxR.or {r r' : R2} (h : IxR X r) (h' : IxR X r') : IxR X (fun x y H Q => r x y H Q ∨ r' x y H Q) := by
  intro value slice pins s σ H x y v u Q I rx ry q hs
  rcases q with q | q
  · exact h value slice pins s σ H x y v u Q I rx ry q hs
  · exact h' value slice pins s σ H x y v u Q I rx ry q hs
theorem MtR.or {id : String} {r r' : V → List V → Hp → VK → Prop} (h : MtR X id r) (h' : MtR X id r') : MtR X id (fun x xs H Q => r x xs H Q ∨ r' x xs H Q) := by
  intro pins s σ H x xs v us Q I rx rs q
  rcases q with q | q
  · exact h pins s σ H x xs v us Q I rx rs q
  · exact h' pins s σ H x xs v us Q I rx rs q
/-- a[b] -/
theorem pe_ix {r : R2} (hr : IxR X r) (ha : PE X a ta) (hb : PE X b tb) (hs : PlainIx b) : PE X (.Subscript a b pos) (tOp r ta tb) := by
  intro pins s σ H Q I h
  exact Subscript_ (binT ha hb I h fun v u s2 x y H2 I2 rx ry q => hr a b pins s2 σ H2 x y v u Q I2 rx ry q (hs _ _))

def rIxL (K : PySem.W.Frag) : R2 := fun x y H Q => ∃ p xs i v, x = .ref p ∧ y = .int i ∧ SqL K H p xs ∧ atI xs i = some v ∧ Q v H
def rIxS : R2 := fun x y H Q => ∃ z i c, x = .str z ∧ y = .int i ∧ z.length ≤ sizeLine ∧ atI z.cps.toList i = some c ∧ Q (.str ⟨#[c]⟩) H
theorem ix_list : IxR X (rIxL X.K) := by
  intro value slice pins s σ H x y v u Q I rx ry h hs
  obtain ⟨p, xs, i, z, rfl, rfl, hq, he, q⟩ := h
  cases rx
  obtain ⟨t, rfl⟩ := ry
  obtain ⟨its, r, pl, hz⟩ := I.list hq
  obtain ⟨j, h1, h2, h3, h4, h5⟩ := atI_get he
  obtain ⟨w, ew, rw'⟩ := r.get h2
  have hl := r.length
  have hn := line63
  have fin : EP X pins σ Q w s := ⟨z, H, I, rw', q⟩
  by_cases h0 : 0 ≤ i
  · have hj : i.toNat = j := by
      rw [seqIndex_of h0 h5] at h1
      exact Option.some.inj h1
    exact item_listR pl.isList h0 (by omega) (by rw [hj]; simpa using ew) fin hs
  · have hj : (i + (its.toArray.size : Int)).toNat = j := by
      rw [seqIndex_neg (by omega) h4] at h1
      rw [List.size_toArray, ← hl]
      exact Option.some.inj h1
    exact subscriptTail_builtinR (x := w) pl.isList.typeIs slot_list_getitem.lookup
      (wpAny_getItem_list_neg (Q := fun r s' => r = w ∧ EP X pins σ Q r s') pl.isList (by omega) (by rw [List.size_toArray] <;> omega) (by omega) (by rw [hj]; simpa using ew) ⟨rfl, fin⟩) hs
theorem ix_str : IxR X rIxS := by
  intro value slice pins s σ H x y v u Q I rx ry h hs
  obtain ⟨z, i, c, rfl, rfl, hz, he, q⟩ := h
  obtain ⟨t, rfl⟩ := rx
  obtain ⟨t', rfl⟩ := ry
  obtain ⟨j, h1, h2, h3, h4, h5⟩ := atI_get he
  have hl : z.cps.toList.length = z.length := by simp [Str.length]
  rw [hl] at h1 h4 h5
  have hn := line63
  exact tail_any (typeIs_str s z t) slot_str_getitem.lookup (getItem_str (c := c) (by
    have e1 : decide (i < -(2 ^ 63 : Int)) = false := decide_eq_false (by omega)
    have e2 : decide (i ≥ 2 ^ 63) = false := decide_eq_false (by omega)
    rw [e1, e2, Bool.or_false]) (by rw [h1]; simpa using h2) ⟨.str ⟨#[c]⟩, H, I.tok _, ⟨_, rfl⟩, q⟩) hs
/-! ### xs[i] = v, any sign -/
/-- the list's object behind a store -/
theorem mapSeq_set (its : List Value) (n j : Nat) (u : Value) : Obj.mapSeq (·.setIfInBounds j u) { cls := .type "list", data := .seq its.toArray n } = { cls := .type "list", data := .seq (its.set j u).toArray n } := by
  simp [Obj.mapSeq]
theorem Inv.lst {pins : List (Addr × Obj)} {σ : St} {H : Hp} {s : Shared} {p : Addr} {xs : List V} (I : Inv X pins σ H s) (h : H p = some (.lst xs)) :
    ∃ (its : List Value) (n : Nat), Vals xs its ∧ s.heap.get? p = some { cls := .type "list", data := .seq its.toArray n } ∧ xs.length ≤ sizeLine := by
  obtain ⟨z, its, n, r, e⟩ := I.hok p _ h
  exact ⟨its, n, r, e, z⟩
/-- the list at p is written by an update of its object -/
theorem Inv.lstUpd {pins : List (Addr × Obj)} {σ : St} {H : Hp} {s : Shared} {p : Addr} {xs ys : List V} {its its' : List Value} {n n' : Nat} {f : Obj → Obj} (I : Inv X pins σ H s) (h : H p = some (.lst xs))
    (ho : s.heap.get? p = some { cls := .type "list", data := .seq its.toArray n }) (hf : f { cls := .type "list", data := .seq its.toArray n } = { cls := .type "list", data := .seq its'.toArray n' }) (r : Vals ys its') (hz : ys.length ≤ sizeLine) (t : Nat) :
    Inv X pins σ (upd H p (.lst ys)) { s with heap := s.heap.update p f, toks := t } := by
  have e : (s.heap.update p f).get? p = some { cls := .type "list", data := .seq its'.toArray n' } := by
    rw [Heap.get?_update_self f ho (by rw [hf] <;> rfl), hf]
  refine I.write (x := p) (e := p) (by rw [h]; trivial) (.inl rfl) (fun b u hb q => (Heap.get?_update_other _ _ (Ne.symm hb)).trans q) ⟨_, e⟩ ?_
  exact ⟨hz, its', n', r, e⟩
def rSetL : V → V → V → Hp → (Hp → Prop) → Prop := fun o i v H Q => ∃ p xs k j, o = .ref p ∧ i = .int k ∧ H p = some (.lst xs) ∧ ixN xs.length k = some j ∧ Q (upd H p (.lst (xs.set j v)))
theorem set_list : PSet X rSetL := by
  intro pins s σ H o i v ov iv u Q I ro ri rv h
  obtain ⟨p, xs, k, j, rfl, rfl, hp, hj, q⟩ := h
  cases ro
  obtain ⟨t, rfl⟩ := ri
  obtain ⟨its, n, r, ho, hz⟩ := I.lst hp
  obtain ⟨h1, h2, h3, h4⟩ := ixN_seq hj
  have hl := r.length
  have hn := line63
  have I' : Inv X pins σ (upd H p (.lst (xs.set j v))) { s with heap := s.heap.update p (Obj.mapSeq (·.setIfInBounds j u)) } :=
    I.lstUpd hp ho (mapSeq_set its n j u) (r.set rv j) (by rw [List.length_set]; exact hz) s.toks
  by_cases h0 : 0 ≤ k
  · have hk : k.toNat = j := by
      rw [seqIndex_of h0 h4] at h1
      exact Option.some.inj h1
    exact PySem.W.ki_setAt ho h0 (by omega) (by rw [List.size_toArray, ← hl]; exact h4) (by rw [hk]; exact ⟨_, I', q⟩)
  · have hk : (k + (its.toArray.size : Int)).toNat = j := by
      rw [seqIndex_neg (by omega) h3] at h1
      rw [List.size_toArray, ← hl]
      exact Option.some.inj h1
    exact PySem.W.ki_setBack ho (by omega) (by rw [List.size_toArray, ← hl]; exact h3) (by omega) (by rw [hk]; exact ⟨_, I', q⟩)

/-! ### slices -/
theorem slice_bounds (lo hi : Option Int) (n : Nat) : (sliceBounds lo hi none n).1 = ((HT.sIx n 0 lo : Nat) : Int) ∧ (sliceBounds lo hi none n).2.1 = ((HT.sIx n n hi : Nat) : Int) ∧ (sliceBounds lo hi none n).2.2 = 1 := by
  refine ⟨?_, ?_, rfl⟩
  · cases lo with
    | none => simp [sliceBounds, HT.sIx]
    | some i =>
      simp only [sliceBounds, HT.sIx, Option.getD_none, show (1 : Int) > 0 by decide, if_true]
      by_cases h : i < 0
      · simp only [h, if_true] <;> omega
      · simp only [h, if_false] <;> omega
  · cases hi with
    | none => simp [sliceBounds, HT.sIx]
    | some i =>
      simp only [sliceBounds, HT.sIx, Option.getD_none, show (1 : Int) > 0 by decide, if_true]
      by_cases h : i < 0
      · simp only [h, if_true] <;> omega
      · simp only [h, if_false] <;> omega
theorem slicePick_cut (its : List Value) (lo hi : Option Int) : slicePick its.toArray lo hi none = ((its.drop (HT.sIx its.length 0 lo)).take (HT.sIx its.length its.length hi - HT.sIx its.length 0 lo)).toArray := by
  obtain ⟨h1, h2, h3⟩ := slice_bounds lo hi its.toArray.size
  unfold slicePick
  rw [h1, h2, h3]
  simp only [sliceRange_one, pick_run, List.size_toArray] <;> rfl
/-- xs[lo:hi] of a list: a new list -/
def rSlL (K : PySem.W.Frag) : V → Option Int → Option Int → Hp → VK → Prop := fun x lo hi H Q => ∃ a xs, x = .ref a ∧ SqL K H a xs ∧ ∀ p, H p = none → Q (.ref p) (upd H p (.lst (cutV xs lo hi)))
theorem sl_list : SlR X (rSlL X.K) := by
  intro pins s σ H x v vl vu lo hi sl Q I rx hs pl pu h
  obtain ⟨a, xs, rfl, hx, q⟩ := h
  cases rx
  obtain ⟨its, r, ht, hz⟩ := I.list hx
  have hlen := r.length
  refine ⟨"list", _, slot_list_getitem.lookup, ht.isList.typeIs, ?_⟩
  refine wpAny_getItem_list_slice ht.isList hs pl pu .none (by simp) ?_ (by rw [List.size_toArray] <;> omega)
  rw [slicePick_cut, ← hlen]
  refine ⟨.ref s.heap.objs.size, _, I.laid (t' := s.toks) (o := .lst (cutV xs lo hi)) (fun b ob q => Heap.get?_push_of_some _ q) (Nat.le_refl _) ?_, rfl, q _ (I.hok.fresh (Nat.le_refl _))⟩
  exact ⟨Nat.le_trans (cutV_length xs lo hi) hz, _, 0, (r.drop (HT.sIx xs.length 0 lo)).take (HT.sIx xs.length xs.length hi - HT.sIx xs.length 0 lo), Heap.get?_push_size _ rfl⟩

/-! ### in, not in: flat items -/
def flatV : V → Bool
  | .non => true
  | .bl _ => true
  | .int _ => true
  | .str _ => true
  | _ => false
/-- == of flat values -/
def eqV : V → V → Bool
  | .non, .non => true
  | .bl a, .bl b => a == b
  | .bl a, .int b => (if a then 1 else 0) == b
  | .int a, .bl b => a == (if b then 1 else 0)
  | .int a, .int b => a == b
  | .str a, .str b => a == b
  | _, _ => false
theorem eqAt_V {A : Around} {s : Shared} {y x : V} {u v : Value} (ry : RelV y u) (rx : RelV x v) (fy : flatV y = true) (fx : flatV x = true) : SeqAt.EqAt A s u v (eqV y x) := by
  cases y with
  | non =>
    cases ry
    cases x with
    | non => cases rx; exact SeqAt.EqAt.same _
    | bl b => cases rx; exact SeqAt.EqAt.none_bool b
    | int b => obtain ⟨t, rfl⟩ := rx; exact SeqAt.EqAt.none_int b t
    | str b => obtain ⟨t, rfl⟩ := rx; exact SeqAt.EqAt.none_str b t
    | _ => exact absurd (show false = true from fx) Bool.false_ne_true
  | bl a =>
    cases ry
    cases x with
    | non => cases rx; exact SeqAt.EqAt.bool_none a
    | bl b => cases rx; exact SeqAt.EqAt.bool_bool a b
    | int b => obtain ⟨t, rfl⟩ := rx; exact SeqAt.EqAt.bool_int a b t
    | str b => obtain ⟨t, rfl⟩ := rx; exact SeqAt.EqAt.bool_str a b t
    | _ => exact absurd (show false = true from fx) Bool.false_ne_true
  | int a =>
    obtain ⟨t', rfl⟩ := ry
    cases x with
    | non => cases rx; exact SeqAt.EqAt.int_none a t'
    | bl b => cases rx; exact SeqAt.EqAt.int_bool a t' b
    | int b => obtain ⟨t, rfl⟩ := rx; exact SeqAt.EqAt.int_int a t' b t
    | str b => obtain ⟨t, rfl⟩ := rx; exact SeqAt.EqAt.int_str a t' b t
    | _ => exact absurd (show false = true from fx) Bool.false_ne_true
  | str a =>
    obtain ⟨t', rfl⟩ := ry
    cases x with
    | non => cases rx; exact SeqAt.EqAt.str_none a t'
    | bl b => cases rx; exact SeqAt.EqAt.str_bool a t' b
    | int b => obtain ⟨t, rfl⟩ := rx; exact SeqAt.EqAt.str_int a t' b t
    | str b => obtain ⟨t, rfl⟩ := rx; exact SeqAt.EqAt.str_str a t' b t
    | _ => exact absurd (show false = true from fx) Bool.false_ne_true
  | _ => exact absurd (show false = true from fy) Bool.false_ne_true
/-- the items' answers, read off the values (a value's own answer does not lean on its token) -/
def eqU (x : V) (u : Value) : Bool := match u with
  | .none => eqV .non x
  | .bool b => eqV (.bl b) x
  | .int i _ => eqV (.int i) x
  | .str z _ => eqV (.str z) x
  | _ => false
theorem eqU_of {x y : V} {u : Value} (r : RelV y u) (f : flatV y = true) : eqU x u = eqV y x := by
  cases y with
  | non => cases r; rfl
  | bl b => cases r; rfl
  | int i => obtain ⟨t, rfl⟩ := r; rfl
  | str z => obtain ⟨t, rfl⟩ := r; rfl
  | _ => exact absurd (show false = true from f) Bool.false_ne_true
theorem any_eqU {x : V} : ∀ {xs : List V} {us : List Value}, Vals xs us → xs.all flatV = true → us.any (eqU x) = xs.any fun y => eqV y x
  | _, _, .nil, _ => rfl
  | y :: xs, u :: us, .cons r t, f => by
    rw [List.all_cons, Bool.and_eq_true] at f
    rw [List.any_cons, List.any_cons, eqU_of r f.1, any_eqU t f.2]
theorem mem_eqAt {A : Around} {s : Shared} {x : V} {v : Value} (rx : RelV x v) (fx : flatV x = true) : ∀ {xs : List V} {us : List Value}, Vals xs us → xs.all flatV = true → ∀ u ∈ us, SeqAt.EqAt A s u v (eqU x u)
  | _, _, .nil, _ => fun u hu => by cases hu
  | y :: xs, u :: us, .cons r t, f => fun u' hu => by
    rw [List.all_cons, Bool.and_eq_true] at f
    rcases List.mem_cons.mp hu with rfl | hu
    · rw [eqU_of r f.1]; exact eqAt_V r rx f.1 fx
    · exact mem_eqAt rx fx t f.2 u' hu
def inV (x : V) (xs : List V) : Bool := xs.any fun y => eqV y x
/-- x in a list or tuple of flat items -/
def rIn (K : PySem.W.Frag) (neg : Bool) : R2 := fun x y H Q => ∃ p xs, y = .ref p ∧ (SqL K H p xs ∨ SqT K H p xs) ∧ flatV x = true ∧ xs.all flatV = true ∧ Q (.bl (if neg then !inV x xs else inV x xs)) H
theorem op_in_seq : OpR X (compareOp .In) (rIn X.K false) := by
  intro pins s σ H x y v u Q I rx ry h
  obtain ⟨p, xs, rfl, hq, fx, fs, q⟩ := h
  cases ry
  rcases hq with hq | hq
  · obtain ⟨its, r, pl, hz⟩ := I.list hq
    refine SeqAt.in_listAt (eqU x) pl.isList (fun w hw => mem_eqAt rx fx r fs w (by simpa using hw)) ⟨.bl _, H, I, rfl, ?_⟩
    rw [show its.toArray.any (eqU x) = its.any (eqU x) by simp, any_eqU r fs]
    exact q
  · obtain ⟨its, r, pl, hz⟩ := I.tuple hq
    refine SeqAt.in_tupleAt (eqU x) pl (fun w hw => mem_eqAt rx fx r fs w (by simpa using hw)) ⟨.bl _, H, I, rfl, ?_⟩
    rw [show its.toArray.any (eqU x) = its.any (eqU x) by simp, any_eqU r fs]
    exact q
/-! ### len, list(x), tuple(x) of any list or tuple that is read -/
theorem call_len_seq : CallR X (.builtin "len") (fun xs H Q => ∃ p ys, xs = [.ref p] ∧ (SqL X.K H p ys ∨ SqT X.K H p ys) ∧ Q (.int ys.length) H) := by
  intro pins s σ H xs us Q I r h
  obtain ⟨p, ys, rfl, hq, q⟩ := h
  obtain ⟨u, rfl, rx⟩ := vals1 r
  cases rx
  have hn := line63
  rcases hq with hq | hq
  · obtain ⟨its, r', pl, hz⟩ := I.list hq
    have hlen := r'.length
    exact Calls.call_len_list pl.isList (by simp only [List.size_toArray] <;> omega) ⟨.int ys.length, H, I.tok _, ⟨s.toks + 1, by rw [List.size_toArray, hlen]⟩, q⟩
  · obtain ⟨its, r', pl, hz⟩ := I.tuple hq
    have hlen := r'.length
    exact len_tuple pl (by simp only [List.size_toArray] <;> omega) ⟨.int ys.length, H, I.tok _, ⟨s.toks + 1, by rw [List.size_toArray, hlen]⟩, q⟩
theorem call_len_str : CallR X (.builtin "len") (fun xs H Q => ∃ z, xs = [.str z] ∧ z.length ≤ sizeLine ∧ Q (.int z.length) H) := by
  intro pins s σ H xs us Q I r h
  obtain ⟨z, rfl, hz, q⟩ := h
  obtain ⟨u, rfl, t, rfl⟩ := vals1 r
  have hn := line63
  exact len_str (by omega) ⟨.int z.length, H, I.tok _, ⟨_, rfl⟩, q⟩
theorem CallR.or {f : Value} {r r' : List V → Hp → VK → Prop} (h : CallR X f r) (h' : CallR X f r') : CallR X f (fun xs H Q => r xs H Q ∨ r' xs H Q) := by
  intro pins s σ H xs us Q I rs q
  rcases q with q | q
  · exact h pins s σ H xs us Q I rs q
  · exact h' pins s σ H xs us Q I rs q
theorem call_list_of : CallR X (.type "list") (fun xs H Q => ∃ p ys, xs = [.ref p] ∧ (SqL X.K H p ys ∨ SqT X.K H p ys) ∧ ∀ l, H l = none → Q (.ref l) (upd H l (.lst ys))) := by
  intro pins s σ H xs us Q I r h
  obtain ⟨p, ys, rfl, hq, q⟩ := h
  obtain ⟨u, rfl, rx⟩ := vals1 r
  cases rx
  have fin : ∀ (its : List Value), Vals ys its → ys.length ≤ sizeLine → ∀ (h' : Heap) (c' : Nat), (∀ b o', s.heap.get? b = some o' → h'.get? b = some o') →
      h'.get? s.heap.objs.size = some { cls := .type "list", dict := none, data := .seq its.toArray c', slots := #[] } → EP X pins σ Q (.ref s.heap.objs.size) { s with heap := h' } := fun its r' hz h' c' kp e =>
    ⟨.ref s.heap.objs.size, _, I.laid (t' := s.toks) kp (Nat.le_refl _) (show ObjOk X.prog X.w _ h' _ (.lst ys) from ⟨hz, its, c', r', e⟩), rfl, q _ (I.hok.fresh (Nat.le_refl _))⟩
  rcases hq with hq | hq
  · obtain ⟨its, r', pl, hz⟩ := I.list hq
    have hlen := r'.length
    obtain ⟨o, ho, hc, n, hd⟩ := pl.isList
    exact call_list_seq p (.inl rfl) ho hc hd (fun h' c' kp e => fin its r' hz h' c' kp e) (by simp only [List.size_toArray] <;> omega)
  · obtain ⟨its, r', pl, hz⟩ := I.tuple hq
    have hlen := r'.length
    obtain ⟨o, ho, hc, n, hd⟩ := pl
    exact call_list_seq p (.inr rfl) ho hc hd (fun h' c' kp e => fin its r' hz h' c' kp e) (by simp only [List.size_toArray] <;> omega)
/-! ### the call of a builtin's method: o.m(..) -/
/-- the value is of that builtin type -/
def tyV (K : PySem.W.Frag) (T : String) (x : V) (H : Hp) : Prop := match x with
  | .str _ => T = "str"
  | .int _ => T = "int"
  | .ref p => (T = "list" ∧ ∃ xs, SqL K H p xs) ∨ (T = "tuple" ∧ ∃ o, K.lookup p = some o ∧ o.cls = .type "tuple" ∧ o.dict = none) ∨
      (T = "dict" ∧ ((∃ kvs, H p = some (.dK kvs)) ∨ ∃ kvs, H p = some (.dT kvs))) ∨ (T = "set" ∧ ∃ S n, H p = some (.set S n))
  | _ => False
theorem tyV_is {pins : List (Addr × Obj)} {σ : St} {H : Hp} {s : Shared} {T : String} {x : V} {v : Value} (I : Inv X pins σ H s) (r : RelV x v) (ty : tyV X.K T x H) :
    s.TypeIs v T ∧ ∀ a, v = .ref a → ∃ ob, s.heap.get? a = some ob ∧ ob.dict = none := by
  cases x with
  | str z =>
    obtain ⟨t, rfl⟩ := r
    cases (show T = "str" from ty)
    exact ⟨typeIs_str s z t, fun _ e => nomatch e⟩
  | int i =>
    obtain ⟨t, rfl⟩ := r
    cases (show T = "int" from ty)
    exact ⟨typeIs_int s i t, fun _ e => nomatch e⟩
  | ref p =>
    cases r
    rcases ty with ⟨rfl, xs, hq⟩ | ⟨rfl, o, hk, hc, hd⟩ | ⟨rfl, hk⟩ | ⟨rfl, S, n, hk⟩
    · obtain ⟨its, _, pl, _⟩ := I.list hq
      refine ⟨pl.isList.typeIs, fun a e => ?_⟩
      cases e
      obtain ⟨o, n, e, c, hd, _⟩ := pl
      exact ⟨o, e, hd⟩
    · refine ⟨⟨o, I.kIn p o hk, hc⟩, fun a e => ?_⟩
      cases e
      exact ⟨o, I.kIn _ o hk, hd⟩
    · have z : ∃ o, s.heap.get? p = some o ∧ o.ExactDict := by
        rcases hk with ⟨kvs, hk⟩ | ⟨kvs, hk⟩
        · obtain ⟨_, _, _, _, o, _, _, e, ex, _⟩ := I.hok p _ hk
          exact ⟨o, e, ex⟩
        · obtain ⟨_, _, _, _, o, _, _, e, ex, _⟩ := I.hok p _ hk
          exact ⟨o, e, ex⟩
      obtain ⟨o, e, ex⟩ := z
      refine ⟨⟨o, e, ex.1⟩, fun a e2 => ?_⟩
      cases e2
      exact ⟨o, e, ex.2.1⟩
    · obtain ⟨o, _, _, _, e, ex, _⟩ := I.hok p _ hk
      refine ⟨⟨o, e, ex.1⟩, fun a e2 => ?_⟩
      cases e2
      exact ⟨o, e, ex.2.1⟩
  | _ => exact False.elim ty
def tBM0 (K : PySem.W.Frag) (T : String) (r : V → List V → Hp → VK → Prop) (to : TE) : TE := fun σ H Q => to σ H fun x H1 => tyV K T x H1 ∧ r x [] H1 Q
def tBM (K : PySem.W.Frag) (T : String) (r : V → List V → Hp → VK → Prop) (to : TE) (t : TA) : TE := fun σ H Q => to σ H fun x H1 => tyV K T x H1 ∧ t σ H1 fun xs H2 => r x xs H2 Q
variable {o e : Expr} {es : List Expr} {to : TE} {t : TA} {name : Str} {apos cpos : Pos} {T id : String} {r : V → List V → Hp → VK → Prop}
theorem pe_bm0 (pa : PlainAttrs T) (slot : Slot T name id) (hty : typeOf (.builtin id) = pure (.type "method_descriptor")) (hm : MtR X id r) (ho : PE X o to)
    (hbase : attributeBase o name X.env (eval o X.env) = eval o X.env := by rfl) (hline : (apos.endLine == cpos.line) = true := by rfl) : PE X (.Call (.Attribute o name apos) [] [] cpos) (tBM0 X.K T r to) := by
  intro pins s σ H Q I h
  refine wpAny_Call_method0_late hbase hline (thn (ho pins s σ H _ I h) fun v s1 ⟨x, H1, I1, r1, ty, q1⟩ => ?_)
  obtain ⟨h1, h2⟩ := tyV_is I1 r1 ty
  exact ⟨T, id, pa, slot, hty, h1, h2, Calls.callWith_builtin rfl (PySem.evalArgs_none (hm pins s1 σ H1 x [] v [] Q I1 r1 .nil q1))⟩
theorem pe_bm (pa : PlainAttrs T) (slot : Slot T name id) (hty : typeOf (.builtin id) = pure (.type "method_descriptor")) (hm : MtR X id r) (ho : PE X o to) (ha : PA X (e :: es) t)
    (hbase : attributeBase o name X.env (eval o X.env) = eval o X.env := by rfl)
    (hfew : ((backTo cpos (starEach (e :: es) X.env)).all (fun x => !x.1) && (backToKw cpos (keywordEach [] X.env)).all (fun x => x.1.isSome)
      && decide ((e :: es).length + ([] : List Keyword).length + (if ([] : List Keyword).isEmpty then 0 else 1) < 30)) = true := by rfl)
    (hline : (apos.endLine == cpos.line) = true := by rfl) (hs : starEach (e :: es) X.env = (false, eval e X.env) :: starEach es X.env := by rfl) (hplain : (backTo cpos (starEach es X.env)).any (·.1) = false := by rfl) :
    PE X (.Call (.Attribute o name apos) (e :: es) [] cpos) (tBM X.K T r to t) := by
  intro pins s σ H Q I h
  refine wpAny_Call_method_late hbase hfew hline rfl (thn (ho pins s σ H _ I h) fun v s1 ⟨x, H1, I1, r1, ty, q1⟩ => ?_)
  obtain ⟨h1, h2⟩ := tyV_is I1 r1 ty
  refine ⟨T, id, pa, slot, hty, h1, h2, ?_⟩
  have hA := ha cpos pins s1 σ H1 _ I1 q1
  rw [hs] at hA ⊢
  refine Calls.callWith_builtin (by show (false || (backTo cpos (starEach es X.env)).any (·.1)) = false; rw [hplain] <;> rfl) (Calls.evalArgs_plain ?_)
  exact thn hA fun us s2 ⟨vs, H2, I2, r2, q2⟩ => hm pins s2 σ H2 x vs v us Q I2 r1 r2 q2
/- xs.append(e), list.index on a module's tuple .. are MtR facts of 06m -/
end
end L2

namespace L2
open PySem PySem.Spec PyProof.Rows

def MtM (X : Cx) (id : String) (r : V → List V → Hp → VK → Prop) : Prop :=
  ∀ (pins : List (Addr × Obj)) (s : Shared) (σ : St) (H : Hp) (x : V) (xs : List V) (v : Value) (us : List Value) (Q : VK), Inv X pins σ H s → RelV x v → Vals xs us → r x xs H Q →
    wpAny (model X.prog X.w) X.A (call (.builtin id) (v :: us)) (EP X pins σ Q) X.xe s

/-! ### lists of values -/
theorem Vals.one : ∀ {x : V} {us : List Value}, Vals [x] us → ∃ u, us = [u] ∧ RelV x u
  | _, _, .cons r .nil => ⟨_, rfl, r⟩
theorem Vals.two : ∀ {x y : V} {us : List Value}, Vals [x, y] us → ∃ u v, us = [u, v] ∧ RelV x u ∧ RelV y v
  | _, _, _, .cons r (.cons q .nil) => ⟨_, _, rfl, r, q⟩
theorem Vals.zero : ∀ {us : List Value}, Vals [] us → us = []
  | _, .nil => rfl
theorem Vals.dropLast {xs : List V} {us : List Value} (h : Vals xs us) : Vals xs.dropLast us.dropLast := by
  induction h with
  | nil => exact .nil
  | cons r t ih =>
    cases t with
    | nil => exact .nil
    | cons q t' => exact .cons r ih
theorem Vals.eraseIdx : ∀ {xs : List V} {us : List Value} (i : Nat), Vals xs us → Vals (xs.eraseIdx i) (us.eraseIdx i)
  | _, _, _, .nil => .nil
  | _, _, 0, .cons _ t => t
  | _, _, i + 1, .cons r t => .cons r (Vals.eraseIdx i t)
theorem Vals.reverse {xs : List V} {us : List Value} (h : Vals xs us) : Vals xs.reverse us.reverse := by
  induction h with
  | nil => exact .nil
  | cons r t ih => rw [List.reverse_cons, List.reverse_cons]; exact Vals.append ih (.cons r .nil)
theorem erase_last {α : Type} (l : List α) : l.eraseIdx (l.length - 1) = l.dropLast := by
  induction l with
  | nil => rfl
  | cons a r ih =>
    cases r with
    | nil => rfl
    | cons b r =>
      have e : (a :: b :: r).length - 1 = ((b :: r).length - 1) + 1 := by
        have h1 : (a :: b :: r).length = r.length + 2 := rfl
        have h2 : (b :: r).length = r.length + 1 := rfl
        omega
      rw [e, List.eraseIdx_cons_succ, ih]
      all_goals rfl
theorem len_erase {α : Type} : ∀ (l : List α) (i : Nat), (l.eraseIdx i).length ≤ l.length
  | [], _ => Nat.le_refl _
  | _ :: _, 0 => Nat.le_succ _
  | _ :: r, i + 1 => Nat.succ_le_succ (len_erase r i)
section
variable {X : Cx} {pins : List (Addr × Obj)} {σ : St} {H : Hp} {s : Shared} {l b : Addr} {xs ys zs : List V}

/-! ### the two steps: a tracked list is rewritten, a new list is laid -/
theorem Inv.lset {its its' : List Value} {n : Nat} {f : Array Value → Array Value} {t' : Nat} (I : Inv X pins σ H s) (hH : H l = some (.lst xs))
    (e : s.heap.get? l = some { cls := .type "list", data := .seq its.toArray n }) (hf : f its.toArray = its'.toArray) (hv : Vals ys its') (hz : ys.length ≤ sizeLine) :
    Inv X pins σ (upd H l (.lst ys)) { s with heap := s.heap.update l (Obj.mapSeq f), toks := t' } := by
  have q := PySem.IsL.update e f
  rw [hf] at q
  refine I.write (x := l) (e := l) (by rw [hH]; exact trivial) (.inl rfl) (fun b' u hb hu => (Heap.get?_update_other s.heap (Obj.mapSeq f) (Ne.symm hb)).trans hu) ⟨_, q⟩ ?_
  exact ⟨hz, its', _, hv, q⟩
theorem Inv.lnew {its : List Value} {t' : Nat} (I : Inv X pins σ H s) (hv : Vals ys its) (hz : ys.length ≤ sizeLine) :
    Inv X pins σ (upd H s.heap.objs.size (.lst ys)) { s with heap := s.heap.push { cls := .type "list", data := .seq its.toArray }, toks := t' } :=
  I.laid (fun _ _ q => Heap.get?_push_of_some _ q) (Nat.le_refl _) ⟨hz, its, 0, hv, Heap.get?_push_size _ rfl⟩
theorem Inv.fresh (I : Inv X pins σ H s) : H s.heap.objs.size = none := I.hok.fresh (Nat.le_refl _)
theorem Inv.lstM (I : Inv X pins σ H s) (hH : H l = some (.lst xs)) : xs.length ≤ sizeLine ∧ ∃ (its : List Value) (n : Nat), Vals xs its ∧ xs.length = its.length ∧ s.heap.get? l = some { cls := .type "list", data := .seq its.toArray n } := by
  obtain ⟨z, its, n, r, e⟩ := I.hok l _ hH
  exact ⟨z, its, n, r, r.length, e⟩

end

section
variable {X : Cx}

/-! ### methods -/
def rAppend : V → List V → Hp → VK → Prop := fun x vs H Q => ∃ l xs y, x = .ref l ∧ vs = [y] ∧ H l = some (.lst xs) ∧ xs.length < sizeLine ∧ Q .non (upd H l (.lst (xs ++ [y])))
theorem mt_append : MtM X "list.append" rAppend := by
  intro pins s σ H x vs v us Q I rx rv h
  obtain ⟨l, xs, y, rfl, rfl, hH, hz, q⟩ := h
  cases rx
  obtain ⟨u, rfl, ru⟩ := rv.one
  obtain ⟨z, its, n, r, hl, e⟩ := I.lstM hH
  refine call_meets F.slot_list_append ⟨_, e, rfl⟩ F.entry_list_append (F.args_list_append_2 _ _) (PySem.list_append l its.toArray n u (by rw [List.size_toArray]; omega)) ⟨e, ?_⟩
  refine ⟨.non, _, I.lset (its' := its ++ [u]) hH e (by simp) (r.append (.cons ru .nil)) ?_, rfl, q⟩
  rw [List.length_append, List.length_singleton]
  omega

def rPop : V → List V → Hp → VK → Prop := fun x vs H Q => ∃ l xs y, x = .ref l ∧ vs = [] ∧ H l = some (.lst xs) ∧ xs[xs.length - 1]? = some y ∧ Q y (upd H l (.lst xs.dropLast))
theorem mt_pop : MtM X "list.pop" rPop := by
  intro pins s σ H x vs v us Q I rx rv h
  obtain ⟨l, xs, y, rfl, rfl, hH, hy, q⟩ := h
  cases rx
  have hus := rv.zero
  subst hus
  obtain ⟨z, its, n, r, hl, e⟩ := I.lstM hH
  obtain ⟨u, hu, ru⟩ := r.get hy
  have hy' : its.toArray[its.toArray.size - 1]? = some u := by
    show its.toArray[its.length - 1]? = some u
    rw [← Array.getElem?_toList, ← hl]
    exact hu
  refine call_meets F.slot_list_pop ⟨_, e, rfl⟩ F.entry_list_pop (F.args_list_pop_1 _) (MeetsSeq.list_pop_last l its.toArray n u hy' (by rw [List.size_toArray]; omega)) ⟨e, ?_⟩
  refine ⟨y, _, I.lset (its' := its.dropLast) hH e ?_ r.dropLast ?_, ru, q⟩
  · show its.toArray.eraseIdxIfInBounds (its.toArray.size - 1) = its.dropLast.toArray
    rw [List.size_toArray, List.eraseIdxIfInBounds_toArray, erase_last]
  · rw [List.length_dropLast]
    omega

def rPopAt : V → List V → Hp → VK → Prop := fun x vs H Q => ∃ l xs i k y, x = .ref l ∧ vs = [.int i] ∧ H l = some (.lst xs) ∧ -(2 ^ 63) ≤ i ∧ i < 2 ^ 63 ∧ seqIndex? i xs.length = some k ∧ xs[k]? = some y ∧ Q y (upd H l (.lst (xs.eraseIdx k)))
theorem mt_popAt : MtM X "list.pop" rPopAt := by
  intro pins s σ H x vs v us Q I rx rv h
  obtain ⟨l, xs, i, k, y, rfl, rfl, hH, h1, h2, hk, hy, q⟩ := h
  cases rx
  obtain ⟨u, rfl, ru⟩ := rv.one
  obtain ⟨t, rfl⟩ := ru
  obtain ⟨z, its, n, r, hl, e⟩ := I.lstM hH
  obtain ⟨w, hw, rw'⟩ := r.get hy
  refine call_meets F.slot_list_pop ⟨_, e, rfl⟩ F.entry_list_pop (F.args_list_pop_2 _ _)
    (MeetsSeq.list_pop_at l its.toArray n i t k w (fitsIndex_both h1 h2) (by rw [List.size_toArray, ← hl]; exact hk) (by rw [← Array.getElem?_toList]; exact hw) (by rw [List.size_toArray]; omega)) ⟨e, ?_⟩
  refine ⟨y, _, I.lset (its' := its.eraseIdx k) hH e ?_ (r.eraseIdx k) ?_, rw', q⟩
  · show its.toArray.eraseIdxIfInBounds k = (its.eraseIdx k).toArray
    rw [List.eraseIdxIfInBounds_toArray]
  · have := len_erase xs k
    omega

/-! ### list + list, list += list, list * int -/
def rCat : R2 := fun x y H Q => ∃ l b xs zs, x = .ref l ∧ y = .ref b ∧ H l = some (.lst xs) ∧ H b = some (.lst zs) ∧ xs.length + zs.length ≤ sizeLine ∧ ∀ p, H p = none → Q (.ref p) (upd H p (.lst (xs ++ zs)))
theorem op_cat : OpR X (binaryOp .Add) rCat := by
  intro pins s σ H x y v u Q I rx ry h
  obtain ⟨l, b, xs, zs, rfl, rfl, hH, hB, hz, q⟩ := h
  cases rx
  cases ry
  obtain ⟨z, its, n, r, hl, e⟩ := I.lstM hH
  obtain ⟨z2, its2, n2, r2, hl2, e2⟩ := I.lstM hB
  refine PySem.P.add_list e e2 ?_ (by rw [List.size_toArray, List.size_toArray]; omega)
  have ea : its.toArray ++ its2.toArray = (its ++ its2).toArray := by simp
  rw [ea]
  exact ⟨.ref _, _, I.lnew (t' := s.toks) (r.append r2) (by rw [List.length_append]; omega), rfl, q _ I.fresh⟩
/-! ### del xs[i] -/
end

/-! ### xs[a:b] = ys -/
section
variable {prog : Program} {w : World} {A : Around} {E : Value → Shared → Prop} {s : Shared}
end

section
variable {X : Cx}
end
end L2

namespace Att
open PySem PySem.W PySem.Calls PyProof.Rows

/-! ### the script -/
theorem ints_of_wellAll {P : Params} {h : Heap} : ∀ (ns : List Int) (vs : List Value), WellAll P h vs (ns.map WData.int) → IntsAre vs ns := by
  intro ns
  induction ns with
  | nil =>
    intro vs w
    rw [List.map_nil] at w
    cases w
    exact .nil
  | cons n ns ih =>
    intro vs w
    rw [List.map_cons] at w
    cases w with
    | cons a b =>
      cases a
      exact .cons _ _ (ih _ b)

theorem script_of {l : OpenLaw} {n : Nat} (hn : l.most = some n) {P : Params} {h : Heap} {args : List WData} {vals : List Value}
    (hpre : l.row.toRowW.claim.pre args = true) (hwl : WellAll P h vals args) :
    ∃ a vs ns, vals = [Value.ref a] ∧ args = [WData.list (ns.map WData.int)] ∧ h.get? a = some { cls := .type "list", data := .seq vs.toArray } ∧ IntsAre vs ns ∧ ns.length ≤ n := by
  have hsh : WShape.hasAll [] args [.list .int] = true := (pre_splitW hpre).1
  have hc : l.pre.holds [] { args := args } = true := (pre_splitW hpre).2
  obtain ⟨d, r, rfl, h1, h2⟩ := hasAllW_cons hsh
  obtain rfl := hasAllW_nil h2
  obtain ⟨xs, rfl, h3⟩ := hasW_list h1
  obtain ⟨ns, rfl⟩ := items_int h3
  have hlen : ns.length ≤ n := by
    unfold OpenLaw.pre at hc
    have h4 : (WTm.not (.lt (.lit (.int (n : Int))) (.len (.arg 0)))).holds [] { args := [.list (ns.map .int)] } = true := by
      have h4 := (holds_andW hc).1
      rw [hn] at h4
      exact h4
    have h5 := condW_of h4 (w_not (w_lt w_lit (w_len_list (w_arg rfl))))
    rw [List.length_map] at h5
    refine Nat.le_of_not_lt fun q => ?_
    have q' : (n : Int) < ((ns.length : Nat) : Int) := by omega
    first
      | (rw [decide_eq_true q'] at h5; exact absurd h5 (by decide))
      | (simp at h5; omega)
  cases hwl with
  | cons w1 w2 =>
    cases w2
    cases w1 with
    | list ho hall => exact ⟨_, _, ns, rfl, rfl, ho, ints_of_wellAll ns _ hall, hlen⟩

theorem post_true (l : OpenLaw) (args : List WData) : l.row.toRowW.claim.post args (.bool true) args = true :=
  postW_of (r := l.row.toRowW) (X := (true == true))
    (show WShape.has [] (.bool true) .bool = true by first | rfl | decide | simp [WShape.has, WShape.arms, WShape.armsAll])
    (show (WTm.eq .res (.lit (.bool true))).value [] { args := args, res := some (.bool true), after := args } = some (.bool (true == true)) from w_eq_bool (w_res rfl) w_lit) rfl

/-! ### the attachment: holds_open's last premise (the goal 'hc' behind k_head) from a wpAny of the law's body -/
/-- the same from a codeAny of the CALL (for a layer whose function contracts speak of calls) -/
theorem attach_call {l : OpenLaw} {n : Nat} {q : Program} {loose : List Str} {XP : (Str → Option Value) → Heap → Prop} {YP : World → Heap → Prop} {d : DefRec}
    (hn : l.most = some n) (hdf : d.params.defaults = [])
    (call : ∀ (w : World) (s₀ s₁ : Shared) (mg mb : Str → Option Value) (fa : Addr) (o : Obj) (pm cd doc : Value) (a : Addr) (vs : List Value) (ns : List Int),
      Ground q loose [] XP w s₀ mg mb s₁.heap → YP w s₁.heap →
      s₁.heap.get? fa = some o → o.data = .func (docDef d.name d.params d.body d.scope pm cd doc) → s₁.heap.CodeRec cd d.name → mg d.name = some (.ref fa) →
      s₁.heap.get? a = some { cls := .type "list", data := .seq vs.toArray } → IntsAre vs ns → ns.length ≤ n → s₁.gens = #[] →
      codeAny (model l.prog w) callerA (.call (.ref fa) ⟨[.ref a], []⟩) (fun r s' => r = .ok (.ret (.bool true)) ∧ OldK s₁.heap s'.heap ∧ s'.os = s₁.os ∧ AllBare s'.gens) s₁) :
    WalkO q loose XP YP l.row.toRowW d [] (fun f vs => PySem.call f vs) := by
  intro w s₀ s₁ mg mb G Y fa o pm cd doc dV kV ho hd hcd hD hmg hg args vals as hpre hlay hrd hwl hlo
  obtain rfl : dV = .none := Dflts.none hD hdf
  obtain rfl : kV = .none := Dflts.noKw hD
  obtain ⟨a, vs, ns, rfl, rfl, hobj, hints, hlen⟩ := script_of hn hpre hwl
  refine enter_call (codeAny_mono (call w s₀ s₁ mg mb fa o pm cd doc a vs ns G Y ho (fd_plain hd) hcd hmg hobj hints hlen hg) fun r s' hq => ?_)
  obtain ⟨rfl, h2, h3, h4⟩ := hq
  exact ⟨.inl ⟨.bool true, .bool true, [], rfl, fun _ => rfl, .bool true, post_true l _, fun _ => ⟨List.Pairwise.nil, fun _ hm => (nomatch hm)⟩⟩, h2, h3, h4⟩

/-! ### rules over ANY heap (no ledger) from facts about the written part K: the library's own take a ledger (News) for what they write -/
section
variable {prog : Program} {w : World} {A : Around} {E : Value → Shared → Prop} {s : Shared} {K : Frag}

/-! the whole heap as the ledger: makes every rule that writes through a ledger a rule over any heap -/
def ledger (h : Heap) (L d : Addr) : List (Addr × Obj) := (List.range h.objs.size).filterMap fun a => if a = L ∨ a = d then none else (h.get? a).map fun o => (a, o)
end
end Att

namespace L2
open PySem PySem.Spec PyProof.Rows

theorem vals_ints : ∀ {vs : List Value} {ns : List Int}, IntsAre vs ns → Vals (ns.map V.int) vs
  | _, _, .nil => .nil
  | _, _, .cons n t h => .cons ⟨t, rfl⟩ (vals_ints h)

/-- nothing is tracked but the script, known to the object (or it is an object of the module) -/
def Only (H : Hp) : Prop := ∀ b, H b = none ∨ ∃ o xs, H b = some (.frz o (.lst xs))

/-- THE HEAD: the law's promise, at the heap behind the top. F, the promise of the law's def, may use that base is part of the heap (so K.In base, base.Ns mainGlobals mg stand in Mod) -/
theorem law_call {P : Program} {w : World} {K : PySem.W.Frag} {mg mb : Str → Option Value} {CX : CXT} {k : Nat} {fa a : Addr} {fd : FuncData} {x : Str} {sp : Sp} {s₁ : Shared} {vs : List Value} {ns : List Int}
    (KX : K.In s₁.heap) (hns : s₁.heap.Ns mainGlobals mg) (hb : s₁.heap.Ns builtinsNs mb) (hbb : ∀ x : Str, x ≠ "__name__" → mb x = bootBuiltins x) (hlim : s₁.heap.NoLimit) (hg : s₁.gens = #[])
    (ha : s₁.heap.get? a = some { cls := .type "list", data := .seq vs.toArray }) (hi : IntsAre vs ns) (hl : ns.length ≤ sizeLine) (hr : Room k callerA)
    (F : ∀ base : Heap, K.In base → base.Ns mainGlobals mg → FnOk P w K mg base CX k fa fd [x] sp) (hbind : ∀ (s : Shared) (u : Value), BindsTo s fd ⟨[u], []⟩ [(x, u)])
    (hsp : ∀ H : Hp, Only H → SqL K H a (ns.map V.int) → sp [.ref a] H (fun v _ => v = .bl true) fun _ _ _ => False)
    (hCX : ∀ H e s', CX [] H s₁ (fun _ _ _ => False) e s' → False) :
    codeAny (model P w) callerA (.call (.ref fa) ⟨[.ref a], []⟩) (fun r s' => r = .ok (.ret (.bool true)) ∧ OldK s₁.heap s'.heap ∧ s'.os = s₁.os ∧ AllBare s'.gens) s₁ := by
  have rv := vals_ints hi
  have lenV := hi.length
  -- from an abstract heap in which nothing but the script may be tracked
  have core : ∀ H : Hp, Only H → SqL K H a (ns.map V.int) → HOk P w H s₁.heap → (∀ b, H b ≠ none → b = a) → (H a ≠ none → K.lookup a = none) →
      codeAny (model P w) callerA (.call (.ref fa) ⟨[.ref a], []⟩) (fun r s' => r = .ok (.ret (.bool true)) ∧ OldK s₁.heap s'.heap ∧ s'.os = s₁.os ∧ AllBare s'.gens) s₁ := by
    intro H hO hS hok hA hK
    have base_of : ∀ {b : Addr} {o : Obj}, s₁.heap.get? b = some o → H b = none → (hidT s₁.heap H).get? b = some o := fun e n => hidT_get e n
    have noA : ∀ {b : Addr} {o : Obj} {es : Array DictEntry} {ep : Nat}, s₁.heap.get? b = some o → o.data = .dict es ep → H b = none := fun {b o es ep} e d => by
      cases q : H b with
      | none => rfl
      | some u =>
        have e' : b = a := hA b (by rw [q]; simp)
        subst e'
        rw [ha] at e; cases e
        have d' : Data.seq vs.toArray _ = Data.dict es ep := d
        cases d'
    have nsK : ∀ {b : Addr} {m : Str → Option Value}, s₁.heap.Ns b m → (hidT s₁.heap H).Ns b m := fun {b m} ⟨o, es, ep, e, d, r⟩ => ⟨o, es, ep, base_of e (noA e d), d, r⟩
    have hKb : K.In (hidT s₁.heap H) := fun b o e => base_of (KX b o e) (by
      cases q : H b with
      | none => rfl
      | some u =>
        have e' : b = a := hA b (by rw [q]; simp)
        subst e'
        rw [hK (by rw [q]; simp)] at e; cases e)
    have hM : Mod K mg (hidT s₁.heap H) := ⟨hKb, nsK hns, ⟨mb, nsK hb, hbb⟩, let ⟨mc, h1, h2⟩ := hlim; ⟨mc, nsK h1, h2⟩⟩
    have e0 : Env0 P w K mg (hidT s₁.heap H) callerA [] s₁ H := ⟨rfl, hM, fun b o e => of_hidT e, Nat.le_of_eq (hidT_size _ _), trivial, fun b hb => absurd (show b ∈ ([] : List Addr) from hb) (by simp), hok, .of_eq hg⟩
    refine codeAny_mono ((F _ hKb (nsK hns)).run callerA [] s₁ H ⟨[.ref a], []⟩ [.ref a] [.ref a] _ _ hr e0 (hbind s₁ (.ref a)) (.cons rfl .nil) (hsp H hO hS)) fun r s' h => ?_
    cases r with
    | error e => exact (hCX H e s' h).elim
    | ok fl =>
      cases fl with
      | next => exact False.elim h
      | brk => exact False.elim h
      | cont => exact False.elim h
      | ret u =>
        obtain ⟨v, H', os, bare, un, hok', r', q⟩ := h
        have q' : v = .bl true := q
        subst q'
        obtain rfl : u = Value.bool true := r'
        refine ⟨rfl, OldK.of_keep fun b o e => ?_, os, bare⟩
        cases q : H b with
        | none => exact un.keep b o e q (by intro z; exact absurd (show b ∈ ([] : List Addr) from z) (by simp)) (by simp)
        | some u =>
          rcases hO b with z | ⟨ob, xs, z⟩
          · rw [q] at z; cases z
          · have z2 := un.frzs b ob _ z
            obtain ⟨e1, _⟩ := hok b _ z
            obtain ⟨e2, _⟩ := hok' b _ z2
            rw [e] at e1; cases e1
            exact e2
  cases hk : K.lookup a with
  | some o =>
    -- the script is one of the module's own objects
    have e := KX a o hk
    rw [ha] at e
    cases e
    refine core (fun _ => none) (fun _ => .inl rfl) (.inr ⟨_, vs.toArray, _, hk, rfl, rfl, rfl, by rw [List.size_toArray, lenV]; exact hl, by simpa using rv⟩) (fun b u z => by have z' : (none : Option HO) = some u := z; cases z') (fun b z => absurd rfl z) fun z => absurd rfl z
  | none =>
    refine core (fun b => if b = a then some (.frz { cls := .type "list", data := .seq vs.toArray } (.lst (ns.map V.int))) else none) (fun b => ?_) (.inl (.inr ⟨{ cls := .type "list", data := .seq vs.toArray }, if_pos rfl⟩)) (fun b u z => ?_) (fun b z => ?_) fun _ => hk
    · by_cases hb : b = a
      · exact .inr ⟨_, _, if_pos hb⟩
      · exact .inl (if_neg hb)
    · by_cases hb : b = a
      · have z' := (if_pos hb).symm.trans z
        cases z'
        subst hb
        exact ⟨ha, by rw [List.length_map]; exact hl, vs, _, rv, ha⟩
      · have z' := (if_neg hb).symm.trans z
        cases z'
    · by_cases hb : b = a
      · exact hb
      · exact absurd (if_neg hb) z
end L2

namespace L2
open PySem PySem.Spec PyProof.Rows

abbrev KOf {K : PySem.W.Frag} {h : Heap} (_ : K.In h) : PySem.W.Frag := K

/-- the goal that k_head leaves (case hc), from the law's promise. F gives the function object fd (K's own) once, then the promise over every base -/
theorem walk_of {l : PySem.W.OpenLaw} {n k : Nat} {q : Program} {loose : List Str} {XP : (Str → Option Value) → Heap → Prop} {YP : World → Heap → Prop} {d : DefRec} {K : Params → PySem.W.Frag} {CX : World → CXT} {sp : World → Sp} {x : Str}
    (hn : l.most = some n) (hn2 : n ≤ sizeLine) (hdf : d.params.defaults = []) (hr : Room k callerA)
    (hY : ∀ (w : World) (h : Heap), YP w h → (K w.params).In h)
    (F : ∀ (w : World) (mg : Str → Option Value) (fa : Addr) (h : Heap), (K w.params).In h → h.Ns mainGlobals mg → mg d.name = some (.ref fa) →
      ∃ fd : FuncData, (∀ (s : Shared) (u : Value), BindsTo s fd ⟨[u], []⟩ [(x, u)]) ∧
        ∀ base : Heap, (K w.params).In base → base.Ns mainGlobals mg → FnOk l.prog w (K w.params) mg base (CX w) k fa fd [x] (sp w))
    (hsp : ∀ (w : World) (H : Hp) (a : Addr) (ns : List Int), ns.length ≤ n → Only H → SqL (K w.params) H a (ns.map V.int) → sp w [.ref a] H (fun v _ => v = .bl true) fun _ _ _ => False)
    (hCX : ∀ (w : World) (H : Hp) (s : Shared) (e : Value) (s' : Shared), CX w [] H s (fun _ _ _ => False) e s' → False) :
    PySem.W.WalkO q loose XP YP l.row.toRowW d [] (fun f vs => PySem.call f vs) := by
  refine Att.attach_call hn hdf fun w s₀ s₁ mg mb fa o pm cd doc a vs ns G Y ho hd hcd hmg hobj hints hlen hg => ?_
  have KX := hY w _ Y
  obtain ⟨fd, hb, hF⟩ := F w mg fa _ KX G.T.g hmg
  exact law_call KX G.T.g G.T.b G.T.builtins G.T.nolimit hg hobj hints (Nat.le_trans hlen hn2) hr hF hb (fun H hO hS => hsp w H a ns hlen hO hS) fun H e s' => hCX w H s₁ e s'
end L2

/- THE LAST THEOREM (shape; LID, My.* are yours):
   My.Adr: a structure of the addresses that your layer names (classes, functions); My.Txt K t: a structure (Prop) of the equations over K;
   My.txt_mk : {K} {implicit addresses ..} (e1 : nsIn K mainGlobals "law" = some (some (.ref f))) (e2 : K.lookup f = some ⟨oc, od, .func (fnOf "law" "law" params body scope dV kV doc pm an cdv ct), sl⟩) (e3 : codeIn K cdv "law" = true) .. : ∃ t, My.Txt K t

set_option maxRecDepth 100000 in
set_option maxHeartbeats 0 in
theorem PySem.Challenge.cw_LID_holds : PySem.Challenge.rw_LID.Holds := by
  w_on; o_law; k_head; (case hw => w_witness2)
  k_fill
  refine L2.walk_of (l := PySem.Challenge.rw_LID) (n := 63) (k := 40) (x := "script") (CX := fun w => ..) (sp := fun _ => My.sp_law) rfl (by decide) rfl ⟨rfl, by decide, by decide⟩ (fun w h Y => PySem.W.kIn_of Y) ?F ?S ?C
  case F =>
    intro w mg fa h KX G hmg
    have T : ∃ t, My.Txt (L2.KOf KX) t := by
      dsimp only [L2.KOf]                          -- K must stand as «<heap const> w.params» for k_is
      refine' My.txt_mk ?e1 ?e2 ?e3 ..
      (case e1 => PySem.W.k_is)                    -- in the order: a name -> its address -> its object -> its parts
      (case e2 => PySem.W.k_is)
      ..
    obtain ⟨t, T⟩ := T
    have e0 := hmg.symm.trans (PySem.W.mg_of KX G T.law)
    cases e0                                       -- fa is the law's own address
    exact ⟨_, fun s u => .of_eq rfl, fun base kb nb => My.law_fn T kb nb⟩     -- if «.of_eq rfl» comes too early: refine' ⟨_, ?b, fun base kb nb => My.law_fn T kb nb⟩; exact fun s u => .of_eq rfl
  case S => exact fun w H a ns hl hO hS => ..
  case C => exact ..
(the tactic k_is has no namespace: write k_is) -/

/-! SHORT WORDS over the layer: a def of the text, its body, what a loop and a test want. -/
namespace L2
open PySem PySem.Spec PyProof.Rows

/-! ### the text by places -/
def defArgs (s : Stmt) : Arguments := match s with
  | .FunctionDef _ a _ _ _ _ _ _ _ _ => a
  | _ => { posonlyargs := [], args := [], vararg := none, kwonlyargs := [], kw_defaults := [], kwarg := none, defaults := [] }
def defBody (s : Stmt) : List Stmt := match s with
  | .FunctionDef _ _ b _ _ _ _ _ _ _ => b
  | _ => []
def defScope (s : Stmt) : Scope := match s with
  | .FunctionDef _ _ _ _ _ _ sc _ _ _ => sc
  | _ => { kind := .function, names := [], isGenerator := false, isCoroutine := false }

/-! ### no exception leaves a def -/
abbrev CX0 : CXT := fun _ _ _ _ _ _ => False
abbrev E0 : XK := fun _ _ _ => False
theorem pass0 {X : Cx} : Passes CX0 X E0 := fun _ _ _ _ _ _ _ h => h.elim

/-! ### a def (or method) of the text as it stands behind the top -/
structure Fun (K : PySem.W.Frag) (x qual : Str) (st : Stmt) (f : Addr) (fd : FuncData) : Prop where
  ex : ∃ (oc : Value) (od : Option Addr) (kV doc pm : Value) (an : Option Addr) (cdv ct : Value) (osl : Array (Option Value)),
    fd = PySem.W.fnOf x qual (defArgs st) (defBody st) (defScope st) .none kV doc pm an cdv ct ∧ K.lookup f = some ⟨oc, od, .func fd, osl⟩ ∧ PySem.W.codeIn K cdv qual = true
  kp : PySem.W.keepIn K (.ref f) = true
section
variable {P : Program} {w : World} {K : PySem.W.Frag} {mg : Str → Option Value} {base : Heap}
/-- THE RULE for a def: its body as a term of rules, and the reading of that term -/
theorem Fun.ok {x qual : Str} {st : Stmt} {f : Addr} {fd : FuncData} {N ps : List Str} {k : Nat} {sp : Sp} (F : Fun K x qual st f fd) (S : FnScope N ps (defScope st)) (len : ∀ vs H Q E, sp vs H Q E → vs.length = ps.length)
    (hbody : ∀ (cdv : Value) (A : Around) (outer : List Env) (s : Shared) (H : Hp) (vs : List V) (Q : VK) (E : XK), Room k (A.deeper (envOfC qual (defScope st) s.heap.objs.size f cdv)) → sp vs H Q E →
      ∃ t, PSs (cxOf CX0 P w K mg base N qual (defScope st) f cdv A outer s H E).nox (defBody st) t ∧ t { nx := fun _ H' => Q .non H', rt := Q } (start N vs) H) : FnOk P w K mg base CX0 (k + 1) f fd ps sp := by
  obtain ⟨oc, od, kV, doc, pm, an, cdv, ct, osl, rfl, lk, hcd⟩ := F.ex
  refine fn_of lk hcd S len fun A outer s H vs Q E hr hsp => ?_
  obtain ⟨t, h, q⟩ := hbody cdv A outer s H vs Q E hr hsp
  exact ⟨t, h.nox, q⟩
/-- how its arguments bind (no defaults): h is «fun _ _ _ _ _ _ us hl => match us, hl with | [_, _], _ => rfl», one _ a parameter -/
theorem Fun.binds {x qual : Str} {st : Stmt} {f : Addr} {fd : FuncData} {ps : List Str} (F : Fun K x qual st f fd)
    (h : ∀ (kV doc pm : Value) (an : Option Addr) (cdv ct : Value) (us : List Value), us.length = ps.length → bindArgs (PySem.W.fnOf x qual (defArgs st) (defBody st) (defScope st) .none kV doc pm an cdv ct) ⟨us, []⟩ = pure (ps.zip us)) : Binds K fd ps [] := by
  obtain ⟨oc, od, kV, doc, pm, an, cdv, ct, osl, rfl, lk, hcd⟩ := F.ex
  exact .all (h kV doc pm an cdv ct)
theorem fun_mk {x qual : Str} {st : Stmt} {f : Addr} {oc : Value} {od an : Option Addr} {osl : Array (Option Value)} {kV doc pm cdv ct : Value} (l : K.lookup f = some ⟨oc, od, .func (PySem.W.fnOf x qual (defArgs st) (defBody st) (defScope st) .none kV doc pm an cdv ct), osl⟩)
    (c : PySem.W.codeIn K cdv qual = true) (k : PySem.W.keepIn K (.ref f) = true) : Fun K x qual st f (PySem.W.fnOf x qual (defArgs st) (defBody st) (defScope st) .none kV doc pm an cdv ct) := ⟨⟨oc, od, kV, doc, pm, an, cdv, ct, osl, rfl, l, c⟩, k⟩
end
theorem hu_of {A : Around} {k : Nat} (hr : Room k A) : A.units + 1 < cLine := Nat.lt_of_le_of_lt (Nat.add_le_add_left (by decide : 1 ≤ 64) _) hr.units
/-! ### expressions in short: the name that stands in the i-th slot -/
section
variable {X : Cx}
theorem pv (i : Nat) {x : Str} {pos : Pos} (hN : X.N[i]? = some x := by rfl) (hv : Vis X.env.scope x := by first | exact Or.inl rfl | exact Or.inr (Or.inl rfl) | exact Or.inr (Or.inr rfl)) (hd : (x == ("__debug__" : Str)) = false := by decide)
    (hcd : (x == ("__classdict__" : Str)) = false := by decide) : PE X (.Name x pos) (tVar i) := pe_var hN hv hd hcd
end

/-! ### tests -/
theorem iteF {A B : Prop} (h : B) : if false = true then A else B := by
  rw [if_neg Bool.false_ne_true]
  exact h
theorem iteT {A B : Prop} (h : A) : if true = true then A else B := by
  rw [if_pos rfl]
  exact h
theorem ite2 {c A B : Prop} [Decidable c] (h1 : c → A) (h2 : ¬ c → B) : if c then A else B := by
  by_cases h : c
  · rw [if_pos h]
    exact h1 h
  · rw [if_neg h]
    exact h2 h
/-! ### heaps -/
/-- all that was tracked is as it was -/
def Same (H H' : Hp) : Prop := ∀ b o, H b = some o → H' b = some o
theorem Same.refl (H : Hp) : Same H H := fun _ _ h => h
theorem Same.trans {H H1 H2 : Hp} (a : Same H H1) (b : Same H1 H2) : Same H H2 := fun c o h => b c o (a c o h)
theorem Same.free {H H' : Hp} (e : Same H H') {l : Addr} (h : H' l = Option.none) : H l = Option.none := by
  cases q : H l with
  | none => rfl
  | some o =>
    rw [e l o q] at h
    cases h
theorem Same.seq {K : PySem.W.Frag} {H H' : Hp} {a : Addr} {xs : List V} (e : Same H H') (h : SqL K H a xs) : SqL K H' a xs := by
  rcases h with (h | ⟨o, h⟩) | h
  · exact .inl (.inl (e _ _ h))
  · exact .inl (.inr ⟨o, e _ _ h⟩)
  · exact .inr h

end L2
namespace L2
open PySem PySem.Spec PyProof.Rows

def clOf (env : Env) : List (Str × NameKind) → List (Str × Addr) → List (Str × Addr)
  | [], acc => acc
  | (n, k) :: r, acc => clOf env r (if k == .free then (match env.cells.lookup n with | some a => (n, a) :: acc | none => acc) else acc)
theorem closureFor_loop {env : Env} : ∀ (names : List (Str × NameKind)) (acc : List (Str × Addr)), (∀ y ∈ names, y.2 = .free → ∃ c, env.cells.lookup y.1 = some c) →
    (forIn names acc fun (x : Str × NameKind) (cs : List (Str × Addr)) => (if (x.2 == NameKind.free) = true then do let a ← cellOf env x.1; pure (ForInStep.yield ((x.1, a) :: cs)) else pure (ForInStep.yield cs) : Sem (ForInStep (List (Str × Addr))))) = pure (clOf env names acc)
  | [], acc, _ => rfl
  | (n, k) :: r, acc, h => by
    rw [List.forIn_cons]
    have hr : ∀ y ∈ r, y.2 = .free → ∃ c, env.cells.lookup y.1 = some c := fun y hy => h y (List.mem_cons_of_mem _ hy)
    cases hk : (k == NameKind.free) with
    | false =>
      have e1 : clOf env ((n, k) :: r) acc = clOf env r acc := by
        show clOf env r (if (k == NameKind.free) = true then (match env.cells.lookup n with | some a => (n, a) :: acc | none => acc) else acc) = _
        rw [hk, if_neg Bool.false_ne_true]
      rw [e1, ← closureFor_loop r acc hr]
      simp only [hk, Bool.false_eq_true, if_false, pure_bind]
    | true =>
      obtain ⟨c, hc⟩ := h (n, k) List.mem_cons_self (by simpa using hk)
      have e1 : clOf env ((n, k) :: r) acc = clOf env r ((n, c) :: acc) := by
        have hc' : env.cells.lookup n = some c := hc
        show clOf env r (if (k == NameKind.free) = true then (match env.cells.lookup n with | some a => (n, a) :: acc | none => acc) else acc) = _
        rw [hk, hc', if_pos rfl]
      have e2 : cellOf env n = pure c := by
        have hc' : env.cells.lookup n = some c := hc
        unfold cellOf
        rw [hc']
      rw [e1, ← closureFor_loop r ((n, c) :: acc) hr]
      simp only [hk, if_true, e2, pure_bind]
theorem closureFor_cl {scope : Scope} {env : Env} (h : ∀ y ∈ scope.names, y.2 = .free → ∃ c, env.cells.lookup y.1 = some c) : closureFor scope env = pure (clOf env scope.names []) := by
  have e := closureFor_loop scope.names [] h
  simp only [closureFor]
  rw [e]
  rfl
theorem clOf_from {env : Env} {x : Str} {c : Addr} : ∀ (names : List (Str × NameKind)) (acc : List (Str × Addr)), (∀ y d, acc.lookup y = some d → env.cells.lookup y = some d) → (clOf env names acc).lookup x = some c → env.cells.lookup x = some c
  | [], acc, ha, h => ha x c h
  | (n, k) :: r, acc, ha, h => by
    refine clOf_from r _ (fun y d q => ?_) h
    by_cases hk : (k == NameKind.free) = true
    · rw [if_pos hk] at q
      cases e : env.cells.lookup n with
      | none => rw [e] at q; exact ha y d q
      | some a =>
        rw [e] at q
        have q' : List.lookup y ((n, a) :: acc) = some d := q
        rw [List.lookup_cons] at q'
        cases hy : (y == n) with
        | true =>
          rw [hy] at q'
          have : y = n := by simpa using hy
          subst this
          rw [e]; exact q'
        | false => rw [hy] at q'; exact ha y d q'
    · rw [if_neg hk] at q; exact ha y d q
theorem clOf_acc {env : Env} {x : Str} : ∀ (names : List (Str × NameKind)) (acc : List (Str × Addr)), (∃ c, acc.lookup x = some c) → ∃ c, (clOf env names acc).lookup x = some c
  | [], acc, h => h
  | (n, k) :: r, acc, ⟨c, hc⟩ => by
    refine clOf_acc r _ ?_
    by_cases hk : (k == NameKind.free) = true
    · rw [if_pos hk]
      cases e : env.cells.lookup n with
      | none => exact ⟨c, hc⟩
      | some a =>
        show ∃ c, List.lookup x ((n, a) :: acc) = some c
        rw [List.lookup_cons]
        cases hy : (x == n) with
        | true => exact ⟨a, rfl⟩
        | false => exact ⟨c, hc⟩
    · rw [if_neg hk]; exact ⟨c, hc⟩
theorem clOf_has {env : Env} {x : Str} : ∀ (names : List (Str × NameKind)) (acc : List (Str × Addr)), (∀ y ∈ names, y.2 = .free → ∃ c, env.cells.lookup y.1 = some c) → names.lookup x = some .free → ∃ c, (clOf env names acc).lookup x = some c
  | [], acc, _, h => by simp at h
  | (n, k) :: r, acc, hf, h => by
    have hr : ∀ y ∈ r, y.2 = .free → ∃ c, env.cells.lookup y.1 = some c := fun y hy => hf y (List.mem_cons_of_mem _ hy)
    rw [List.lookup_cons] at h
    cases hy : (x == n) with
    | true =>
      rw [hy] at h
      have hk : k = .free := Option.some.inj h
      subst hk
      have hx : x = n := by simpa using hy
      subst hx
      obtain ⟨c, hc⟩ := hf (x, .free) List.mem_cons_self rfl
      have hc' : env.cells.lookup x = some c := hc
      refine clOf_acc r _ ⟨c, ?_⟩
      rw [if_pos (show (NameKind.free == NameKind.free) = true by decide), hc']
      show List.lookup x ((x, c) :: acc) = some c
      rw [List.lookup_cons]
      simp
    | false =>
      rw [hy] at h
      exact clOf_has r _ hr h

theorem relabel_free {env : Env} : ∀ {names : List (Str × NameKind)} {x : Str}, names.lookup x = some .free →
    ((names.map fun (n, k) => if (k == NameKind.free && env.scope.kind == .function && env.kindOf n == some .cell) then (n, NameKind.cell) else (n, k)).lookup x = some .cell ∨
     (names.map fun (n, k) => if (k == NameKind.free && env.scope.kind == .function && env.kindOf n == some .cell) then (n, NameKind.cell) else (n, k)).lookup x = some .free)
  | [], _, h => by simp at h
  | (n, k) :: r, x, h => by
    have ih := @relabel_free env r x
    show (List.lookup x ((if (k == NameKind.free && env.scope.kind == .function && env.kindOf n == some .cell) = true then (n, NameKind.cell) else (n, k)) :: _) = _ ∨ List.lookup x ((if (k == NameKind.free && env.scope.kind == .function && env.kindOf n == some .cell) = true then (n, NameKind.cell) else (n, k)) :: _) = _)
    cases hx : x == n with
    | true =>
      simp only [List.lookup_cons, hx] at h
      cases h
      by_cases hc : ((NameKind.free == NameKind.free) && env.scope.kind == .function && env.kindOf n == some .cell) = true
      · rw [if_pos hc]; simp [List.lookup_cons, hx]
      · rw [if_neg hc]; simp [List.lookup_cons, hx]
    | false =>
      simp only [List.lookup_cons, hx] at h
      by_cases hc : (k == NameKind.free && env.scope.kind == .function && env.kindOf n == some .cell) = true
      · rw [if_pos hc]; simp only [List.lookup_cons, hx]; exact ih h
      · rw [if_neg hc]; simp only [List.lookup_cons, hx]; exact ih h
theorem relabel_back {env : Env} : ∀ {names : List (Str × NameKind)} {x : Str}, (∀ y ∈ names, y.2 ≠ .cell) →
    ((names.map fun (n, k) => if (k == NameKind.free && env.scope.kind == .function && env.kindOf n == some .cell) then (n, NameKind.cell) else (n, k)).lookup x = some .cell ∨
     (names.map fun (n, k) => if (k == NameKind.free && env.scope.kind == .function && env.kindOf n == some .cell) then (n, NameKind.cell) else (n, k)).lookup x = some .free) → names.lookup x = some .free
  | [], _, _, h => by simp at h
  | (n, k) :: r, x, hn, h => by
    have ih := @relabel_back env r x (fun y hy => hn y (List.mem_cons_of_mem _ hy))
    have hk := hn (n, k) List.mem_cons_self
    have h' : (List.lookup x ((if (k == NameKind.free && env.scope.kind == .function && env.kindOf n == some .cell) = true then (n, NameKind.cell) else (n, k)) :: (r.map fun (n, k) => if (k == NameKind.free && env.scope.kind == .function && env.kindOf n == some .cell) then (n, NameKind.cell) else (n, k))) = some .cell ∨ List.lookup x ((if (k == NameKind.free && env.scope.kind == .function && env.kindOf n == some .cell) = true then (n, NameKind.cell) else (n, k)) :: (r.map fun (n, k) => if (k == NameKind.free && env.scope.kind == .function && env.kindOf n == some .cell) then (n, NameKind.cell) else (n, k))) = some .free) := h
    cases hx : x == n with
    | true =>
      rw [List.lookup_cons, hx]
      by_cases hc : (k == NameKind.free && env.scope.kind == .function && env.kindOf n == some .cell) = true
      · have : (k == NameKind.free) = true := by
          rw [Bool.and_eq_true, Bool.and_eq_true] at hc; exact hc.1.1
        have hk' : k = .free := by simpa using this
        rw [hk']
      · rw [if_neg hc] at h'
        simp only [List.lookup_cons, hx] at h'
        rcases h' with h' | h'
        · exact absurd (Option.some.inj h') hk
        · exact h'
    | false =>
      rw [List.lookup_cons, hx]
      by_cases hc : (k == NameKind.free && env.scope.kind == .function && env.kindOf n == some .cell) = true
      · rw [if_pos hc] at h'; simp only [List.lookup_cons, hx] at h'; exact ih h'
      · rw [if_neg hc] at h'; simp only [List.lookup_cons, hx] at h'; exact ih h'

/-! ### the loop of a comprehension, any target -/
abbrev noE : Value → Shared → Prop := fun _ _ => False
theorem compLoop_gen {prog : Program} {w : World} {A : Around} {R : Result → Shared → Prop} {s : Shared} {elt target iter : Expr} {ifs : List Expr} {scope : Scope} {pos : Pos} {it acc : Value} {env : Env} (I : Nat → Shared → Prop)
    (turn : ∀ n s, I n s → wpAny (model prog w) A (pyNext it) (fun r s₁ => match r with
      | none => R (.ok .next) s₁
      | some v => wpAny (model prog w) A (letOwnedTupleGo target it v) (fun _ s₁' => wpAny (model prog w) A (assign target env v) (fun _ s₂ =>
          wpAny (model prog w) A (forIn ifs true fun c r => if r = true then do let ok ← isTrue c env (eval c env); pure (ForInStep.yield ok) else pure (ForInStep.yield r)) (fun ok s₃ =>
            if ok = true then wpAny (model prog w) A (eval elt env) (fun x s₄ =>
              wpAny (model prog w) A (call (.builtin "list.append") [acc, x]) (fun _ s₅ => ∃ m, m < n ∧ I m s₅) noE s₄) noE s₃
            else ∃ m, m < n ∧ I m s₃) noE s₂) noE s₁') noE s₁) noE s)
    (n : Nat) (h : I n s) : codeAny (model prog w) A (.compLoop (.ListComp elt [⟨target, iter, ifs, 0⟩] scope pos) 0 it acc env) R s := by
  refine codeAny_loop rfl I (fun n s hI => ?_) n h
  show wpAny _ A ((compTurn (.ListComp elt [⟨target, iter, ifs, 0⟩] scope pos) 0 it acc env).onRaise (fun x => do noteFrame x env; theTreesLotGoes x)) _ _ s
  refine wpAny_noted ?_
  rw [compTurn_list]
  have no : ∀ {F : Value → Shared → Prop} (e : Value) (s' : Shared), noE e s' → F e s' := fun _ _ h => h.elim
  refine wpAny_bind (wpAny_standAt (wpAny_bind (wpAny_mono (turn n s hI) (fun r s₁ h₁ => ?_) no)))
  cases r with
  | none => exact wpAny_pure h₁
  | some v =>
    refine wpAny_bind (wpAny_mono h₁ (fun _ s₁' h₁' => ?_) no)
    refine wpAny_bind (wpAny_mono h₁' (fun _ s₂ h₂ => wpAny_bind (wpAny_mono h₂ (fun ok s₃ h₃ => ?_) no)) no)
    cases ok with
    | false => exact wpAny_pure ⟨rfl, h₃⟩
    | true =>
      exact wpAny_bind (wpAny_bind (wpAny_mono h₃ (fun x s₄ h₄ => wpAny_bind (wpAny_mono h₄ (fun _ s₅ h₅ => wpAny_pure (wpAny_pure ⟨rfl, h₅⟩)) no)) no))

/-! ### the context of a comprehension's block -/
/-- C: its own names' dict; Nc: its names (targets first, then those of the def around); s, H: ahead of it; fp: the iterator's records -/
def cxComp (X : Cx) (scope : Scope) (C : Addr) (Nc : List Str) (s : Shared) (H : Hp) (fp : List Addr) : Cx where
  prog := X.prog
  w := X.w
  K := X.K
  mg := X.mg
  base := X.base
  A := X.A
  N := Nc
  s₀ := s
  H₀ := H
  env := compEnvC scope (clOf X.env scope.names []) C X.env
  outer := X.stack
  stack := X.stack
  ex := fp
  fn := fun _ => false
  calm := X.calm
  pn := []
  xe := noE
/-- where the block's names stand in the def around: none for its own -/
def IxOk (X : Cx) (scope : Scope) : List Str → List (Option Nat) → Prop
  | [], [] => True
  | _ :: ys, none :: os => IxOk X scope ys os
  | y :: ys, some j :: os => (X.N[j]? = some y ∧ scope.names.lookup y = some .free ∧ (X.env.kindOf y = some .cell ∨ X.env.kindOf y = some .free)) ∧ IxOk X scope ys os
  | _, _ => False
def subSt (σ : St) (ix : List (Option Nat)) : St := ix.map fun o => match o with | none => none | some j => (σ[j]?).getD none
def Wk : St → St → Prop
  | [], [] => True
  | none :: a, _ :: b => Wk a b
  | some v :: a, w :: b => w = some v ∧ Wk a b
  | _, _ => False
theorem Wk.len : ∀ {a b : St}, Wk a b → a.length = b.length
  | [], [], _ => rfl
  | none :: a, _ :: b, h => congrArg (· + 1) (Wk.len (a := a) (b := b) h)
  | some _ :: a, _ :: b, h => congrArg (· + 1) (Wk.len (a := a) (b := b) h.2)
theorem Wk.get : ∀ {a b : St} {i : Nat} {v : V}, Wk a b → a[i]? = some (some v) → b[i]? = some (some v)
  | [], [], i, v, _, h => by simp at h
  | none :: a, x :: b, 0, v, _, h => by simp at h
  | none :: a, x :: b, i + 1, v, k, h => by
    have := Wk.get (a := a) (b := b) (i := i) (v := v) k (by simpa using h)
    simpa using this
  | some y :: a, x :: b, 0, v, k, h => by
    have e : y = v := by simpa using h
    subst e
    simp [k.1]
  | some y :: a, x :: b, i + 1, v, k, h => by
    have := Wk.get (a := a) (b := b) (i := i) (v := v) k.2 (by simpa using h)
    simpa using this
theorem IxOk.len {X : Cx} {scope : Scope} : ∀ {N : List Str} {ix : List (Option Nat)}, IxOk X scope N ix → ix.length = N.length
  | [], [], _ => rfl
  | _ :: ys, none :: os, h => congrArg (· + 1) (IxOk.len (N := ys) (ix := os) h)
  | _ :: ys, some _ :: os, h => congrArg (· + 1) (IxOk.len (N := ys) (ix := os) h.2)
theorem IxOk.get {X : Cx} {scope : Scope} : ∀ {N : List Str} {ix : List (Option Nat)} {i j : Nat}, IxOk X scope N ix → ix[i]? = some (some j) → ∃ y, N[i]? = some y ∧ X.N[j]? = some y ∧ scope.names.lookup y = some .free ∧ (X.env.kindOf y = some .cell ∨ X.env.kindOf y = some .free)
  | [], [], i, j, _, h => by simp at h
  | y :: ys, none :: os, 0, j, _, h => by simp at h
  | y :: ys, none :: os, i + 1, j, k, h => by
    obtain ⟨z, h1, h2⟩ := IxOk.get (N := ys) (ix := os) (i := i) (j := j) k (by simpa using h)
    exact ⟨z, by simpa using h1, h2⟩
  | y :: ys, some j' :: os, 0, j, k, h => by
    have e : j' = j := by simpa using h
    subst e
    exact ⟨y, by simp, k.1⟩
  | y :: ys, some j' :: os, i + 1, j, k, h => by
    obtain ⟨z, h1, h2⟩ := IxOk.get (N := ys) (ix := os) (i := i) (j := j) k.2 (by simpa using h)
    exact ⟨z, by simpa using h1, h2⟩
theorem subSt_get {σ : St} {ix : List (Option Nat)} {i : Nat} {v : V} (h : (subSt σ ix)[i]? = some (some v)) : ∃ j, ix[i]? = some (some j) ∧ σ[j]? = some (some v) := by
  unfold subSt at h
  rw [List.getElem?_map] at h
  cases e : ix[i]? with
  | none => rw [e] at h; cases h
  | some o =>
    rw [e] at h
    cases o with
    | none => cases h
    | some j =>
      refine ⟨j, rfl, ?_⟩
      have h' : some ((σ[j]?).getD none) = some (some v) := h
      cases q : σ[j]? with
      | none => rw [q] at h'; cases h'
      | some z => rw [q] at h'; cases h'; rfl
end L2
namespace L2
open PySem PySem.Spec PyProof.Rows

theorem comp_start {X : Cx} {pins : List (Addr × Obj)} {σ : St} {H : Hp} {s : Shared} (I : Inv X pins σ H s) {scope : Scope} {Nc : List Str} {ix : List (Option Nat)} (hix : IxOk X scope Nc ix) (hcell : ∀ y ∈ scope.names, y.2 ≠ .cell)
    (hkind : scope.kind = .function) (hfr : ∀ y ∈ scope.names, y.2 = .free → X.env.kindOf y.1 = some .cell ∨ X.env.kindOf y.1 = some .free) {fp : List Addr} (hf : ∀ b ∈ fp, FpOk X pins H b) (hfo : ∀ b ∈ fp, ∃ o, s.heap.get? b = some o)
    {C : Addr} {h' : Heap} {t' : Nat} {m0 : Str → Option Value} (hC : s.heap.objs.size ≤ C) (hns : h'.Ns C m0) (k : ∀ b o, s.heap.get? b = some o → h'.get? b = some o) :
    Inv (cxComp X scope C Nc s H fp) [] (subSt σ ix) H { s with heap := h', toks := t' } := by
  have hfc : ∀ y ∈ scope.names, y.2 = .free → ∃ c, X.env.cells.lookup y.1 = some c := fun y hy e => I.ok.has y.1 (hfr y hy e)
  have from_ : ∀ {x : Str} {c : Addr}, (clOf X.env scope.names []).lookup x = some c → X.env.cells.lookup x = some c := fun {x c} e => clOf_from scope.names [] (fun y d q => by simp at q) e
  refine ⟨⟨I.ok.mod, hkind, I.ok.glob, I.ok.blt, hC, fun x y c h1 h2 => I.ok.inj x y c (from_ h1) (from_ h2), fun x hx => ?_, fun x c h => ?_, I.ok.hd, I.ok.frames, .inl rfl, fun b hb => ?_, I.bs, Nat.le_trans I.ok.bsz I.sz, fun b o e hb => ?_, fun b hb hs => ?_, I.stack, I.stkFree⟩,
    rfl, I.bare, Un.kept k, ⟨m0, hns, fun i x v h1 h2 h3 => ?_⟩, fun x c e => ?_, I.hok.fresh hC, fun x c e => I.freeC x c (from_ e), fun p hp => absurd (show p ∈ ([] : List (Addr × Obj)) from hp) (by simp), I.hok.kept k, ?_⟩
  · have hx' : scope.names.lookup x = some .free := relabel_back hcell hx
    exact clOf_has scope.names [] hfc hx'
  · exact absurd (show false = true from h) (by decide)
  · refine ⟨?_, fun x c e => (hf b hb).2.2.2.2.1 x c (from_ e)⟩
    obtain ⟨o, ho⟩ := hfo b hb
    exact Nat.ne_of_lt (Nat.lt_of_lt_of_le (Heap.lt_size ho) hC)
  · rcases (hf b hb).2.2.2.1 with z | z
    · exact I.ok.noex b o e z
    · exact absurd (Nat.lt_of_lt_of_le (Heap.lt_size e) (Nat.le_trans I.ok.bsz z)) (Nat.lt_irrefl _)
  · rcases List.mem_cons.mp (I.stkSub b hs) with z | z
    · exact (hf b hb).2.1 z
    · exact (hf b hb).2.2.1 z
  · obtain ⟨j, e1, e2⟩ := subSt_get h2
    obtain ⟨y, y1, y2, y3, y4⟩ := hix.get e1
    have h1' : Nc[i]? = some x := h1
    rw [y1] at h1'
    cases h1'
    obtain ⟨m, hn, hl⟩ := I.loc
    have hv : Vis X.env.scope x := by
      rcases y4 with z | z
      · exact .inr (.inl z)
      · exact .inr (.inr z)
    obtain ⟨u, r, l⟩ := hl j x v y2 e2 hv
    refine ⟨u, r, .inr ⟨relabel_free y3, ?_⟩⟩
    rcases l with ⟨l, _⟩ | ⟨_, c, hc, q⟩
    · rcases y4 with z | z
      · rw [z] at l; cases l
      · rw [z] at l; cases l
    · obtain ⟨c', hc'⟩ := clOf_has scope.names [] hfc y3
      have e := from_ hc'
      rw [hc] at e
      cases e
      obtain ⟨o, ho, hd⟩ := q
      exact ⟨c, hc', o, k _ _ ho, hd⟩
  · obtain ⟨v, o, ho, hd⟩ := I.cell x c (from_ e)
    exact ⟨v, o, k _ _ ho, hd⟩
  · show (subSt σ ix).length = Nc.length
    unfold subSt
    rw [List.length_map]
    exact hix.len

theorem comp_exit {X : Cx} {pins pins' : List (Addr × Obj)} {σ σ' : St} {H H' : Hp} {s s' : Shared} (I : Inv X pins σ H s) {scope : Scope} {Nc : List Str} {fp : List Addr} {C D : Addr} (J : Inv (cxComp X scope C Nc s H fp) pins' σ' H' s')
    (hf : ∀ b ∈ fp, FpOk X pins H b) (hD : s.heap.objs.size ≤ D) (hC : s.heap.objs.size ≤ C) (hDC : D ≠ C) {its : List Value} {n : Nat} {acc : List V} (eD : s'.heap.get? D = some { cls := .type "list", data := .seq its.toArray n }) (r : Vals acc its)
    (hz : acc.length ≤ sizeLine) (nD : H' D = none) {oC : Obj} (eC : s'.heap.get? C = some oC) (dC : ∀ v, oC.data ≠ .cell v) : Inv X (pins ++ [(C, oC)]) σ (upd H' D (.lst acc)) s' := by
  have lt : ∀ b o, s.heap.get? b = some o → b ≠ D := fun b o e => Nat.ne_of_lt (Nat.lt_of_lt_of_le (Heap.lt_size e) hD)
  have U : Un (frs X.stack) fp H H' s.heap s'.heap := J.base
  have U' : Un (frs X.stack) fp H (upd H' D (.lst acc)) s.heap s'.heap :=
    ⟨U.keep, U.slot, fun b o e n hx => by rw [upd_ne (lt b o e)]; exact U.free b o e n hx, U.there, fun b xs e => by rw [upd_ne (ne_of_none (U.tups b xs e) nD)]; exact U.tups b xs e,
      fun b o u e => by rw [upd_ne (ne_of_none (U.frzs b o u e) nD)]; exact U.frzs b o u e, fun b ps e => by
        obtain ⟨more, q⟩ := U.tbls b ps e
        exact ⟨more, by rw [upd_ne (ne_of_none q nD)]; exact q⟩⟩
  have hok : HOk X.prog X.w (upd H' D (.lst acc)) s'.heap := fun b u e => by
    by_cases hb : b = D
    · subst hb
      rw [upd_same] at e; cases e
      exact ⟨hz, its, n, r, eD⟩
    · rw [upd_ne hb] at e
      exact (J.hok b u e).stay (fun c v _ q => q) (fun c q => by rw [upd_ne (ne_of_none q nD)]; exact q) fun c xs q => by rw [upd_ne (ne_of_none q nD)]; exact q
  have I' : Inv X pins σ (upd H' D (.lst acc)) s' := I.call' (ch := fp) J.os U' hok J.bare fun b hb => by
    obtain ⟨_, h1, _, h2, h3, h4⟩ := hf b hb
    exact ⟨h2, h1, h3, h4⟩
  refine I'.pins_of fun p hp => ?_
  rcases List.mem_append.mp hp with z | z
  · exact I'.pin p (List.mem_append_right _ z)
  · have e : p = (C, oC) := List.mem_singleton.mp z
    subst e
    refine ⟨eC, ?_, Nat.ne_of_gt (Nat.lt_of_lt_of_le I.lt hC), I.nofs hC, dC⟩
    rw [upd_ne (Ne.symm hDC)]
    exact J.free

/-- the tests of a comprehension -/
def PF (Y : Cx) (ifs : List Expr) (tc : TT) : Prop :=
  ∀ (pins : List (Addr × Obj)) (s : Shared) (σ : St) (H : Hp) (Q : Bool → Hp → Prop), Inv Y pins σ H s → tc σ H Q →
    wpAny (model Y.prog Y.w) Y.A (forIn ifs true fun c r => if r = true then do let ok ← isTrue c Y.env (eval c Y.env); pure (ForInStep.yield ok) else pure (ForInStep.yield r)) (TP Y pins σ Q) Y.xe s
def tYes : TT := fun _ H Q => Q true H
theorem pf_nil {Y : Cx} : PF Y [] tYes := fun _ _ _ H _ I h => wpAny_tests_nil ⟨H, I, h⟩
theorem pf_one {Y : Cx} {c : Expr} {tc : TT} (h : PT Y c tc) : PF Y [c] tc := fun pins s σ H Q I hw => wpAny_tests_one (h pins s σ H Q I hw)

/-- what a comprehension wants: W the invariant by the turn, a measure, what is made so far -/
def CompW (J : It) (σc : St) (g : TG) (tc : TT) (te : TE) (Q : VK) (H1 : Hp) : Prop :=
  ∃ W : Nat → Nat → List V → Hp → Prop, (∃ m, W 0 m [] H1) ∧ ∀ i m acc H, W i m acc H → acc.length < sizeLine ∧
  ((J.stop i H ∧ ∀ D, H D = none → Q (.ref D) (upd H D (.lst acc))) ∨
   (J.go i H ∧ ∀ x H', J.yld i H x H' → g x σc H' fun σ2 H2 => Wk σc σ2 ∧ tc σ2 H2 fun b H3 => if b = true then te σ2 H3 fun v H4 => ∃ m', m' < m ∧ W (i + 1) m' (acc ++ [v]) H4 else ∃ m', m' < m ∧ W (i + 1) m' acc H3))
def tComp (wi : TI) (ix : List (Option Nat)) (g : TG) (tc : TT) (te : TE) : TE := fun σ H Q => wi σ H fun J H1 => CompW J (subSt σ ix) g tc te Q H1

theorem comp_core {X : Cx} {tg iter elt : Expr} {ifs : List Expr} {scope : Scope} {pos : Pos} {wi : TI} {g : TG} {tc : TT} {te : TE} {Nc : List Str} {ix : List (Option Nat)} (hi : PI X tg iter wi) (hcalm : X.calm = true) (hix : IxOk X scope Nc ix)
    (hcell : ∀ y ∈ scope.names, y.2 ≠ .cell) (hkind : scope.kind = .function) (hfr : ∀ y ∈ scope.names, y.2 = .free → X.env.kindOf y.1 = some .cell ∨ X.env.kindOf y.1 = some .free)
    (hG : ∀ C s H fp, PG (cxComp X scope C Nc s H fp) tg g) (hT : ∀ C s H fp, PF (cxComp X scope C Nc s H fp) ifs tc) (hE : ∀ C s H fp, PE (cxComp X scope C Nc s H fp) elt te)
    {pins : List (Addr × Obj)} {s : Shared} {σ : St} {H : Hp} {Q : VK} (I : Inv X pins σ H s) (h : tComp wi ix g tc te σ H Q) {RR : Value → Addr → Result → Shared → Prop}
    (hRR : ∀ (D C : Addr) (oC : Obj) (m : Str → Option Value) (H' : Hp) (s' : Shared), s'.heap.get? C = some oC → s'.heap.Ns C m → FpOk X pins H' C → Inv X (pins ++ [(C, oC)]) σ H' s' → Q (.ref D) H' → RR (.ref D) C (.ok .next) s') :
    wpAny (model X.prog X.w) X.A (eval iter X.env) (fun v s1 => wpAny (model X.prog X.w) X.A (pyIter v) (fun it s2 => wpAny (model X.prog X.w) X.A (newList []) (fun acc s3 =>
      wpAny (model X.prog X.w) X.A (newFunctionEnv scope X.env.globals (clOf X.env scope.names []) [] X.env.qual none .none (some X.env)) (fun cenv s4 =>
        codeAny (model X.prog X.w) X.A (.compStart (.ListComp elt [⟨tg, iter, ifs, 0⟩] scope pos) 0 it acc { cenv with scope := relabel scope X.env }) (RR acc cenv.locals) s4) X.xe s3) X.xe s2) X.xe s1) X.xe s := by
  refine thn (hi pins s σ H _ I h) fun v s1 h1 => thn h1 fun itv s2 h2 => ?_
  obtain ⟨it, fp, tn, J, H2, e, I2, T, st2, f2, W, ⟨m0, w0⟩, turn⟩ := h2
  subst e
  refine wpAny_newObj_type (wpAny_newFunctionEnv hcell (by intro y hy; simp at hy) (fun h₁ hns₁ hsb₁ => ?_) hkind)
  dsimp only at hns₁ hsb₁ ⊢
  generalize hH2 : s2.heap.push { cls := .type "list", dict := none, data := .seq ([] : List Value).toArray } = P2 at hns₁ hsb₁ ⊢
  have hC : P2.objs.size = s2.heap.objs.size + 1 := by rw [← hH2, Heap.size_push]
  have hDC : s2.heap.objs.size ≠ P2.objs.size := by rw [hC]; exact Nat.ne_of_lt (Nat.lt_succ_self _)
  have hCle : s2.heap.objs.size ≤ P2.objs.size := by rw [hC]; exact Nat.le_succ _
  have neC : ∀ b, b < s2.heap.objs.size → b ≠ P2.objs.size := fun b hb => by rw [hC]; exact Nat.ne_of_lt (Nat.lt_succ_of_lt hb)
  have old : ∀ b o, s2.heap.get? b = some o → h₁.get? b = some o := fun b o e => hsb₁.extBut b o (neC b (Heap.lt_size e)) (Heap.get?_push_of_some _ (hH2 ▸ Heap.get?_push_of_some _ e))
  have hacc : h₁.get? s2.heap.objs.size = some { cls := .type "list", data := .seq ([] : List Value).toArray } := hsb₁.extBut _ _ hDC (Heap.get?_push_of_some _ (hH2 ▸ Heap.get?_push_size _ rfl))
  have st₁ : tn 0 h₁ := T.keep 0 _ _ st2 fun b _ o e => old b o e
  have hfo : ∀ b ∈ fp, ∃ o, s2.heap.get? b = some o := fun b hb => let ⟨o, e, _⟩ := T.obj 0 _ st2 b hb; ⟨o, e⟩
  have fpD : ∀ b ∈ fp, s2.heap.objs.size ≠ b := fun b hb => let ⟨o, e⟩ := hfo b hb; Nat.ne_of_gt (Heap.lt_size e)
  have IY := comp_start I2 hix hcell hkind hfr f2 hfo (t' := s2.toks + ([] : List (Str × Value)).length) hCle hns₁ old
  have notS : ∀ b, s2.heap.objs.size ≤ b → b ∉ frs X.stack := fun b hb hs => by
    rcases List.mem_cons.mp (I2.stkSub b hs) with z | z
    · exact absurd (Nat.lt_of_lt_of_le I2.lt hb) (by rw [z]; exact Nat.lt_irrefl _)
    · exact I2.nofs hb z
  have from_ : ∀ {x : Str} {c : Addr}, (clOf X.env scope.names []).lookup x = some c → X.env.cells.lookup x = some c := fun {x c} e => clOf_from scope.names [] (fun y d q => by simp at q) e
  have cellD : ∀ x c, (clOf X.env scope.names []).lookup x = some c → c ≠ s2.heap.objs.size := fun x c e z => by
    obtain ⟨v, q⟩ := I2.cell x c (from_ e)
    exact absurd (q.lt) (by rw [z]; exact Nat.lt_irrefl _)
  have fY : ∀ {pl : List (Addr × Obj)} {H' : Hp}, (∀ p ∈ pl, p.1 = s2.heap.objs.size) → (∀ b ∈ fp, H' b = none) → ∀ b ∈ fp, FpOk (cxComp X scope P2.objs.size Nc s2 H2 fp) pl H' b := fun {pl H'} hpl hn b hb => by
    refine ⟨hn b hb, ?_, ?_, .inl hb, fun x c e => (f2 b hb).2.2.2.2.1 x c (from_ e), fun p hp => ?_⟩
    · obtain ⟨o, e⟩ := hfo b hb
      exact neC b (Heap.lt_size e)
    · intro hs
      rcases List.mem_cons.mp (I2.stkSub b hs) with z | z
      · exact (f2 b hb).2.1 z
      · exact (f2 b hb).2.2.1 z
    · rw [hpl p hp]
      exact fpD b hb
  have loop : ∀ s₃ : Shared, s₃ = { s2 with heap := h₁, toks := s2.toks + ([] : List (Str × Value)).length } →
      codeAny (model X.prog X.w) X.A (.compLoop (.ListComp elt [⟨tg, iter, ifs, 0⟩] scope pos) 0 (.ref it) (.ref s2.heap.objs.size) (compEnvC scope (clOf X.env scope.names []) P2.objs.size X.env)) (RR (.ref s2.heap.objs.size) P2.objs.size) s₃ := by
    rintro s₃ rfl
    refine compLoop_gen (fun n s' => ∃ i acc its nn H', Inv (cxComp X scope P2.objs.size Nc s2 H2 fp) [] (subSt σ ix) H' s' ∧ tn i s'.heap ∧ (∀ b ∈ fp, H' b = none) ∧
      s'.heap.get? s2.heap.objs.size = some { cls := .type "list", data := .seq (its : List Value).toArray nn } ∧ Vals acc its ∧ H' s2.heap.objs.size = none ∧ W i n acc H') ?_ m0
      ⟨0, [], [], 0, H2, IY, st₁, fun b hb => (f2 b hb).1, hacc, .nil, I2.hok.fresh (Nat.le_refl _), w0⟩
    rintro n s3 ⟨i, acc, its, nn, H3, I3, st3, fr3, eD, rv, nD, w3⟩
    obtain ⟨hz, alt⟩ := turn i n acc H3 w3
    have IP : Inv (cxComp X scope P2.objs.size Nc s2 H2 fp) [(s2.heap.objs.size, { cls := .type "list", data := .seq its.toArray nn })] (subSt σ ix) H3 s3 := I3.pins_of fun p hp => by
      have e : p = (s2.heap.objs.size, _) := List.mem_singleton.mp hp
      subst e
      refine ⟨eD, nD, hDC, notS _ (Nat.le_refl _), fun v z => ?_⟩
      have z' : Data.seq its.toArray nn = Data.cell v := z
      cases z'
    have hpl : ∀ p ∈ [(s2.heap.objs.size, ({ cls := .type "list", data := .seq its.toArray nn } : Obj))], p.1 = s2.heap.objs.size := fun p hp => by
      have e : p = (s2.heap.objs.size, _) := List.mem_singleton.mp hp
      rw [e]
    rcases alt with ⟨stop, fin⟩ | ⟨go, step⟩
    · refine thn (T.done (cxComp X scope P2.objs.size Nc s2 H2 fp) rfl rfl rfl hcalm i _ s3 _ H3 noE IP (fY hpl fr3) st3 stop) fun r s4 ⟨hr, I4⟩ => ?_
      subst hr
      obtain ⟨m, hn, _⟩ := id I4.loc
      obtain ⟨oC, es, ep, eC, dC, _⟩ := id hn
      have eD4 := (I4.pin (s2.heap.objs.size, _) (List.mem_append_right _ (List.mem_singleton.mpr rfl))).1
      have fin' := fin _ nD
      refine hRR _ _ oC m _ s4 eC hn ?_ (comp_exit I2 I4 f2 (Nat.le_refl _) hCle hDC eD4 rv (Nat.le_of_lt hz) nD eC fun v z => ?_) fin'
      · refine I2.fpOk hCle ?_
        rw [upd_ne (Ne.symm hDC)]
        exact I4.free
      · rw [dC] at z; cases z
    · refine thn (T.item (cxComp X scope P2.objs.size Nc s2 H2 fp) rfl rfl rfl hcalm i _ s3 _ H3 noE IP (fY hpl fr3) st3 go) fun r s4 ⟨u, hr, h4⟩ => ?_
      subst hr
      refine thn h4 fun _ s5 ⟨x, H5, I5, r5, y5, st5, fr5⟩ => ?_
      have I5' := I5.pinned (fY hpl fr5) (T.obj _ _ st5)
      refine thn (hG _ s2 H2 fp _ s5 _ H5 x u _ I5' r5 (step x H5 y5)) fun _ s6 ⟨σ6, H6, I6, wk, q6⟩ => ?_
      refine thn (hT _ s2 H2 fp _ s6 σ6 H6 _ I6 q6) fun b s7 ⟨H7, I7, q7⟩ => ?_
      have again : ∀ {H9 : Hp} {s9 : Shared} {m' : Nat}, Inv (cxComp X scope P2.objs.size Nc s2 H2 fp) ([(s2.heap.objs.size, ({ cls := .type "list", data := .seq its.toArray nn } : Obj))] ++ pinsAt fp s5.heap) σ6 H9 s9 →
          (s9.heap.get? s2.heap.objs.size = some { cls := .type "list", data := .seq its.toArray nn } ∧ H9 s2.heap.objs.size = none) ∧ tn (i + 1) s9.heap ∧ (∀ b ∈ fp, H9 b = none) ∧ Inv (cxComp X scope P2.objs.size Nc s2 H2 fp) [] (subSt σ ix) H9 s9 := fun {H9 s9 m'} I9 => by
        have pD := I9.pin (s2.heap.objs.size, _) (List.mem_append_right _ (List.mem_append_left _ (List.mem_singleton.mpr rfl)))
        refine ⟨⟨pD.1, pD.2.1⟩, T.keep _ _ _ st5 fun b hb o e => (I9.pin (b, o) (List.mem_append_right _ (List.mem_append_right _ (mem_pinsAt hb e)))).1, fun b hb => ?_, ?_⟩
        · obtain ⟨o, e, d⟩ := T.obj _ _ st5 b hb
          exact (I9.pin (b, o) (List.mem_append_right _ (List.mem_append_right _ (mem_pinsAt hb e)))).2.1
        · exact (I9.weak wk.len fun i v e => wk.get e).pins_of fun p hp => absurd hp (by simp)
      cases b with
      | false =>
        rw [if_neg Bool.false_ne_true] at q7 ⊢
        obtain ⟨m', hm, w7⟩ := q7
        obtain ⟨⟨e7, n7⟩, t7, f7, J7⟩ := again (m' := 0) I7
        exact ⟨m', hm, i + 1, acc, its, nn, H7, J7, t7, f7, e7, rv, n7, w7⟩
      | true =>
        rw [if_pos rfl] at q7 ⊢
        refine thn (hE _ s2 H2 fp _ s7 σ6 H7 _ I7 q7) fun y s8 ⟨v, H8, I8, r8, m', hm, w8⟩ => ?_
        obtain ⟨⟨e8, n8⟩, t8, f8, J8⟩ := again (m' := 0) I8
        refine wpAny_list_append_plain (items := its.toArray) ⟨nn, e8⟩ (fun h9 hl9 hs9 => ?_) (by rw [List.size_toArray, ← rv.length]; exact Nat.le_of_lt hz)
        obtain ⟨n9, e9⟩ := hl9
        refine ⟨m', hm, i + 1, acc ++ [v], its ++ [y], n9, H8, J8.turned (t' := s8.toks) (fun b o hb e => (hs9.2 b hb).trans e) n8 hDC (.inr (Nat.le_refl _)) cellD (fun p hp => absurd hp (by simp [cxComp])), ?_, f8, ?_, rv.append (.cons r8 .nil), n8, w8⟩
        · exact T.keep _ _ _ t8 fun b hb o e => (hs9.2 b (Ne.symm (fpD b hb))).trans e
        · simpa using e9
  exact codeAny_compStart_list (loop _ rfl) (T.self _ 0 _ _ _ st₁ (loop _ rfl))

/-- [elt for tg in iter if ..] -/
theorem pe_comp {X : Cx} {tg iter elt : Expr} {ifs : List Expr} {scope : Scope} {pos : Pos} {wi : TI} {g : TG} {tc : TT} {te : TE} (Nc : List Str) (ix : List (Option Nat)) (hi : PI X tg iter wi) (hcalm : X.calm = true) (hix : IxOk X scope Nc ix)
    (hcell : ∀ y ∈ scope.names, y.2 ≠ .cell) (hkind : scope.kind = .function) (hfr : ∀ y ∈ scope.names, y.2 = .free → X.env.kindOf y.1 = some .cell ∨ X.env.kindOf y.1 = some .free)
    (hnames : ∀ x ∈ scope.names, x.2 = .local → scope.names.lookup x.1 = some .local)
    (hG : ∀ C s H fp, PG (cxComp X scope C Nc s H fp) tg g) (hT : ∀ C s H fp, PF (cxComp X scope C Nc s H fp) ifs tc) (hE : ∀ C s H fp, PE (cxComp X scope C Nc s H fp) elt te)
    (hs : ∀ x, foldedSetIterable iter X.env x = pure x := by intro _; rfl) : PE X (.ListComp elt [⟨tg, iter, ifs, 0⟩] scope pos) (tComp wi ix g tc te) := by
  intro pins s σ H Q I h
  rw [eval_ListComp]
  have hfc : ∀ y ∈ scope.names, y.2 = .free → ∃ c, X.env.cells.lookup y.1 = some c := fun y hy e => I.ok.has y.1 (hfr y hy e)
  refine wpAny_comprehension_free (use := none) rfl hs (closureFor_cl hfc) hkind hnames (comp_core hi hcalm hix hcell hkind hfr hG hT hE I h (RR := fun acc C => compPost (model X.prog X.w) X.A X.xe none (EP X pins σ Q) acc C) ?_)
  intro D C oC m H' s' eC hn fC I' q
  refine ⟨m, hn, fun h' hs' => ⟨.ref D, H', ?_, rfl, q⟩⟩
  exact I'.unpinned.turned (t' := s'.toks) (fun b o hb e => (hs'.2 b hb).trans e) fC.1 fC.2.1 fC.2.2.2.1 fC.2.2.2.2.1 fC.2.2.2.2.2
end L2
namespace L2
open PySem PySem.Spec PyProof.Rows
/-! ### texts as lists of codes -/
def S (l : List Nat) : Str := ⟨l.toArray⟩
theorem S_list (l : List Nat) : (S l).cps.toList = l := by simp [S]
theorem S_len (l : List Nat) : (S l).length = l.length := by simp [S, Str.length]
theorem S_size (l : List Nat) : (S l).cps.size = l.length := by simp [S]
theorem S_inj {a b : List Nat} (h : S a = S b) : a = b := by
  have := congrArg (fun x : Str => x.cps.toList) h
  simpa [S] using this
theorem S_of (x : Str) : x = S x.cps.toList := by cases x; simp [S]
theorem S_app (a b : List Nat) : S a ++ S b = S (a ++ b) := by
  apply Str.ext'
  apply Array.toList_inj.mp
  simp [S, Str.cps_append]
theorem dec_S {a b : List Nat} : decide (V.str (S a) = V.str (S b)) = decide (a = b) := by
  by_cases h : a = b
  · subst h; simp
  · rw [decide_eq_false h, decide_eq_false]
    intro q
    exact h (S_inj (V.str.inj q))
/-- a part of a list by a slice's bounds -/
def cut {α : Type} (xs : List α) (lo hi : Option Int) : List α := (xs.drop (HT.sIx xs.length 0 lo)).take (HT.sIx xs.length xs.length hi - HT.sIx xs.length 0 lo)
theorem clip_sIx (n d : Nat) (v : Int) : max 0 (min (if v < 0 then v + (n : Int) else v) (n : Int)) = ((HT.sIx n d (some v) : Nat) : Int) := by
  show _ = (((if v < 0 then (v + (n : Int)).toNat else min v.toNat n) : Nat) : Int)
  by_cases hv : v < 0
  · simp only [if_pos hv]; omega
  · simp only [if_neg hv]; omega
theorem indices_sIx (lo hi : Option Int) (n : Nat) : Builtin.Str.strSliceIndices lo hi 1 n = (List.range (HT.sIx n n hi - HT.sIx n 0 lo)).map (HT.sIx n 0 lo + ·) := by
  have h1 : (1 : Int) > 0 := by decide
  rw [← sliceRange_one]
  unfold Builtin.Str.strSliceIndices
  simp only [h1, if_true]
  congr 1
  · cases lo with
    | none => rfl
    | some v => exact clip_sIx n 0 v
  · cases hi with
    | none => rfl
    | some v => exact clip_sIx n n v
theorem slice_S (l : List Nat) (lo hi : Option Int) : Txt.slice (S l) lo hi = S (cut l lo hi) := by
  have hx : ((Builtin.Str.strSliceIndices lo hi 1 (S l).length).filterMap ((S l).cps[·]?)) = cut l lo hi := by
    rw [S_len, indices_sIx, pick_run, S_list]
    rfl
  have hlen : (Builtin.Str.strSliceIndices lo hi 1 (S l).length).length = HT.sIx l.length l.length hi - HT.sIx l.length 0 lo := by
    rw [S_len, indices_sIx, List.length_map, List.length_range]
  unfold Txt.slice
  by_cases hc : ((1 : Int) == 1 && (Builtin.Str.strSliceIndices lo hi 1 (S l).length).length == (S l).length) = true
  · rw [if_pos hc]
    rw [hlen, S_len] at hc
    have e : HT.sIx l.length l.length hi - HT.sIx l.length 0 lo = l.length := by simpa using hc
    have h2 := HT.sIx_le l.length l.length (Nat.le_refl _) hi
    have e0 : HT.sIx l.length 0 lo = 0 ∨ l.length = 0 := by omega
    unfold cut
    rw [e]
    rcases e0 with z | z
    · rw [z]; simp
    · have : l = [] := List.eq_nil_of_length_eq_zero z
      subst this
      simp
  · rw [if_neg hc]
    rw [hx]
    rfl

section
variable {X : Cx}
theorem pe_S {x : Str} {j pos} (l : List Nat) (h : x = S l) : PE X (.Constant (.str x) j pos) (tC (.str (S l))) := by
  subst h
  exact pe_str
def rAddS : R2 := fun x y H Q => ∃ a b, x = .str (S a) ∧ y = .str (S b) ∧ a.length + b.length ≤ sizeLine ∧ Q (.str (S (a ++ b))) H
theorem op_addS : OpR X (binaryOp .Add) rAddS := by
  intro pins s σ H x y v u Q I rx ry h
  obtain ⟨a, b, rfl, rfl, hz, q⟩ := h
  exact op_add_str pins s σ H _ _ v u Q I rx ry ⟨S a, S b, rfl, rfl, by rw [S_len, S_len]; exact hz, by rw [S_app]; exact q⟩
theorem iop_addS : OpR X (inplaceOp .Add) rAddS := by
  intro pins s σ H x y v u Q I rx ry h
  obtain ⟨a, b, rfl, rfl, hz, q⟩ := h
  exact iop_add_str pins s σ H _ _ v u Q I rx ry ⟨S a, S b, rfl, rfl, by rw [S_len, S_len]; exact hz, by rw [S_app]; exact q⟩
def rIxS' : R2 := fun x y H Q => ∃ l i c, x = .str (S l) ∧ y = .int i ∧ l.length ≤ sizeLine ∧ atI l i = some c ∧ Q (.str (S [c])) H
theorem ix_S : IxR X rIxS' := by
  intro value slice pins s σ H x y v u Q I rx ry h hs
  obtain ⟨l, i, c, rfl, rfl, hz, he, q⟩ := h
  exact ix_str value slice pins s σ H _ _ v u Q I rx ry ⟨S l, i, c, rfl, rfl, by rw [S_len]; exact hz, by rw [S_list]; exact he, q⟩ hs
def rSlS : V → Option Int → Option Int → Hp → VK → Prop := fun x lo hi H Q => ∃ l, x = .str (S l) ∧ l.length ≤ sizeLine ∧ Q (.str (S (cut l lo hi))) H
theorem sl_S : SlR X rSlS := by
  intro pins s σ H x v vl vu lo hi sl Q I rx hs pl pu h
  obtain ⟨l, rfl, hz, q⟩ := h
  obtain ⟨t, rfl⟩ := rx
  refine ⟨"str", _, F.slot_str_getitem.lookup, typeIs_str _ _ _, ?_⟩
  have key : ∀ (a b : Option (Int × Tok)), vl = partValue a → vu = partValue b → a.map (·.1) = lo → b.map (·.1) = hi → wpAny (model X.prog X.w) X.A (getItem (.str (S l) t) (.ref sl)) (EP X pins σ Q) X.xe s := by
    rintro a b rfl rfl rfl rfl
    obtain ⟨o, e, c, d⟩ := hs
    refine wpAny_getItem_str_slice (l := a) (u := b) (st := none) ⟨o, e, c, d⟩ rfl (post_val_or_str ⟨?_, fun t' k => ?_⟩)
    · exact Nat.le_trans (Txt.slice_le (S l) _ _) (by rw [S_len]; exact hz)
    · exact ⟨.str (S (cut l _ _)), H, I.tok _, ⟨t', congrArg (fun z => Value.str z t') (slice_S l _ _)⟩, q⟩
  cases pl with
  | none =>
    cases pu with
    | none => exact key none none rfl rfl rfl rfl
    | int i ti => exact key none (some (i, ti)) rfl rfl rfl rfl
  | int i ti =>
    cases pu with
    | none => exact key (some (i, ti)) none rfl rfl rfl rfl
    | int j tj => exact key (some (i, ti)) (some (j, tj)) rfl rfl rfl rfl
theorem call_lenS : CallR X (.builtin "len") (fun xs H Q => ∃ l, xs = [.str (S l)] ∧ l.length ≤ sizeLine ∧ Q (.int l.length) H) := by
  intro pins s σ H xs us Q I r h
  obtain ⟨l, rfl, hz, q⟩ := h
  exact call_len_str pins s σ H _ us Q I r ⟨S l, rfl, by rw [S_len]; exact hz, by rw [S_len]; exact q⟩
/-- list(text) -/
def sgs (l : List Nat) : List V := l.map fun c => V.str (S [c])
theorem vals_signs {l : List Nat} : ∀ {acc : List Value} , acc.length = l.length → (∀ j v, acc[j]? = some v → SignAt (S l) j v) → Vals (sgs l) acc := by
  induction l with
  | nil => intro acc h _; have : acc = [] := List.eq_nil_of_length_eq_zero h; subst this; exact .nil
  | cons c l ih =>
    intro acc h k
    cases acc with
    | nil => cases h
    | cons a acc =>
      refine .cons ?_ (ih (by simpa using h) fun j v e => ?_)
      · obtain ⟨c', u, e1, e2⟩ := k 0 a rfl
        have : c = c' := by simpa [S] using e1
        subst this
        exact ⟨u, e2⟩
      · obtain ⟨c', u, e1, e2⟩ := k (j + 1) v (by simpa using e)
        exact ⟨c', u, by simpa [S] using e1, e2⟩
theorem call_listS (hc : X.calm = true) : CallR X (.type "list") (fun xs H Q => ∃ l, xs = [.str (S l)] ∧ l.length ≤ sizeLine ∧ ∀ p, H p = none → Q (.ref p) (upd H p (.lst (sgs l)))) := by
  intro pins s σ H xs us Q I r h
  obtain ⟨l, rfl, hz, q⟩ := h
  obtain ⟨u, rfl, t, rfl⟩ := vals1 r
  refine call_list_str (I.ok.hd hc) (S l) t (fun h' tk acc' c' hk e hacc => ?_) (by rw [S_size]; exact hz)
  obtain ⟨h1, h2⟩ := hacc
  rw [S_size] at h1
  refine ⟨.ref s.heap.objs.size, _, I.laid (t' := tk) (o := .lst (sgs l)) hk (Nat.le_refl _) ?_, rfl, q _ I.fresh⟩
  exact ⟨by unfold sgs; rw [List.length_map]; exact hz, acc'.toList, c', vals_signs (by simpa using h1) (fun j v e => h2 j v (by simpa using e)), by simpa using e⟩
/-- one sign in a text -/
def rInS : R2 := fun x y H Q => ∃ c l, x = .str (S [c]) ∧ y = .str (S l) ∧ Q (.bl (decide (c ∈ l))) H
theorem op_inS : OpR X (compareOp .In) rInS := by
  intro pins s σ H x y v u Q I rx ry h
  obtain ⟨c, l, rfl, rfl, q⟩ := h
  refine op_in_str pins s σ H _ _ v u Q I rx ry ⟨S [c], S l, rfl, rfl, ?_⟩
  have e := StrLaws.found_one (S l) c
  rw [S_list] at e
  rw [show (S [c]) = (⟨#[c]⟩ : Str) from rfl, e]
  exact q
end
end L2
namespace L2
open PySem PySem.Spec PyProof.Rows
/-! ### the first place of a sign -/
theorem occ_stays (s sub : Str) (hi : Nat) : ∀ (l : List Nat) (st : Array Nat × Nat), 1 ≤ st.fst.size → (forIn l st (StrLaws.occBody s sub hi 1)).run.fst = st.fst
  | [], st, h => rfl
  | a :: l, st, h => by
    rw [List.forIn_cons]
    unfold StrLaws.occBody
    rw [if_neg (fun z => absurd z.1.1.1 (Nat.not_lt.mpr h))]
    exact occ_stays s sub hi l _ h
theorem occ_first (s sub : Str) (hi : Nat) : ∀ (l : List Nat) (free : Nat), (∀ i ∈ l, free ≤ i) →
    (forIn l ((#[] : Array Nat), free) (StrLaws.occBody s sub hi 1)).run.fst.toList = (l.find? fun i => decide (i + sub.length ≤ hi) && Builtin.Str.subAt s sub i).toList
  | [], free, _ => rfl
  | a :: l, free, hf => by
    rw [List.forIn_cons, List.find?_cons]
    unfold StrLaws.occBody
    have ha : free ≤ a := hf a List.mem_cons_self
    by_cases hc : a + sub.length ≤ hi ∧ Builtin.Str.subAt s sub a = true
    · rw [if_pos ⟨⟨⟨by simp, ha⟩, hc.1⟩, hc.2⟩]
      have : (decide (a + sub.length ≤ hi) && Builtin.Str.subAt s sub a) = true := by simp [hc]
      rw [this]
      show (forIn l (#[].push a, a + sub.length) (StrLaws.occBody s sub hi 1)).run.fst.toList = _
      rw [occ_stays s sub hi l _ (by simp)]
      rfl
    · rw [if_neg (fun z => hc ⟨z.1.2, z.2⟩)]
      have : (decide (a + sub.length ≤ hi) && Builtin.Str.subAt s sub a) = false := by
        cases h1 : decide (a + sub.length ≤ hi) with
        | false => rfl
        | true =>
          cases h2 : Builtin.Str.subAt s sub a with
          | false => rfl
          | true => exact absurd ⟨of_decide_eq_true h1, h2⟩ hc
      rw [this]
      exact occ_first s sub hi l free fun i hi' => hf i (List.mem_cons_of_mem _ hi')
theorem subAt_one (l : List Nat) (c i : Nat) : Builtin.Str.subAt (S l) (S [c]) i = (l[i]? == some c) := by
  unfold Builtin.Str.subAt
  rw [S_len]
  show ((S l).cps.extract i (i + 1) == #[c]) = _
  have e : ((S l).cps.extract i (i + 1)) = ((l.drop i).take 1).toArray := by
    apply Array.toList_inj.mp
    simp [S, List.take_drop]
  rw [e]
  by_cases h : i < l.length
  · have e2 : (l.drop i).take 1 = [l[i]] := by
      rw [List.drop_eq_getElem_cons h]; rfl
    rw [e2, List.getElem?_eq_getElem h]
    by_cases hc : l[i] = c
    · rw [hc]; simp
    · have h1 : ([l[i]].toArray == #[c]) = false := by
        rw [beq_eq_false_iff_ne]
        intro z
        apply hc
        have := congrArg Array.toList z
        simpa using this
      have h2 : (some l[i] == some c) = false := by simpa using hc
      rw [h1, h2]
  · have e2 : (l.drop i).take 1 = [] := by rw [List.drop_eq_nil_of_le (by omega)]; rfl
    rw [e2, List.getElem?_eq_none (by omega)]
    rfl
theorem find_idx (l : List Nat) (c : Nat) : ∀ (k n : Nat), k + n = l.length + 1 → ((List.range' k n).find? fun i => decide (i + 1 ≤ l.length) && (l[i]? == some c)) = if c ∈ l.drop k then some (k + (l.drop k).idxOf c) else none
  | k, 0, h => by
    have : l.drop k = [] := List.drop_eq_nil_of_le (by omega)
    rw [this]; simp
  | k, n + 1, h => by
    rw [List.range'_succ, List.find?_cons]
    by_cases hk : k < l.length
    · have e : l.drop k = l[k] :: l.drop (k + 1) := List.drop_eq_getElem_cons hk
      rw [List.getElem?_eq_getElem hk, e]
      by_cases hc : l[k] = c
      · have : (decide (k + 1 ≤ l.length) && (some l[k] == some c)) = true := by simp [hc]; omega
        rw [this, if_pos (by simp [hc])]
        simp [hc]
      · have : (decide (k + 1 ≤ l.length) && (some l[k] == some c)) = false := by simp [hc]
        rw [this, find_idx l c (k + 1) n (by omega)]
        have hc' : ¬ c = l[k] := fun z => hc z.symm
        by_cases hm : c ∈ l.drop (k + 1)
        · rw [if_pos hm, if_pos (List.mem_cons_of_mem _ hm), List.idxOf_cons]
          have : (l[k] == c) = false := by simpa using hc
          rw [this]
          show some (k + 1 + List.idxOf c (List.drop (k + 1) l)) = some (k + (List.idxOf c (List.drop (k + 1) l) + 1))
          congr 1
          omega
        · rw [if_neg hm, if_neg (by intro z; rcases List.mem_cons.mp z with z | z; exact hc' z; exact hm z)]
    · have : l.drop k = [] := List.drop_eq_nil_of_le (by omega)
      have e1 : (decide (k + 1 ≤ l.length) && (l[k]? == some c)) = false := by
        rw [decide_eq_false (by omega)]; rfl
      have e2 : l.drop (k + 1) = [] := List.drop_eq_nil_of_le (by omega)
      rw [e1, find_idx l c (k + 1) n (by omega), this, e2]
      simp
theorem occ_S (l : List Nat) (c : Nat) : Builtin.Str.occurrences (S l) (S [c]) 0 (S l).length 1 = if c ∈ l then [l.idxOf c] else [] := by
  rw [StrLaws.occ_eq, occ_first _ _ _ _ 0 fun _ _ => Nat.zero_le _]
  have e : (fun i => decide (i + (S [c]).length ≤ (S l).length) && Builtin.Str.subAt (S l) (S [c]) i) = fun i => decide (i + 1 ≤ l.length) && (l[i]? == some c) := by
    funext i
    rw [subAt_one, S_len, S_len]
    rfl
  rw [e, S_len, Nat.sub_zero, find_idx l c 0 (l.length + 1) (by omega), List.drop_zero]
  by_cases h : c ∈ l
  · rw [if_pos h, if_pos h, Nat.zero_add]; rfl
  · rw [if_neg h, if_neg h]; rfl

section
variable {X : Cx}
def rIndexS : V → List V → Hp → VK → Prop := fun x vs H Q => ∃ l c, x = .str (S l) ∧ vs = [.str (S [c])] ∧ c ∈ l ∧ Q (.int (l.idxOf c : Nat)) H
theorem mt_indexS : MtR X "str.index" rIndexS := by
  intro pins s σ H x xs v us Q I rx rv h
  obtain ⟨l, c, rfl, rfl, hc, q⟩ := h
  obtain ⟨t, rfl⟩ := rx
  obtain ⟨u, rfl, t', rfl⟩ := vals1 rv
  exact SC.index (i := l.idxOf c) (rest := []) (by rw [occ_S, if_pos hc]) ⟨.int (l.idxOf c : Nat), H, I.tok _, ⟨_, rfl⟩, q⟩
/-- one ASCII sign: islower, isupper, upper, lower -/
def rLowS (f : Nat → Bool) : V → List V → Hp → VK → Prop := fun x vs H Q => ∃ c, x = .str (S [c]) ∧ vs = [] ∧ c < 128 ∧ Q (.bl (f c)) H
def rUpS (f : Nat → Nat) : V → List V → Hp → VK → Prop := fun x vs H Q => ∃ c, x = .str (S [c]) ∧ vs = [] ∧ c < 128 ∧ Q (.str (S [f c])) H
def isLow (c : Nat) : Bool := decide (97 ≤ c) && decide (c ≤ 122)
theorem low_all : ∀ c, c < 128 → Txt.islower ⟨#[c]⟩ = isLow c := by decide +kernel
theorem mt_islower : MtR X "str.islower" (rLowS isLow) := by
  intro pins s σ H x xs v us Q I rx rv h
  obtain ⟨c, rfl, rfl, hc, q⟩ := h
  obtain ⟨t, rfl⟩ := rx
  have e : us = [] := by cases rv; rfl
  subst e
  exact SC.islower ⟨.bl (isLow c), H, I, congrArg Value.bool (low_all c hc), q⟩
theorem upper_one {c : Nat} (hc : c < 128) : Txt.upper (S [c]) = S [up1 c] := by
  rw [upper_ascii (by intro d hd; rw [S_list] at hd; simp at hd; omega)]
  simp [S]
theorem lower_one {c : Nat} (hc : c < 128) : Txt.lower (S [c]) = S [lo1 c] := by
  rw [lower_ascii (by intro d hd; rw [S_list] at hd; simp at hd; omega)]
  simp [S]
theorem fits1 (c : Nat) : Builtin.Str.tooLong (S [c]).length = false := by
  rw [S_len]
  show Builtin.Str.tooLong 1 = false
  decide
theorem mt_upper : MtR X "str.upper" (rUpS up1) := by
  intro pins s σ H x xs v us Q I rx rv h
  obtain ⟨c, rfl, rfl, hc, q⟩ := h
  obtain ⟨t, rfl⟩ := rx
  have e : us = [] := by cases rv; rfl
  subst e
  exact SC.upper (by rw [upper_one hc]; exact fits1 _) ⟨.str (S [up1 c]), H, I.tok _, ⟨_, congrArg (fun z => Value.str z _) (upper_one hc)⟩, q⟩
theorem mt_lower : MtR X "str.lower" (rUpS lo1) := by
  intro pins s σ H x xs v us Q I rx rv h
  obtain ⟨c, rfl, rfl, hc, q⟩ := h
  obtain ⟨t, rfl⟩ := rx
  have e : us = [] := by cases rv; rfl
  subst e
  exact SC.lower (by rw [lower_one hc]; exact fits1 _) ⟨.str (S [lo1 c]), H, I.tok _, ⟨_, congrArg (fun z => Value.str z _) (lower_one hc)⟩, q⟩
/-! ### ''.join(list of texts) -/
theorem glue_S : ∀ (ls : List (List Nat)) (a : Array Nat), (ls.map S).foldl (fun acc p => acc ++ (S []).cps ++ p.cps) a = a ++ ls.flatten.toArray
  | [], a => by simp
  | l :: ls, a => by
    rw [List.map_cons, List.foldl_cons, glue_S ls]
    simp [S]
theorem join_S (ls : List (List Nat)) : Txt.join (S []) (ls.map S) = S ls.flatten := by
  unfold Txt.join Builtin.Str.glued
  cases ls with
  | nil => rfl
  | cons l ls =>
    show Str.mk ((List.map S ls).foldl (fun acc p => acc ++ (S []).cps ++ p.cps) (S l).cps) = _
    rw [glue_S]
    simp [S]
theorem strsAre_of : ∀ {ls : List (List Nat)} {us : List Value}, Vals (ls.map fun l => V.str (S l)) us → StrsAre us (ls.map S)
  | [], us, r => by cases r; exact .nil
  | l :: ls, us, r => by
    cases r with
    | cons r1 r2 =>
      obtain ⟨t, rfl⟩ := r1
      exact .cons _ t (strsAre_of r2)
def rJoinS (K : PySem.W.Frag) : V → List V → Hp → VK → Prop := fun x vs H Q => ∃ (p : Addr) (ls : List (List Nat)), x = .str (S []) ∧ vs = [.ref p] ∧ SqL K H p (ls.map fun l => V.str (S l)) ∧ (ls.map List.length).sum ≤ 16777216 ∧ Q (.str (S ls.flatten)) H
theorem mt_joinS : MtR X "str.join" (rJoinS X.K) := by
  intro pins s σ H x xs v us Q I rx rv h
  obtain ⟨p, ls, rfl, rfl, hq, hz, q⟩ := h
  obtain ⟨t, rfl⟩ := rx
  obtain ⟨u, rfl, ru⟩ := vals1 rv
  cases ru
  obtain ⟨its, r, pl, _⟩ := I.list hq
  have e : (S []).length = 0 := rfl
  refine join_list pl.isList (by simpa using strsAre_of r) ?_ fun t' k => ?_
  · rw [e, Nat.mul_zero, Nat.add_zero, List.map_map]
    have e2 : (Str.length ∘ S) = List.length := by funext l; exact S_len l
    have e3 : ((fun x : Str => x.length) ∘ S) = List.length := by funext l; exact S_len l
    first | (rw [e2]; exact hz) | (rw [e3]; exact hz)
  · exact ⟨.str (S ls.flatten), H, I.tok _, ⟨t', congrArg (fun z => Value.str z t') (join_S ls)⟩, q⟩
/-! ### isinstance(x, str) -/
/-! ### all(list of truths) -/
theorem call_allB (hc : X.calm = true) : CallR X (.builtin "all") (fun xs H Q => ∃ (p : Addr) (bs : List Bool), xs = [.ref p] ∧ SqL X.K H p (bs.map V.bl) ∧ Q (.bl (bs.all id)) H) := by
  intro pins s σ H xs us Q I r h
  obtain ⟨p, bs, rfl, hq, q⟩ := h
  obtain ⟨u, rfl, ru⟩ := vals1 r
  cases ru
  obtain ⟨its, rv, pl, hz⟩ := I.list hq
  have hlen : its.length = bs.length := by rw [← rv.length, List.length_map]
  have hp : p < s.heap.objs.size := by
    obtain ⟨o, n, e, _⟩ := pl
    exact Heap.lt_size e
  refine call_all_walk (wpAny_pyIter_list pl.isList ?_)
  refine ⟨s.heap.objs.size, _, _, _, _, _, fun i => (bs[i]?).getD true, rfl, Walks.list (A := X.A.in1) (I.ok.hd hc) s.heap.objs.size p (Nat.ne_of_lt hp) its.toArray, ⟨⟨_, Heap.get?_push_size _ rfl, rfl, rfl⟩, ?_⟩, fun i v s' Q' E' hP hQ => ?_, fun h' tk hk => ?_⟩
  · obtain ⟨o, ho, hr⟩ := pl.isList
    exact ⟨o, Heap.get?_push_of_some _ ho, hr⟩
  · have hP' : its[i]? = some v := by simpa using hP
    have hi : i < bs.length := by rw [← hlen]; exact (List.getElem?_eq_some_iff.mp hP').1
    have hb : (bs.map V.bl)[i]? = some (V.bl bs[i]) := by rw [List.getElem?_map, List.getElem?_eq_getElem hi]; rfl
    obtain ⟨u, hu, ru⟩ := rv.get hb
    rw [hP'] at hu; cases hu
    cases (show v = Value.bool bs[i] from ru)
    have e : (bs[i]?).getD true = bs[i] := by rw [List.getElem?_eq_getElem hi]; rfl
    have hQ' : Q' ((bs[i]?).getD true) s' := hQ
    rw [e] at hQ'
    exact wpAny_pure hQ'
  · have e : ((List.range its.toArray.size).all fun i => (bs[i]?).getD true) = bs.all id := by
      rw [List.size_toArray, hlen]
      clear hq rv hlen q
      rw [Bool.eq_iff_iff, List.all_eq_true, List.all_eq_true]
      constructor
      · intro h b hb
        obtain ⟨i, hi, e⟩ := List.getElem_of_mem hb
        have := h i (List.mem_range.mpr hi)
        rw [List.getElem?_eq_getElem hi, e] at this
        exact this
      · intro h i hi
        have hi' := List.mem_range.mp hi
        rw [List.getElem?_eq_getElem hi']
        exact h _ (List.getElem_mem hi')
    have I1 : Inv X pins σ H { s with heap := h', toks := tk } := by
      have I0 : Inv X pins σ H { s with heap := s.heap.push { cls := .type "list_iterator", data := .fields #[.ref p, .int 0 0] } } := I.kept (t' := s.toks) fun b o e => Heap.get?_push_of_some _ e
      have f := I.fpOk (H' := H) (b := s.heap.objs.size) (Nat.le_refl _) I.fresh
      have J := I0.turned (h' := h') (t' := tk) (it := s.heap.objs.size) (fun b o hb e => hk b o (by simpa using hb) e) f.1 f.2.1 f.2.2.2.1 f.2.2.2.2.1 f.2.2.2.2.2
      exact J
    exact ⟨.bl (bs.all id), H, I1, by rw [e]; rfl, q⟩
end
end L2
namespace L2.F2
open PySem PySem.Spec PyProof.Rows
end L2.F2
namespace L2
open PySem PySem.Spec PyProof.Rows
section
variable {prog : Program} {w : World} {A : Around} {E : Value → Shared → Prop} {s : Shared}
/-- the iterator at it: i is the next place -/
def IsRevS (h : Heap) (it : Addr) (x : Str) (t : Tok) (i : Int) : Prop := ∃ o, h.get? it = some o ∧ o.cls = .type "reversed" ∧ o.data = .fields #[.str x t, rawInt i]
theorem IsRevS.typeIs {it : Addr} {x : Str} {t : Tok} {i : Int} (h : IsRevS s.heap it x t i) : s.TypeIs (.ref it) "reversed" := let ⟨o, ho, hc, _⟩ := h; ⟨o, ho, hc⟩
end
/-! ### fixed items -/
def Itx (xs : List V) : It := ⟨fun i _ => i < xs.length, fun i H x H' => H' = H ∧ xs[i]? = some x, fun i _ => xs.length ≤ i⟩
theorem sgs_get {l : List Nat} {i : Nat} {x : V} (h : (sgs l)[i]? = some x) : ∃ c, l[i]? = some c ∧ x = .str (S [c]) := by
  unfold sgs at h
  rw [List.getElem?_map] at h
  cases e : l[i]? with
  | none => rw [e] at h; cases h
  | some c => rw [e] at h; cases h; exact ⟨c, rfl, rfl⟩
theorem sgs_len (l : List Nat) : (sgs l).length = l.length := by unfold sgs; rw [List.length_map]
theorem turn_str {P : Program} {w : World} {K : PySem.W.Frag} {tg : Expr} (it : Addr) (l : List Nat) (t : Tok) : Turn P w K tg (Itx (sgs l)) [it] it (fun i h => h.IsStrIter it (strIterType (S l)) (S l) t i) where
  mem := by simp
  obj := fun i h st b hb => by
    have e : b = it := by simpa using hb
    subst e
    obtain ⟨o, e, c, d⟩ := st
    exact ⟨o, e, fun v z => by rw [d] at z; cases z⟩
  keep := fun i h h' st k => let ⟨o, e, r⟩ := st; ⟨o, k it (by simp) o e, r⟩
  item := by
    intro X hP hw hK hc i pins s σ H E I hf st hg
    subst hP hw hK
    have hg' : i < l.length := by have : i < (sgs l).length := hg; rwa [sgs_len] at this
    obtain ⟨f0, f1, f2, f3, f4, f5⟩ := hf it (by simp)
    have fin : ∀ (v : Value) (h' : Heap) (tk : Nat), SignAt (S l) i v → h'.IsStrIter it (strIterType (S l)) (S l) t (i + 1) → (∀ b o, b ∉ [it] → s.heap.get? b = some o → h'.get? b = some o) →
        ∃ u, some v = some u ∧ wpAny (model X.prog X.w) X.A (letOwnedTupleGo tg (.ref it) u) (fun _ s2 => ∃ x H', Inv X pins σ H' s2 ∧ RelV x u ∧ (Itx (sgs l)).yld i H x H' ∧ s2.heap.IsStrIter it (strIterType (S l)) (S l) t (i + 1) ∧ ∀ b ∈ [it], H' b = none) E { s with heap := h', toks := tk } := by
      intro v h' tk hv st' kk
      obtain ⟨c, u, e1, e2⟩ := hv
      subst e2
      have I1 : Inv X pins σ H { s with heap := h', toks := tk } := I.turned (fun b o hb e => kk b o (by simpa using hb) e) f0 f1 f3 f4 f5
      obtain ⟨o, e, cc, d⟩ := id st'
      refine ⟨_, rfl, go_of (s := { s with heap := h', toks := tk }) e cc d (by unfold strIterType; split <;> decide) ⟨.str (S [c]), H, I1, ⟨u, rfl⟩, ⟨rfl, ?_⟩, st', fun b hb => (hf b hb).1⟩⟩
      unfold sgs
      rw [List.getElem?_map]
      have e1' : l[i]? = some c := by simpa [S] using e1
      rw [e1']
      rfl
    have hsz : i < (S l).cps.size := by rw [S_size]; exact hg'
    by_cases ha : (S l).cps.all (· < 128) = true
    · have et : strIterType (S l) = "str_ascii_iterator" := by unfold strIterType; rw [if_pos ha]
      rw [et] at st
      exact (Walks.strAscii (prog := X.prog) (w := X.w) (I.ok.hd hc) it (S l) t).item i s _ _ hsz st fun v h' tk hv st' kk => fin v h' tk hv (by rw [et]; exact st') kk
    · have et : strIterType (S l) = "str_iterator" := by unfold strIterType; rw [if_neg ha]
      rw [et] at st
      exact (Walks.strWide (prog := X.prog) (w := X.w) (I.ok.hd hc) it (S l) t).item i s _ _ hsz st fun v h' tk hv st' kk => fin v h' tk hv (by rw [et]; exact st') kk
  done := by
    intro X hP hw hK hc i pins s σ H E I hf st hg
    subst hP hw hK
    obtain ⟨f0, f1, f2, f3, f4, f5⟩ := hf it (by simp)
    have hg' : l.length ≤ i := by have : (sgs l).length ≤ i := hg; rwa [sgs_len] at this
    have hx : (S l).cps[i]? = none := by rw [Array.getElem?_eq_none_iff, S_size]; exact hg'
    by_cases ha : (S l).cps.all (· < 128) = true
    · have et : strIterType (S l) = "str_ascii_iterator" := by unfold strIterType; rw [if_pos ha]
      rw [et] at st
      exact wpAny_pyNext_ascii_end (I.ok.hd hc) st hx fun h' eb => ⟨rfl, I.turned (t' := s.toks) (fun b o hb e => eb b o hb e) f0 f1 f3 f4 f5⟩
    · have et : strIterType (S l) = "str_iterator" := by unfold strIterType; rw [if_neg ha]
      rw [et] at st
      exact wpAny_pyNext_wide_end (I.ok.hd hc) st hx fun h' eb => ⟨rfl, I.turned (t' := s.toks) (fun b o hb e => eb b o hb e) f0 f1 f3 f4 f5⟩
  self := fun _ _ s _ _ st h => by
    by_cases ha : (S l).cps.all (· < 128) = true
    · have et : strIterType (S l) = "str_ascii_iterator" := by unfold strIterType; rw [if_pos ha]
      rw [et] at st
      exact wpAny_pyIter_striter_ascii st h
    · have et : strIterType (S l) = "str_iterator" := by unfold strIterType; rw [if_neg ha]
      rw [et] at st
      exact wpAny_pyIter_striter_wide st h
section
variable {X : Cx} {tg : Expr}
def iStr (tl : TE) : TI := fun σ H R => tl σ H fun x H1 => ∃ l, x = .str (S l) ∧ R (Itx (sgs l)) H1
theorem pi_str {l : Expr} {tl : TE} (hl : PE X l tl) : PI X tg l (iStr tl) := by
  intro pins s σ H R I h
  refine thn (hl pins s σ H _ I h) fun v s1 ⟨x, H1, I1, r1, q1⟩ => ?_
  obtain ⟨l, rfl, q⟩ := q1
  obtain ⟨t, rfl⟩ := r1
  refine wpAny_pyIter_strU ?_
  refine ⟨s1.heap.objs.size, [s1.heap.objs.size], _, _, H1, rfl, I1.kept (t' := s1.toks) fun b o e => Heap.get?_push_of_some _ e, turn_str _ l t, ⟨_, Heap.get?_push_size _ rfl, rfl, rfl⟩, fun b hb => ?_, q⟩
  have e : b = s1.heap.objs.size := by simpa using hb
  subst e
  exact I1.fpOk (Nat.le_refl _) (I1.hok.fresh (Nat.le_refl _))
end
/-! ### loops and comprehensions over fixed items -/
theorem for_fix {xs : List V} {g : TG} {tb : TS} {D : Ends} {σ : St} {H : Hp} (Pv : Nat → St → Hp → Prop) (h0 : Pv 0 σ H)
    (hs : ∀ i x σ H, xs[i]? = some x → Pv i σ H → g x σ H fun σ2 H2 => tb { D with nx := Pv (i + 1), ct := Pv (i + 1), bk := D.nx } σ2 H2) (hd : ∀ σ H, Pv xs.length σ H → D.nx σ H) :
    ∃ W : Nat → Nat → St → Hp → Prop, (∃ m, W 0 m σ H) ∧ ∀ i m σ H, W i m σ H →
      ((Itx xs).stop i H ∧ D.nx σ H) ∨ ((Itx xs).go i H ∧ ∃ N : St → Hp → Prop, (∀ σ' H', N σ' H' → ∃ m', m' < m ∧ W (i + 1) m' σ' H') ∧ ∀ x H', (Itx xs).yld i H x H' → g x σ H' fun σ2 H2 => tb { D with nx := N, ct := N, bk := D.nx } σ2 H2) := by
  refine ⟨fun i m σ H => m = xs.length - i ∧ i ≤ xs.length ∧ Pv i σ H, ⟨xs.length, by simp, Nat.zero_le _, h0⟩, ?_⟩
  rintro i m σ H ⟨rfl, hi, p⟩
  by_cases hlt : i < xs.length
  · refine .inr ⟨hlt, Pv (i + 1), fun σ' H' p' => ⟨xs.length - (i + 1), by omega, rfl, hlt, p'⟩, fun x H' y => ?_⟩
    obtain ⟨e, y⟩ := y
    subst e
    exact hs i x σ _ y p
  · have e : i = xs.length := by omega
    subst e
    exact .inl ⟨Nat.le_refl _, hd σ H p⟩
theorem comp_by {J : It} {n : Nat} {xs : Nat → V → Prop} {σc : St} {g : TG} {tc : TT} {te : TE} {Q : VK} {H1 : Hp} (Pv : Nat → List V → Hp → Prop) (hn : n < sizeLine) (hgo : ∀ i acc H, i < n → Pv i acc H → J.go i H) (hstop : ∀ acc H, Pv n acc H → J.stop n H)
    (hy : ∀ i acc H x H', i < n → Pv i acc H → J.yld i H x H' → H' = H ∧ xs i x) (h0 : Pv 0 [] H1)
    (hs : ∀ (i : Nat) (x : V) (acc : List V) (H : Hp) (Nx : List V → Hp → Prop), i < n → xs i x → acc.length ≤ i → Pv i acc H → (∀ acc' H', acc'.length ≤ i + 1 → Pv (i + 1) acc' H' → Nx acc' H') →
      g x σc H fun σ2 H2 => Wk σc σ2 ∧ tc σ2 H2 fun b H3 => if b = true then te σ2 H3 fun v H4 => Nx (acc ++ [v]) H4 else Nx acc H3)
    (hd : ∀ acc H D, acc.length ≤ n → Pv n acc H → H D = none → Q (.ref D) (upd H D (.lst acc))) : CompW J σc g tc te Q H1 := by
  refine ⟨fun i m acc H => m = n - i ∧ i ≤ n ∧ acc.length ≤ i ∧ Pv i acc H, ⟨n, by simp, Nat.zero_le _, Nat.le_refl _, h0⟩, ?_⟩
  rintro i m acc H ⟨rfl, hi, hl, p⟩
  refine ⟨by omega, ?_⟩
  by_cases hlt : i < n
  · refine .inr ⟨hgo i acc H hlt p, fun x H' y => ?_⟩
    obtain ⟨rfl, y2⟩ := hy i acc H x H' hlt p y
    exact hs i x acc _ (fun acc' H' => ∃ m', m' < n - i ∧ (m' = n - (i + 1) ∧ i + 1 ≤ n ∧ acc'.length ≤ i + 1 ∧ Pv (i + 1) acc' H')) hlt y2 hl p fun acc' H' h1 h2 => ⟨n - (i + 1), by omega, rfl, hlt, h1, h2⟩
  · have e : i = n := by omega
    subst e
    exact .inl ⟨hstop acc H p, fun D hD => hd acc H D hl p hD⟩
theorem comp_fix {xs : List V} {σc : St} {g : TG} {tc : TT} {te : TE} {Q : VK} {H1 : Hp} (Pv : Nat → List V → Hp → Prop) (hn : xs.length < sizeLine) (h0 : Pv 0 [] H1)
    (hs : ∀ (i : Nat) (x : V) (acc : List V) (H : Hp) (Nx : List V → Hp → Prop), i < xs.length → xs[i]? = some x → acc.length ≤ i → Pv i acc H → (∀ acc' H', acc'.length ≤ i + 1 → Pv (i + 1) acc' H' → Nx acc' H') →
      g x σc H fun σ2 H2 => Wk σc σ2 ∧ tc σ2 H2 fun b H3 => if b = true then te σ2 H3 fun v H4 => Nx (acc ++ [v]) H4 else Nx acc H3)
    (hd : ∀ acc H D, acc.length ≤ xs.length → Pv xs.length acc H → H D = none → Q (.ref D) (upd H D (.lst acc))) : CompW (Itx xs) σc g tc te Q H1 :=
  comp_by (xs := fun i x => xs[i]? = some x) Pv hn (fun i _ _ h _ => h) (fun _ _ _ => Nat.le_refl _) (fun i _ H x H' _ _ y => y) h0 hs hd
theorem comp_list {K : PySem.W.Frag} {a : Addr} {xs : List V} {σc : St} {g : TG} {tc : TT} {te : TE} {Q : VK} {H1 : Hp} (Pv : Nat → List V → Hp → Prop) (hn : xs.length < sizeLine) (hl : ∀ i acc H, Pv i acc H → SqL K H a xs) (h0 : Pv 0 [] H1)
    (hs : ∀ (i : Nat) (x : V) (acc : List V) (H : Hp) (Nx : List V → Hp → Prop), i < xs.length → xs[i]? = some x → acc.length ≤ i → Pv i acc H → (∀ acc' H', acc'.length ≤ i + 1 → Pv (i + 1) acc' H' → Nx acc' H') →
      g x σc H fun σ2 H2 => Wk σc σ2 ∧ tc σ2 H2 fun b H3 => if b = true then te σ2 H3 fun v H4 => Nx (acc ++ [v]) H4 else Nx acc H3)
    (hd : ∀ acc H D, acc.length ≤ xs.length → Pv xs.length acc H → H D = none → Q (.ref D) (upd H D (.lst acc))) : CompW (Itl K a) σc g tc te Q H1 :=
  comp_by (xs := fun i x => xs[i]? = some x) Pv hn (fun i acc H h p => ⟨xs, xs[i], hl i acc H p, by simp [h]⟩) (fun acc H p => ⟨xs, hl _ acc H p, Nat.le_refl _⟩) (fun i acc H x H' h p y => ⟨y.1, y.2 xs (hl i acc H p)⟩) h0 hs hd

/-! ### while, its measure within the word -/
def tWhileN (c : TT) (tb : TS) : TS := fun D σ H => ∃ W : Nat → St → Hp → Prop, (∃ m, W m σ H) ∧ ∀ m σ H, W m σ H →
  c σ H fun b H1 => if b = true then tb { D with nx := fun σ' H' => ∃ m', m' < m ∧ W m' σ' H', ct := fun σ' H' => ∃ m', m' < m ∧ W m' σ' H', bk := D.nx } σ H1 else D.nx σ H1
theorem ps_whileN {X : Cx} {c : Expr} {body : List Stmt} {tc : TT} {tb : TS} {pos : Pos} (hp : PassesOwn (model X.prog X.w) X.A X.env X.xe) (hc : PT X c tc) (hb : PSs X body tb) : PS X (.While c body [] pos) (tWhileN tc tb) := by
  intro pins s σ H D I h
  obtain ⟨W, ⟨m0, w0⟩, turn⟩ := h
  refine wpAny_While (codeAny_whileLoop (fun n s' => ∃ σ' H', Inv X pins σ' H' s' ∧ W n σ' H') ?_ m0 ⟨σ, H, I, w0⟩)
  rintro n s1 ⟨σ1, H1, I1, w1⟩
  refine wpAny_passesOwn hp (thn (hc pins s1 σ1 H1 _ I1 (turn n σ1 H1 w1)) fun b s2 ⟨H2, I2, q2⟩ => ?_)
  cases b with
  | true =>
    rw [if_pos rfl] at q2 ⊢
    refine wpAny_passesOwn hp (thn (hb pins s2 σ1 H2 _ I2 q2) fun f s3 q3 => ?_)
    cases f with
    | next =>
      obtain ⟨σ3, H3, I3, m', hm, w3⟩ := q3
      exact ⟨m', hm, σ3, H3, I3, w3⟩
    | cont =>
      obtain ⟨σ3, H3, I3, m', hm, w3⟩ := q3
      exact ⟨m', hm, σ3, H3, I3, w3⟩
    | brk => exact q3
    | ret v => exact q3
  | false =>
    rw [if_neg Bool.false_ne_true] at q2 ⊢
    exact wpAny_execs_nil ⟨σ1, H2, I2, q2⟩

/-! ### the comprehension's rule with its checks reckoned -/
def compOk (X : Cx) (scope : Scope) : Bool := (scope.names.all fun y => y.2 != .cell) && (scope.kind == .function) && (scope.names.all fun y => y.2 != .free || X.env.kindOf y.1 == some .cell || X.env.kindOf y.1 == some .free) && (scope.names.all fun y => y.2 != .local || scope.names.lookup y.1 == some .local)
theorem compOk_parts {X : Cx} {scope : Scope} (h : compOk X scope = true) : (∀ y ∈ scope.names, y.2 ≠ .cell) ∧ scope.kind = .function ∧ (∀ y ∈ scope.names, y.2 = .free → X.env.kindOf y.1 = some .cell ∨ X.env.kindOf y.1 = some .free) ∧ (∀ x ∈ scope.names, x.2 = .local → scope.names.lookup x.1 = some .local) := by
  unfold compOk at h
  simp only [Bool.and_eq_true] at h
  obtain ⟨⟨⟨h1, h2⟩, h3⟩, h4⟩ := h
  refine ⟨fun y hy e => ?_, by simpa using h2, fun y hy e => ?_, fun y hy e => ?_⟩
  · have := List.all_eq_true.mp h1 y hy
    rw [e] at this; simp at this
  · have := List.all_eq_true.mp h3 y hy
    rw [e] at this
    simpa using this
  · have := List.all_eq_true.mp h4 y hy
    rw [e] at this
    simpa using this
theorem pe_compB {X : Cx} {tg iter elt : Expr} {ifs : List Expr} {scope : Scope} {pos : Pos} {wi : TI} {g : TG} {tc : TT} {te : TE} (Nc : List Str) (ix : List (Option Nat)) (hi : PI X tg iter wi) (hix : IxOk X scope Nc ix)
    (hG : ∀ C s H fp, PG (cxComp X scope C Nc s H fp) tg g) (hT : ∀ C s H fp, PF (cxComp X scope C Nc s H fp) ifs tc) (hE : ∀ C s H fp, PE (cxComp X scope C Nc s H fp) elt te) (hok : compOk X scope = true := by rfl) (hcalm : X.calm = true := by rfl)
    (hs : ∀ x, foldedSetIterable iter X.env x = pure x := by intro _; rfl) : PE X (.ListComp elt [⟨tg, iter, ifs, 0⟩] scope pos) (tComp wi ix g tc te) :=
  let ⟨h1, h2, h3, h4⟩ := compOk_parts hok
  pe_comp Nc ix hi hcalm hix h1 h2 h3 h4 hG hT hE hs
/-! ### comparisons of ints, of texts -/
section
variable {X : Cx}
def rEqS : R2 := fun x y H Q => ∃ a b, x = .str (S a) ∧ y = .str (S b) ∧ Q (.bl (decide (a = b))) H
def rNeS : R2 := fun x y H Q => ∃ a b, x = .str (S a) ∧ y = .str (S b) ∧ Q (.bl (!decide (a = b))) H
theorem op_eqS : OpR X (compareOp .Eq) rEqS := by
  intro pins s σ H x y v u Q I rx ry h
  obtain ⟨a, b, rfl, rfl, q⟩ := h
  exact op_eq pins s σ H _ _ v u Q I rx ry ⟨rfl, by rw [dec_S]; exact q⟩
theorem op_neS : OpR X (compareOp .NotEq) rNeS := by
  intro pins s σ H x y v u Q I rx ry h
  obtain ⟨a, b, rfl, rfl, q⟩ := h
  exact op_ne pins s σ H _ _ v u Q I rx ry ⟨rfl, by rw [dec_S]; exact q⟩
theorem dec_I {i j : Int} : decide (V.int i = V.int j) = decide (i = j) := by
  by_cases h : i = j
  · subst h; simp
  · rw [decide_eq_false h, decide_eq_false]
    intro q
    exact h (V.int.inj q)
theorem op_eqI : OpR X (compareOp .Eq) (rI0 fun i j => .bl (decide (i = j))) := by
  intro pins s σ H x y v u Q I rx ry h
  obtain ⟨a, b, rfl, rfl, q⟩ := h
  exact op_eq pins s σ H _ _ v u Q I rx ry ⟨rfl, by rw [dec_I]; exact q⟩
def rLtS (f : List Nat → List Nat → Bool) : R2 := fun x y H Q => ∃ a b, x = .str (S a) ∧ y = .str (S b) ∧ Q (.bl (f a b)) H
theorem op_ltS : OpR X (compareOp .Lt) (rLtS fun a b => decide (a < b)) := by
  intro pins s σ H x y v u Q I rx ry h
  obtain ⟨a, b, rfl, rfl, q⟩ := h
  exact op_lt_str pins s σ H _ _ v u Q I rx ry ⟨S a, S b, rfl, rfl, by rw [S_list, S_list]; exact q⟩
end
end L2
namespace L2
open PySem PySem.Spec PyProof.Rows
/-! ### the rules with the text's written part named -/
section
variable {X : Cx} {tg : Expr}
theorem ix_listK (K : PySem.W.Frag) (h : X.K = K) : IxR X (rIxL K) := by subst h; exact ix_list
def rLenL (K : PySem.W.Frag) : List V → Hp → VK → Prop := fun xs H Q => ∃ p ys, xs = [.ref p] ∧ (SqL K H p ys ∨ SqT K H p ys) ∧ Q (.int ys.length) H
theorem call_len_seqK (K : PySem.W.Frag) (h : X.K = K) : CallR X (.builtin "len") (rLenL K) := by subst h; exact call_len_seq
theorem mt_joinK (K : PySem.W.Frag) (h : X.K = K) : MtR X "str.join" (rJoinS K) := by subst h; exact mt_joinS
def rAllB (K : PySem.W.Frag) : List V → Hp → VK → Prop := fun xs H Q => ∃ (p : Addr) (bs : List Bool), xs = [.ref p] ∧ SqL K H p (bs.map V.bl) ∧ Q (.bl (bs.all id)) H
theorem call_allK (K : PySem.W.Frag) (h : X.K = K) (hc : X.calm = true) : CallR X (.builtin "all") (rAllB K) := by subst h; exact call_allB hc
def rListOf (K : PySem.W.Frag) : List V → Hp → VK → Prop := fun xs H Q => ∃ p ys, xs = [.ref p] ∧ (SqL K H p ys ∨ SqT K H p ys) ∧ ∀ l, H l = none → Q (.ref l) (upd H l (.lst ys))
theorem call_list_ofK (K : PySem.W.Frag) (h : X.K = K) : CallR X (.type "list") (rListOf K) := by subst h; exact call_list_of
theorem sl_listK (K : PySem.W.Frag) (h : X.K = K) : SlR X (rSlL K) := by subst h; exact sl_list
theorem pi_listK (K : PySem.W.Frag) (h : X.K = K) {l : Expr} {tl : TE} (hl : PE X l tl) : PI X tg l (iList K tl) := by subst h; exact pi_list hl
end
section
variable {X : Cx} {o e : Expr} {es : List Expr} {to : TE} {t : TA} {name : Str} {apos cpos : Pos} {T id : String} {r : V → List V → Hp → VK → Prop}
theorem pe_bm0K (K : PySem.W.Frag) (hK : X.K = K) (pa : PlainAttrs T) (slot : Slot T name id) (hty : typeOf (.builtin id) = pure (.type "method_descriptor")) (hm : MtR X id r) (ho : PE X o to)
    (hbase : attributeBase o name X.env (eval o X.env) = eval o X.env := by rfl) (hline : (apos.endLine == cpos.line) = true := by rfl) : PE X (.Call (.Attribute o name apos) [] [] cpos) (tBM0 K T r to) := by
  subst hK
  exact pe_bm0 pa slot hty hm ho hbase hline
theorem pe_bmK (K : PySem.W.Frag) (hK : X.K = K) (pa : PlainAttrs T) (slot : Slot T name id) (hty : typeOf (.builtin id) = pure (.type "method_descriptor")) (hm : MtR X id r) (ho : PE X o to) (ha : PA X (e :: es) t)
    (hbase : attributeBase o name X.env (eval o X.env) = eval o X.env := by rfl)
    (hfew : ((backTo cpos (starEach (e :: es) X.env)).all (fun x => !x.1) && (backToKw cpos (keywordEach [] X.env)).all (fun x => x.1.isSome)
      && decide ((e :: es).length + ([] : List Keyword).length + (if ([] : List Keyword).isEmpty then 0 else 1) < 30)) = true := by rfl)
    (hline : (apos.endLine == cpos.line) = true := by rfl) (hs : starEach (e :: es) X.env = (false, eval e X.env) :: starEach es X.env := by rfl) (hplain : (backTo cpos (starEach es X.env)).any (·.1) = false := by rfl) :
    PE X (.Call (.Attribute o name apos) (e :: es) [] cpos) (tBM K T r to t) := by
  subst hK
  exact pe_bm pa slot hty hm ho ha hbase hfew hline hs hplain
end
end L2
namespace L2
open PySem PySem.Spec PyProof.Rows
/-! ### nested data -/
mutual
inductive RdD (K : PySem.W.Frag) (H : Hp) : V → PyData → Prop
  | non : RdD K H .non .none
  | bl (b : Bool) : RdD K H (.bl b) (.bool b)
  | int (i : Int) : RdD K H (.int i) (.int i)
  | str (x : Str) : RdD K H (.str x) (.str x)
  | lst {a : Addr} {xs : List V} {ds : List PyData} (h : SqL K H a xs) (r : RdDs K H xs ds) : RdD K H (.ref a) (.list ds)
  | tup {a : Addr} {xs : List V} {ds : List PyData} (h : SqT K H a xs) (r : RdDs K H xs ds) : RdD K H (.ref a) (.tuple ds)
inductive RdDs (K : PySem.W.Frag) (H : Hp) : List V → List PyData → Prop
  | nil : RdDs K H [] []
  | cons {x : V} {xs : List V} {d : PyData} {ds : List PyData} (h : RdD K H x d) (r : RdDs K H xs ds) : RdDs K H (x :: xs) (d :: ds)
end
section
variable {X : Cx} {pins : List (Addr × Obj)} {σ : St} {H : Hp} {s : Shared}
mutual
theorem RdD.reads (I : Inv X pins σ H s) : ∀ {x : V} {d : PyData} {u : Value}, RdD X.K H x d → RelV x u → ∃ as, Reads s.heap u d as
  | _, _, u, .non, r => by cases (show u = Value.none from r); exact ⟨_, .none⟩
  | _, _, u, .bl b, r => by cases (show u = Value.bool b from r); exact ⟨_, .bool b⟩
  | _, _, u, .int i, r => by obtain ⟨t, rfl⟩ := r; exact ⟨_, .int i t⟩
  | _, _, u, .str x, r => by obtain ⟨t, rfl⟩ := r; exact ⟨_, .str x t⟩
  | _, _, u, .lst (a := a) h q, r => by
    cases (show u = Value.ref a from r)
    obtain ⟨its, rv, pl, _⟩ := I.list h
    obtain ⟨as, ra⟩ := RdDs.reads I q rv
    obtain ⟨o, ho, hc, n, hd⟩ := pl.isList
    exact ⟨_, .list ho hc hd (by simpa using ra)⟩
  | _, _, u, .tup (a := a) h q, r => by
    cases (show u = Value.ref a from r)
    obtain ⟨its, rv, pl, _⟩ := I.tuple h
    obtain ⟨as, ra⟩ := RdDs.reads I q rv
    obtain ⟨o, ho, hc, n, hd⟩ := pl
    exact ⟨_, .tuple ho hc hd (by simpa using ra)⟩
theorem RdDs.reads (I : Inv X pins σ H s) : ∀ {xs : List V} {ds : List PyData} {us : List Value}, RdDs X.K H xs ds → Vals xs us → ∃ as, ReadsAll s.heap us ds as
  | _, _, us, .nil, r => by cases r; exact ⟨_, .nil⟩
  | _, _, us, .cons h q, r => by
    cases r with
    | cons r1 r2 =>
      obtain ⟨as, ra⟩ := RdD.reads I h r1
      obtain ⟨bs, rb⟩ := RdDs.reads I q r2
      exact ⟨_, .cons ra rb⟩
end
mutual
theorem RdD.noDict {K : PySem.W.Frag} : ∀ {x : V} {d : PyData}, RdD K H x d → d.hasDict = false
  | _, _, .non => rfl
  | _, _, .bl b => rfl
  | _, _, .int i => rfl
  | _, _, .str x => rfl
  | _, _, .lst h q => by show PyData.hasDictAll _ = false; exact RdDs.noDict q
  | _, _, .tup h q => by show PyData.hasDictAll _ = false; exact RdDs.noDict q
theorem RdDs.noDict {K : PySem.W.Frag} : ∀ {xs : List V} {ds : List PyData}, RdDs K H xs ds → PyData.hasDictAll ds = false
  | _, _, .nil => rfl
  | _, _, .cons h q => by
    show (PyData.hasDict _ || PyData.hasDictAll _) = false
    rw [RdD.noDict h, RdDs.noDict q]; rfl
end
end
section
variable {X : Cx}
/-- == and != of nested data -/
def rEqD (K : PySem.W.Frag) : R2 := fun x y H Q => ∃ dx dy, RdD K H x dx ∧ RdD K H y dy ∧ (dx.canLay0 = true ∧ dy.canLay0 = true) ∧ dx.depth ≤ 60 ∧ Q (.bl (PyData.eqv dx dy)) H
def rNeD (K : PySem.W.Frag) : R2 := fun x y H Q => ∃ dx dy, RdD K H x dx ∧ RdD K H y dy ∧ (dx.canLay0 = true ∧ dy.canLay0 = true) ∧ dx.depth ≤ 60 ∧ Q (.bl (!PyData.eqv dx dy)) H
theorem op_eqD {k : Nat} (K : PySem.W.Frag) (h : X.K = K) (hr : Room k X.A) : OpR X (compareOp .Eq) (rEqD K) := by
  subst h
  intro pins s σ H x y v u Q I rx ry h
  obtain ⟨dx, dy, h1, h2, ⟨h3, h4⟩, h5, q⟩ := h
  obtain ⟨as, ra⟩ := h1.reads I rx
  obtain ⟨bs, rb⟩ := h2.reads I ry
  have hu := hr.units
  exact SeqAt.compareEq_reads ra rb h3 h4 (by omega) ⟨.bl _, H, I, rfl, q⟩
theorem op_neD {k : Nat} (K : PySem.W.Frag) (h : X.K = K) (hr : Room k X.A) : OpR X (compareOp .NotEq) (rNeD K) := by
  subst h
  intro pins s σ H x y v u Q I rx ry h
  obtain ⟨dx, dy, h1, h2, ⟨h3, h4⟩, h5, q⟩ := h
  obtain ⟨as, ra⟩ := h1.reads I rx
  obtain ⟨bs, rb⟩ := h2.reads I ry
  have hu := hr.units
  exact SeqAt.compareNe_reads ra rb h3 h4 (by omega) ⟨.bl _, H, I, rfl, q⟩
/-- the truth of a list -/
def tTruL (K : PySem.W.Frag) (ta : TE) : TT := fun σ H Q => ta σ H fun x H' => ∃ p xs, x = .ref p ∧ SqL K H' p xs ∧ Q (!xs.isEmpty) H'
theorem pt_truL {a : Expr} {ta : TE} (K : PySem.W.Frag) (h : X.K = K) (ha : PE X a ta) (he : ∀ whole, isTrue a X.env whole = (do let v ← whole; standAt a.pos; holding [v] (truthy v)) := by intro _; rfl) : PT X a (tTruL K ta) := by
  subst h
  intro pins s σ H Q I hw
  refine isTrue_plain (thn (ha pins s σ H _ I hw) fun v s1 ⟨x, H1, I1, r1, q1⟩ => ?_) (he _)
  obtain ⟨p, xs, rfl, hq, q⟩ := q1
  exact tru_ok pins s1 σ H1 _ v Q I1 r1 ⟨_, .inl ⟨xs, hq, rfl⟩, q⟩
/-- a, b = .. -/
theorem pg_tupK (K : PySem.W.Frag) (h : X.K = K) {es : List Expr} {k : Nat} {t : TGs} {n : Nat} {pos : Pos} (hc : X.calm = true) (hs : PGs X es t)
    (hn : (assignEach es X.env).length = n := by rfl) (hst : (assignEach es X.env).findIdx? (·.1) = none := by rfl) : PG X (.Tuple es k pos) (gTup K n t) := by
  subst h
  exact pg_tup hc hs hn hst
/-- text += text -/
theorem ip_addS : PIp X .Add (fun x y H Q => rAddS x y H Q) := by
  intro pins s σ H x y v u Q I rx ry h
  exact iop_addS pins s σ H x y v u Q I rx ry h
end
end L2
namespace L2
open PySem PySem.Spec PyProof.Rows
/-! ### the least of some texts -/
def lesser (a b : List Nat) : List Nat := if b < a then b else a
def leastOf : List Nat → List (List Nat) → List Nat
  | a, [] => a
  | a, b :: r => leastOf (lesser a b) r
section
variable {X : Cx}
end
end L2
namespace L2
open PySem PySem.Spec PyProof.Rows
section
variable {X : Cx}
theorem op_inK (K : PySem.W.Frag) (h : X.K = K) : OpR X (compareOp .In) (rIn K false) := by subst h; exact op_in_seq
/-! ### small data, and their texts -/
/-- of depth at most k, of weight at most n -/
structure SmD (k n : Nat) (d : PyData) : Prop where
  lv : d.leavesShort 13 = true
  sh : d.showable = true
  ly : d.canLay0 = true
  dp : d.depth ≤ k
  wt : d.weight ≤ n
structure SmDs (k n : Nat) (ds : List PyData) : Prop where
  lv : PyData.leavesShortAll 13 ds = true
  sh : PyData.showableAll ds = true
  ly : PyData.canLayAll0 ds = true
  dp : PyData.depthAll ds ≤ k
  wt : PyData.weightAll ds ≤ n
theorem SmD.str {k n : Nat} {l : List Nat} (h : ∀ c ∈ l, c < 128) (hn : l.length ≤ n) : SmD k n (.str (S l)) := by
  refine ⟨?_, rfl, ?_, Nat.zero_le _, by show (S l).cps.size ≤ n; rw [S_size]; exact hn⟩
  · show ((S l).cps.toList.all fun c => decide (c < 16 ^ 8)) = true
    rw [S_list, List.all_eq_true]
    intro c hc
    have := h c hc
    exact decide_eq_true (by omega)
  · show PyData.strOk (S l) = true
    unfold PyData.strOk
    rw [Array.all_eq_true_iff_forall_mem]
    intro c hc
    have : c ∈ l := by simpa [S] using hc
    have := h c this
    simp; omega
theorem SmD.bl {k n : Nat} (b : Bool) : SmD k n (.bool b) := ⟨rfl, rfl, rfl, Nat.zero_le _, Nat.zero_le _⟩
theorem SmD.non {k n : Nat} : SmD k n .none := ⟨rfl, rfl, rfl, Nat.zero_le _, Nat.zero_le _⟩
theorem SmD.int {k n : Nat} {i : Int} (h : i.natAbs < 10 ^ 12) (hn : 40 ≤ n) : SmD k n (.int i) := by
  have hl : i.natAbs.log2 < 40 := by
    by_cases z : i.natAbs = 0
    · rw [z]; decide
    · rw [Nat.log2_lt z]
      exact Nat.lt_trans h (by decide)
  refine ⟨?_, ?_, rfl, Nat.zero_le _, ?_⟩
  · show decide ((PyData.shown (.int i)).length ≤ 13) = true
    exact decide_eq_true (PyData.shown_int_le h)
  · show decide (i.natAbs.log2 < 1920) = true
    exact decide_eq_true (by omega)
  · show (if i == 0 then 0 else i.natAbs.log2 + 1) ≤ n
    split <;> omega
theorem SmDs.nil {k n : Nat} : SmDs k n [] := ⟨rfl, rfl, rfl, Nat.zero_le _, Nat.zero_le _⟩
theorem SmDs.cons {k a b n : Nat} {x : PyData} {xs : List PyData} (h : SmD k a x) (t : SmDs k b xs) (hn : a + 1 + b ≤ n) : SmDs k n (x :: xs) := by
  refine ⟨?_, ?_, ?_, ?_, ?_⟩
  · show (PyData.leavesShort 13 x && PyData.leavesShortAll 13 xs) = true; rw [h.lv, t.lv]; rfl
  · show (PyData.showable x && PyData.showableAll xs) = true; rw [h.sh, t.sh]; rfl
  · show (PyData.canLay0 x && PyData.canLayAll0 xs) = true; rw [h.ly, t.ly]; rfl
  · show max (PyData.depth x) (PyData.depthAll xs) ≤ k; exact Nat.max_le.mpr ⟨h.dp, t.dp⟩
  · show PyData.weight x + 1 + PyData.weightAll xs ≤ n
    have := h.wt; have := t.wt; omega
theorem SmDs.all {k a : Nat} : ∀ {xs : List PyData} {n : Nat}, (∀ x ∈ xs, SmD k a x) → (a + 1) * xs.length ≤ n → SmDs k n xs
  | [], _, _, _ => .nil
  | x :: xs, n, h, hn => .cons (b := (a + 1) * xs.length) (h x List.mem_cons_self) (SmDs.all (fun y hy => h y (List.mem_cons_of_mem _ hy)) (Nat.le_refl _)) (by rw [List.length_cons, Nat.mul_succ] at hn; omega)
theorem SmD.lst {k n : Nat} {ds : List PyData} (h : SmDs k n ds) : SmD (k + 1) n (.list ds) := ⟨h.lv, h.sh, h.ly, Nat.succ_le_succ h.dp, h.wt⟩
theorem SmD.tup {k n : Nat} {ds : List PyData} (h : SmDs k n ds) : SmD (k + 1) n (.tuple ds) := ⟨h.lv, h.sh, h.ly, Nat.succ_le_succ h.dp, h.wt⟩
end
end L2
namespace L2
open PySem PySem.Spec PyProof.Rows
/-! ### a text so many times -/
end L2
namespace L2
open PySem PySem.Spec PyProof.Rows
section
variable {X : Cx}
end
end L2
namespace L2
open PySem PySem.Spec PyProof.Rows
section
variable {X : Cx} {pins : List (Addr × Obj)} {σ : St} {H : Hp} {s : Shared} {h' : Heap}
end
/-! ### enumerate of a text -/
/-! ### sorted -/
section
variable {X : Cx}
theorem strs_of {ls : List (List Nat)} : ∀ {its : List Value}, Vals (ls.map fun l => V.str (S l)) its → StrsAre its (ls.map S) := by
  induction ls with
  | nil => intro its r; cases r; exact .nil
  | cons l ls ih =>
    intro its r
    cases r with
    | cons r1 r2 =>
      obtain ⟨t, rfl⟩ := r1
      exact .cons _ t (ih r2)
theorem of_strs : ∀ {its : List Value} {ss : List Str}, StrsAre its ss → Vals ((ss.map fun x => x.cps.toList).map fun l => V.str (S l)) its
  | _, _, .nil => .nil
  | _, _, .cons x t h => .cons ⟨t, by rw [← S_of]⟩ (of_strs h)
theorem rising_pw : ∀ (p : Str) (r : List Str), risingS p r = true → (p :: r).Pairwise fun a b => ¬ b.cps.toList < a.cps.toList
  | p, [], _ => List.pairwise_singleton _ _
  | p, x :: r, h => by
    have h' : (!ltCps x.cps.toList p.cps.toList && risingS x r) = true := h
    rw [Bool.and_eq_true, ltCps_eq] at h'
    have h1 : ¬ x.cps.toList < p.cps.toList := by simpa using h'.1
    have ih := rising_pw x r h'.2
    refine List.pairwise_cons.mpr ⟨fun y hy => ?_, ih⟩
    rcases List.mem_cons.mp hy with z | z
    · rw [z]; exact h1
    · exact List.le_trans (show p.cps.toList ≤ x.cps.toList from h1) (show x.cps.toList ≤ y.cps.toList from List.rel_of_pairwise_cons ih z)
theorem sorted_pw {ss : List Str} (h : sortedS ss = true) : (ss.map fun x => x.cps.toList).Pairwise fun a b => ¬ b < a := by
  rw [List.pairwise_map]
  cases ss with
  | nil => exact List.Pairwise.nil
  | cons x r => exact rising_pw x r h
def rSortL (K : PySem.W.Frag) : List V → Hp → VK → Prop := fun xs H Q => ∃ (p : Addr) (ls : List (List Nat)), xs = [.ref p] ∧ SqL K H p (ls.map fun l => V.str (S l)) ∧ ls.length < 64 ∧ ∀ (q : Addr) (ls' : List (List Nat)), H q = none → ls'.Perm ls → (ls'.Pairwise fun a b => ¬ b < a) → Q (.ref q) (upd H q (.lst (ls'.map fun l => V.str (S l))))
theorem call_sortedK (K : PySem.W.Frag) (h : X.K = K) : CallR X (.builtin "sorted") (rSortL K) := by
  subst h
  intro pins s σ H xs us Q I r h
  obtain ⟨p, ls, rfl, hq, hn, q⟩ := h
  obtain ⟨u, rfl, ru⟩ := vals1 r
  cases ru
  obtain ⟨its, rv, pl, hz⟩ := I.list hq
  have hlen : its.length = ls.length := by rw [← rv.length, List.length_map]
  refine sorted_strs (l := p) (vs := its) (ss := ls.map S) pl.isList (strs_of rv) (by omega) fun out ss' h1 h2 h3 => ?_
  obtain ⟨e, he⟩ := sortedAll_at s.heap its out
  have hperm : (ss'.map fun x => x.cps.toList).Perm ls := by
    have := h2.map fun x : Str => x.cps.toList
    rw [List.map_map] at this
    have e2 : ls.map ((fun x : Str => x.cps.toList) ∘ S) = ls := by
      have : ∀ l ∈ ls, ((fun x : Str => x.cps.toList) ∘ S) l = l := fun l _ => S_list l
      calc ls.map _ = ls.map id := List.map_congr_left this
        _ = ls := List.map_id ls
    rwa [e2] at this
  have hl2 := hperm.length_eq
  have h64 : (64 : Nat) < sizeLine := by decide
  have hz2 : ((ss'.map fun x => x.cps.toList).map fun l => V.str (S l)).length ≤ sizeLine := by rw [List.length_map, hl2]; omega
  refine ⟨.ref (s.heap.objs.size + 1), _, I.laid (t' := s.toks) (a := s.heap.objs.size + 1) (o := .lst ((ss'.map fun x => x.cps.toList).map fun l => V.str (S l))) (fun b o e => sortedAll_old e) (Nat.le_succ _) ⟨hz2, out.toList, e, of_strs h1, by simpa [seqObj] using he⟩, rfl, q _ _ (I.hok.fresh (Nat.le_succ _)) hperm (sorted_pw h3)⟩
end
end L2
namespace L2
open PySem PySem.Spec PyProof.Rows
section
variable {X : Cx}
theorem sgs_two (l : List Nat) : sgs l = (l.map fun c => [c]).map fun l => V.str (S l) := by unfold sgs; rw [List.map_map]; rfl
theorem sorted_text {prog : Program} {w : World} {A : Around} {E : Value → Shared → Prop} {s : Shared} {Q : Value → Shared → Prop} (hh : A.handled = none) (l : List Nat) (t : Tok) (h64 : l.length < 64)
    (h : ∀ (h1 h' : Heap) (tk : Nat) (a : Addr) (out : Array Value) (ss' : List Str) (e : Nat), (∀ b o, s.heap.get? b = some o → h1.get? b = some o) → (∀ b o, h1.get? b = some o → h'.get? b = some o) → a = h1.objs.size → h'.get? a = some (seqObj "list" out e) → StrsAre out.toList ss' → ss'.Perm ((l.map fun c => [c]).map S) → sortedS ss' = true → Q (.ref a) { s with heap := h', toks := tk }) :
    wpAny (model prog w) A (call (.builtin "sorted") [.str (S l) t]) Q E s := by
  refine Calls.call_function_entry kind_sorted plain_sorted entry_sorted (args_sorted1 _) ?_
  unfold Builtin.«sorted»
  refine wpAny_bind (m := checkCount "sorted" 1 1 _) (wpAny_pure ?_)
  have hline : (64 : Nat) < sizeLine := by decide
  refine wpAny_bind (wpAny_collect_str (A := A.in1) (show A.in1.handled = none from hh) (S l) t (fun s' acc hk hg hd ho hacc => ?_) (by rw [S_size]; omega))
  obtain ⟨h1, h2⟩ := hacc
  rw [S_size] at h1
  have rv : Vals (sgs l) acc.toList := vals_signs (by simpa using h1) (fun j v e => h2 j v (by simpa using e))
  rw [sgs_two] at rv
  have hS := strs_of rv
  have hn : acc.toList.length = l.length := by rw [← rv.length, List.length_map, List.length_map]
  refine wpAny_bind (wpAny_newList ?_)
  have hoL : (s'.heap.push (seqObj "list" acc.toList.toArray 0)).get? s'.heap.objs.size = some (seqObj "list" acc.toList.toArray 0) := Heap.get?_push_size _ rfl
  show wpAny _ _ _ _ _ { s' with heap := s'.heap.push (seqObj "list" acc.toList.toArray 0) }
  refine wpAny_bind (wpAny_holding (wpAny_call_entry slot_list_sort ⟨_, hoL, rfl⟩ entry_list_sort (list_sort_treeK (κ := strKind) strKind_oneLt hoL hS.keysOf (fun v₁ v₂ rest e => keyKind_strs (by rw [← e]; exact hS)) (by omega) fun st' hp hs => ⟨_, rfl, ?_⟩) (args_list_sort _)))
  obtain ⟨ss', k1, k2, k3⟩ := sorted_out_str hS hp hs
  obtain ⟨e, he⟩ := sortedHeap_at (out := (arrOf st').map (·.2)) hoL
  refine wpAny_pure ⟨_, rfl, ?_⟩
  have es : ∀ hh : Heap, ({ s' with heap := hh } : Shared) = { s with heap := hh, toks := s'.toks } := fun hh => by
    cases s; cases s'
    simp only at hg hd ho
    subst hg hd ho
    rfl
  show Q (.ref s'.heap.objs.size) { s' with heap := sortedHeap (s'.heap.push (seqObj "list" acc.toList.toArray 0)) s'.heap.objs.size acc.toList ((arrOf st').map (·.2)) }
  rw [es]
  refine h s'.heap _ _ _ _ ss' e hk (fun b o hb => ?_) rfl he k1 k2 k3
  have hlt := Heap.lt_size hb
  rw [sortedHeap_old (Nat.ne_of_lt hlt) (by rw [size_push']; exact Nat.lt_succ_of_lt hlt)]
  exact Heap.get?_push_of_some _ hb
def rSortS : List V → Hp → VK → Prop := fun xs H Q => ∃ (l : List Nat), xs = [.str (S l)] ∧ l.length < 64 ∧ ∀ (q : Addr) (l' : List Nat), H q = none → l'.Perm l → (l'.Pairwise fun a b => a ≤ b) → Q (.ref q) (upd H q (.lst (sgs l')))
theorem ones_of {ls : List (List Nat)} {l : List Nat} (h : ls.Perm (l.map fun c => [c])) : ∃ l' : List Nat, ls = l'.map (fun c => [c]) ∧ l'.Perm l := by
  refine ⟨ls.flatten, ?_, ?_⟩
  · have hs : ∀ x ∈ ls, ∃ c, x = [c] := fun x hx => by
      obtain ⟨c, _, e⟩ := List.mem_map.mp (h.mem_iff.mp hx)
      exact ⟨c, e.symm⟩
    clear h
    induction ls with
    | nil => rfl
    | cons x ls ih =>
      obtain ⟨c, rfl⟩ := hs x List.mem_cons_self
      rw [List.flatten_cons, List.map_append, ← ih fun y hy => hs y (List.mem_cons_of_mem _ hy)]
      rfl
  · have := h.flatten
    have e : (l.map fun c => [c]).flatten = l := by
      clear h this
      induction l with
      | nil => rfl
      | cons c l ih => rw [List.map_cons, List.flatten_cons, ih]; rfl
    rwa [e] at this
theorem ones_pw {l : List Nat} (h : (l.map fun c => [c]).Pairwise fun a b => ¬ b < a) : l.Pairwise fun a b => a ≤ b := by
  rw [List.pairwise_map] at h
  refine h.imp fun {a b} z => ?_
  by_cases y : a ≤ b
  · exact y
  · exact absurd (List.cons_lt_cons_iff.mpr (.inl (by omega))) z
theorem call_sortedS (hc : X.calm = true) : CallR X (.builtin "sorted") rSortS := by
  intro pins s σ H xs us Q I r h
  obtain ⟨l, rfl, hn, q⟩ := h
  obtain ⟨u, rfl, t, rfl⟩ := vals1 r
  have h64 : (64 : Nat) < sizeLine := by decide
  refine sorted_text (I.ok.hd hc) l t hn fun h1 h' tk a out ss' e k1 k2 ea he g1 g2 g3 => ?_
  have hperm : (ss'.map fun x => x.cps.toList).Perm (l.map fun c => [c]) := by
    have := g2.map fun x : Str => x.cps.toList
    rw [List.map_map] at this
    have e2 : (l.map fun c => [c]).map ((fun x : Str => x.cps.toList) ∘ S) = l.map fun c => [c] := by
      have : ∀ l' ∈ l.map (fun c => [c]), ((fun x : Str => x.cps.toList) ∘ S) l' = l' := fun l' _ => S_list l'
      calc (l.map fun c => [c]).map _ = (l.map fun c => [c]).map id := List.map_congr_left this
        _ = _ := List.map_id _
    rwa [e2] at this
  obtain ⟨l', el, pl⟩ := ones_of hperm
  have hv := of_strs g1
  have pw := sorted_pw g3
  rw [el] at hv pw
  rw [← sgs_two] at hv
  have I1 : Inv X pins σ H { s with heap := h1, toks := tk } := I.kept k1
  have I2 : Inv X pins σ (upd H a (.lst (sgs l'))) { s with heap := h', toks := tk } := I1.laid (t' := tk) (a := a) (o := .lst (sgs l')) k2 (by rw [ea]; exact Nat.le_refl _) ⟨by unfold sgs; rw [List.length_map, pl.length_eq]; omega, out.toList, e, hv, by simpa [seqObj] using he⟩
  exact ⟨.ref a, _, I2, rfl, q _ _ (I1.hok.fresh (by rw [ea]; exact Nat.le_refl _)) pl (ones_pw pw)⟩
end
end L2
namespace L2
open PySem PySem.Spec PyProof.Rows
section
variable {X : Cx}
end
end L2
namespace L2
open PySem PySem.Spec PyProof.Rows
section
variable {prog : Program} {w : World} {A : Around} {E : Value → Shared → Prop} {s : Shared}
/-! ### enumerate of a tuple, of a list -/
end
/-! ### list(text or sequence); index of a list of texts; isinstance(list, list) -/
section
variable {X : Cx}
end
end L2
namespace L2
open PySem PySem.Spec PyProof.Rows
section
variable {X : Cx}
end
end L2
namespace L2
open PySem PySem.Spec PyProof.Rows
/-- tuples stay -/
def TSame (H H' : Hp) : Prop := ∀ c xs, H c = some (.tup xs) → H' c = some (.tup xs)
theorem TSame.refl (H : Hp) : TSame H H := fun _ _ h => h
theorem TSame.trans {H H1 H2 : Hp} (a : TSame H H1) (b : TSame H1 H2) : TSame H H2 := fun c xs h => b c xs (a c xs h)
theorem TSame.of {H H' : Hp} (s : Same H H') : TSame H H' := fun c xs h => s c _ h
theorem TSame.updN {H : Hp} {p : Addr} {o : HO} (h : H p = none) : TSame H (upd H p o) := fun c xs e => by
  rw [upd_ne (fun z => by rw [z, h] at e; cases e)]; exact e
end L2
namespace L2
open PySem PySem.Spec PyProof.Rows
/-! ### sorted of pairs of whole numbers that rise already -/
section
variable {prog : Program} {w : World} {A : Around} {E : Value → Shared → Prop} {s : Shared}
def PairAt (h : Heap) (v : Value) (n : Int × Int) : Prop := ∃ x ox t1 t2 m, v = .ref x ∧ h.get? x = some ox ∧ ox.cls = .type "tuple" ∧ ox.data = .seq #[.int n.1 t1, .int n.2 t2] m
theorem PairAt.keep {h h' : Heap} {v : Value} {n : Int × Int} (p : PairAt h v n) (k : ∀ b o, h.get? b = some o → h'.get? b = some o) : PairAt h' v n := by
  obtain ⟨x, ox, t1, t2, m, e1, e2, r⟩ := p
  exact ⟨x, ox, t1, t2, m, e1, k _ _ e2, r⟩
def PairsAt (h : Heap) : List Value → List (Int × Int) → Prop
  | [], [] => True
  | v :: vs, n :: ns => PairAt h v n ∧ PairsAt h vs ns
  | _, _ => False
theorem PairsAt.keep {h h' : Heap} (k : ∀ b o, h.get? b = some o → h'.get? b = some o) : ∀ {vs : List Value} {ns : List (Int × Int)}, PairsAt h vs ns → PairsAt h' vs ns
  | [], [], _ => trivial
  | _ :: _, _ :: _, ⟨a, b⟩ => ⟨a.keep k, PairsAt.keep k b⟩
theorem PairsAt.get {h : Heap} : ∀ {vs : List Value} {ns : List (Int × Int)} {i : Nat}, PairsAt h vs ns → (hi : i < vs.length) → ∃ n, ns[i]? = some n ∧ PairAt h (vs.getD i Value.none) n
  | [], [], i, _, hi => absurd hi (Nat.not_lt_zero _)
  | v :: vs, n :: ns, 0, ⟨a, _⟩, _ => ⟨n, rfl, a⟩
  | v :: vs, n :: ns, i + 1, ⟨_, b⟩, hi => by
    obtain ⟨m, e, p⟩ := PairsAt.get (i := i) b (Nat.lt_of_succ_lt_succ hi)
    exact ⟨m, e, p⟩
theorem PairsAt.tups {h : Heap} : ∀ {vs : List Value} {ns : List (Int × Int)}, PairsAt h vs ns → ∃ fs, PySem.W.KatTups h vs fs ∧ fs.length = vs.length ∧ ∀ v ∈ fs, ∃ i t, v = Value.int i t
  | [], [], _ => ⟨[], trivial, rfl, fun _ h => absurd h List.not_mem_nil⟩
  | v :: vs, n :: ns, ⟨⟨x, ox, t1, t2, m, e1, e2, e3, e4⟩, b⟩ => by
    obtain ⟨fs, k1, k2, k3⟩ := PairsAt.tups b
    refine ⟨.int n.1 t1 :: fs, ⟨⟨x, ox, _, m, e1, e2, e3, e4, rfl⟩, k1⟩, by simp [k2], fun u hu => ?_⟩
    rcases List.mem_cons.mp hu with z | z
    · exact ⟨_, _, z⟩
    · exact k3 u z
theorem PairsAt.ne {h : Heap} {vs : List Value} {ns : List (Int × Int)} (p : PairsAt h vs ns) {a : Addr} (ha : h.objs.size ≤ a) : ∀ v ∈ vs, v ≠ .ref a := fun v hv z => by
  obtain ⟨i, hi, e⟩ := List.mem_iff_getElem.mp hv
  obtain ⟨n, _, x, ox, t1, t2, m, e1, e2, _⟩ := p.get (i := i) hi
  have e3 : vs.getD i Value.none = v := by rw [List.getD_eq_getElem?_getD, List.getElem?_eq_getElem hi, e]; rfl
  rw [e3, z] at e1
  cases e1
  exact absurd (Nat.lt_of_lt_of_le (Heap.lt_size e2) ha) (Nat.lt_irrefl _)
end
section
variable {X : Cx}
/-- values that are pairs of whole numbers -/
def PrsV (K : PySem.W.Frag) (H : Hp) : List V → List (Int × Int) → Prop
  | [], [] => True
  | v :: vs, n :: ns => (∃ t, v = .ref t ∧ SqT K H t [.int n.1, .int n.2]) ∧ PrsV K H vs ns
  | _, _ => False
theorem PrsV.at {pins : List (Addr × Obj)} {σ : St} {H : Hp} {s : Shared} (I : Inv X pins σ H s) : ∀ {vs : List V} {ns : List (Int × Int)} {us : List Value}, PrsV X.K H vs ns → Vals vs us → PairsAt s.heap us ns
  | [], [], _, _, .nil => trivial
  | v :: vs, n :: ns, _, ⟨⟨t, e, h⟩, b⟩, .cons r rs => by
    subst e
    cases r
    obtain ⟨its, rv, p, _⟩ := I.tuple h
    obtain ⟨u1, u2, e1, ⟨t1, r1⟩, ⟨t2, r2⟩⟩ := vals2 rv
    subst e1 r1 r2
    obtain ⟨o, ho, hc, m, hd⟩ := p
    exact ⟨⟨t, o, t1, t2, m, rfl, ho, hc, hd⟩, PrsV.at I b rs⟩
end
end L2
namespace L2
open PySem PySem.Spec PyProof.Rows
/-! ### sorted of tuples of whole numbers that rise already, however many; t[::-1] -/
section
variable {prog : Program} {w : World} {A : Around} {E : Value → Shared → Prop} {s : Shared}
def TupAt (h : Heap) (k : Nat) (v : Value) (ns : List Int) : Prop := ∃ x ox us m, v = .ref x ∧ h.get? x = some ox ∧ ox.cls = .type "tuple" ∧ ox.data = .seq us m ∧ IntsAre us.toList ns ∧ ns.length = k + 1
theorem TupAt.keep {h h' : Heap} {k : Nat} {v : Value} {n : List Int} (p : TupAt h k v n) (kp : ∀ b o, h.get? b = some o → h'.get? b = some o) : TupAt h' k v n := by
  obtain ⟨x, ox, us, m, e1, e2, r⟩ := p
  exact ⟨x, ox, us, m, e1, kp _ _ e2, r⟩
def TupsAt (h : Heap) (k : Nat) : List Value → List (List Int) → Prop
  | [], [] => True
  | v :: vs, n :: ns => TupAt h k v n ∧ TupsAt h k vs ns
  | _, _ => False
theorem TupsAt.keep {h h' : Heap} {k : Nat} (kp : ∀ b o, h.get? b = some o → h'.get? b = some o) : ∀ {vs : List Value} {ns : List (List Int)}, TupsAt h k vs ns → TupsAt h' k vs ns
  | [], [], _ => trivial
  | _ :: _, _ :: _, ⟨a, b⟩ => ⟨a.keep kp, TupsAt.keep kp b⟩
theorem TupsAt.get {h : Heap} {k : Nat} : ∀ {vs : List Value} {ns : List (List Int)} {i : Nat}, TupsAt h k vs ns → (hi : i < vs.length) → ∃ n, ns[i]? = some n ∧ TupAt h k (vs.getD i Value.none) n
  | [], [], i, _, hi => absurd hi (Nat.not_lt_zero _)
  | v :: vs, n :: ns, 0, ⟨a, _⟩, _ => ⟨n, rfl, a⟩
  | v :: vs, n :: ns, i + 1, ⟨_, b⟩, hi => by
    obtain ⟨m, e, p⟩ := TupsAt.get (i := i) b (Nat.lt_of_succ_lt_succ hi)
    exact ⟨m, e, p⟩
theorem TupsAt.tups {h : Heap} {k : Nat} : ∀ {vs : List Value} {ns : List (List Int)}, TupsAt h k vs ns → ∃ fs, PySem.W.KatTups h vs fs ∧ fs.length = vs.length ∧ ∀ v ∈ fs, ∃ i t, v = Value.int i t
  | [], [], _ => ⟨[], trivial, rfl, fun _ h => absurd h List.not_mem_nil⟩
  | v :: vs, n :: ns, ⟨⟨x, ox, us, m, e1, e2, e3, e4, e5, e6⟩, b⟩ => by
    obtain ⟨fs, k1, k2, k3⟩ := TupsAt.tups b
    obtain ⟨f, t, e7⟩ : ∃ f t, us[0]? = some (Value.int f t) := by
      rw [← Array.getElem?_toList]
      generalize us.toList = l at e5
      cases e5 with
      | nil => simp at e6
      | cons a t _ => exact ⟨a, t, rfl⟩
    refine ⟨.int f t :: fs, ⟨⟨x, ox, us, m, e1, e2, e3, e4, e7⟩, k1⟩, by simp [k2], fun u hu => ?_⟩
    rcases List.mem_cons.mp hu with z | z
    · exact ⟨_, _, z⟩
    · exact k3 u z
theorem TupsAt.ne {h : Heap} {k : Nat} {vs : List Value} {ns : List (List Int)} (p : TupsAt h k vs ns) {a : Addr} (ha : h.objs.size ≤ a) : ∀ v ∈ vs, v ≠ .ref a := fun v hv z => by
  obtain ⟨i, hi, e⟩ := List.mem_iff_getElem.mp hv
  obtain ⟨n, _, x, ox, us, m, e1, e2, _⟩ := p.get (i := i) hi
  have e3 : vs.getD i Value.none = v := by rw [List.getD_eq_getElem?_getD, List.getElem?_eq_getElem hi, e]; rfl
  rw [e3, z] at e1
  cases e1
  exact absurd (Nat.lt_of_lt_of_le (Heap.lt_size e2) ha) (Nat.lt_irrefl _)
end
section
variable {X : Cx}
/-- values that are tuples of k + 1 whole numbers -/
def TpsV (K : PySem.W.Frag) (H : Hp) (k : Nat) : List V → List (List Int) → Prop
  | [], [] => True
  | v :: vs, n :: ns => (∃ t, v = .ref t ∧ SqT K H t (n.map V.int) ∧ n.length = k + 1) ∧ TpsV K H k vs ns
  | _, _ => False
theorem TpsV.at {pins : List (Addr × Obj)} {σ : St} {H : Hp} {s : Shared} {k : Nat} (I : Inv X pins σ H s) : ∀ {vs : List V} {ns : List (List Int)} {us : List Value}, TpsV X.K H k vs ns → Vals vs us → TupsAt s.heap k us ns
  | [], [], _, _, .nil => trivial
  | v :: vs, n :: ns, _, ⟨⟨t, e, h, hl⟩, b⟩, .cons r rs => by
    subst e
    cases r
    obtain ⟨its, rv, p, _⟩ := I.tuple h
    obtain ⟨o, ho, hc, m, hd⟩ := p
    exact ⟨⟨t, o, its.toArray, m, rfl, ho, hc, hd, intsAre_of rv, hl⟩, TpsV.at I b rs⟩
end
end L2
namespace HT
open PySem PySem.Spec PyProof.Rows
section
variable {prog : Program} {w : World} {A : Around} {E : Value → Shared → Prop} {s : Shared}
end
end HT
namespace L2
open PySem PySem.Spec PyProof.Rows
section
variable {X : Cx} {e st : Expr} {te : TE} {ts : TO} {pos p2 : Pos}
end
end L2
namespace L2
open PySem PySem.Spec PyProof.Rows

/-! ### lists of pairs as tables -/
section
variable {κ : Type} [DecidableEq κ]
def valV (kvs : List (κ × V)) (k : κ) : Option V := (kvs.find? fun kv => decide (kv.1 = k)).map (·.2)
/-- in its place, or at the end -/
def putK (kvs : List (κ × V)) (k : κ) (v : V) : List (κ × V) :=
  if (kvs.any fun kv => decide (kv.1 = k)) = true then kvs.map (fun kv => if kv.1 = k then (kv.1, v) else kv) else kvs ++ [(k, v)]
def dropK (kvs : List (κ × V)) (k : κ) : List (κ × V) := kvs.filter fun kv => decide (kv.1 ≠ k)

theorem valV_pos {p : κ × V} {r : List (κ × V)} {k : κ} (e : p.1 = k) : valV (p :: r) k = some p.2 := by simp [valV, List.find?_cons, e]
theorem valV_neg {p : κ × V} {r : List (κ × V)} {k : κ} (e : ¬ p.1 = k) : valV (p :: r) k = valV r k := by simp [valV, List.find?_cons, e]
theorem valV_any (k : κ) : ∀ kvs : List (κ × V), (kvs.any fun kv => decide (kv.1 = k)) = (valV kvs k).isSome
  | [] => rfl
  | p :: r => by
    rw [List.any_cons]
    by_cases e : p.1 = k
    · simp only [valV_pos e, decide_eq_true e, Bool.true_or, Option.isSome_some]
    · rw [valV_neg e, decide_eq_false e, Bool.false_or]; exact valV_any k r
theorem valV_map (k j : κ) (y : V) : ∀ kvs : List (κ × V), valV (kvs.map fun kv => if kv.1 = k then (kv.1, y) else kv) j = (valV kvs j).map fun x => if j = k then y else x
  | [] => rfl
  | p :: r => by
    have ih := valV_map k j y r
    rw [List.map_cons]
    by_cases h : p.1 = k
    · rw [if_pos h]
      by_cases e : p.1 = j
      · rw [valV_pos (p := (p.1, y)) e, valV_pos e, Option.map_some, if_pos (e.symm.trans h)]
      · rw [valV_neg (p := (p.1, y)) e, valV_neg e, ih]
    · rw [if_neg h]
      by_cases e : p.1 = j
      · rw [valV_pos (p := p) e, valV_pos e, Option.map_some, if_neg (fun z => h (e.trans z))]
      · rw [valV_neg (p := p) e, valV_neg e, ih]
theorem valV_snoc (k j : κ) (y : V) : ∀ kvs : List (κ × V), valV kvs k = none → valV (kvs ++ [(k, y)]) j = if j = k then some y else valV kvs j
  | [], _ => by
    by_cases e : k = j
    · rw [if_pos e.symm]; exact valV_pos (p := (k, y)) e
    · rw [if_neg (fun z => e z.symm)]; exact valV_neg (p := (k, y)) e
  | p :: r, hn => by
    rw [List.cons_append]
    have hk : ¬ p.1 = k := fun z => by rw [valV_pos z] at hn; cases hn
    rw [valV_neg hk] at hn
    have ih := valV_snoc k j y r hn
    by_cases e : p.1 = j
    · rw [valV_pos e, valV_pos e, if_neg (fun z => hk (e.trans z))]
    · rw [valV_neg e, valV_neg e, ih]
theorem valV_put (kvs : List (κ × V)) (k j : κ) (y : V) : valV (putK kvs k y) j = if j = k then some y else valV kvs j := by
  unfold putK
  by_cases a : (kvs.any fun kv => decide (kv.1 = k)) = true
  · rw [if_pos a, valV_map]
    rw [valV_any] at a
    by_cases e : j = k
    · obtain ⟨x, hx⟩ := Option.isSome_iff_exists.mp a
      rw [if_pos e, e, hx, Option.map_some, if_pos rfl]
    · rw [if_neg e]
      cases valV kvs j with
      | none => rfl
      | some x => rw [Option.map_some, if_neg e]
  · rw [if_neg a]
    refine valV_snoc k j y kvs ?_
    rw [valV_any] at a
    cases q : valV kvs k with
    | none => rfl
    | some x => rw [q] at a; exact (a rfl).elim
theorem length_putK (kvs : List (κ × V)) (k : κ) (v : V) : (putK kvs k v).length ≤ kvs.length + 1 := by
  unfold putK
  split
  · rw [List.length_map]; omega
  · rw [List.length_append, List.length_cons, List.length_nil]; omega
theorem RelO.isSome_eq {o : Option V} {u : Option Value} (r : RelO o u) : o.isSome = u.isSome := by
  cases o with
  | none => cases u with
    | none => rfl
    | some _ => exact (show False from r).elim
  | some _ => cases u with
    | none => exact (show False from r).elim
    | some _ => rfl
theorem RelO.getD {o : Option V} {u : Option Value} {d : V} {d' : Value} (r : RelO o u) (rd : RelV d d') : RelV (o.getD d) (u.getD d') := by
  cases o with
  | none => cases u with
    | none => exact rd
    | some _ => exact (show False from r).elim
  | some _ => cases u with
    | none => exact (show False from r).elim
    | some _ => exact r

/-- raw tables of the same keys -/
theorem KV.val {kvs : List (κ × V)} {vs : List (κ × Value)} (r : KV kvs vs) (k : κ) : RelO (valV kvs k) (valueAt vs k) := by
  unfold KV at r
  induction r with
  | nil => exact True.intro
  | @cons p q ps qs h t ih =>
    obtain ⟨h1, h2⟩ := h
    by_cases e : p.1 = k
    · have e' : q.1 = k := h1.symm.trans e
      have b : valueAt (q :: qs) k = some q.2 := by simp [valueAt, List.find?_cons, e']
      rw [valV_pos e, b]; exact h2
    · have e' : ¬ q.1 = k := fun z => e (h1.trans z)
      have b : valueAt (q :: qs) k = valueAt qs k := by simp [valueAt, List.find?_cons, e']
      rw [valV_neg e, b]; exact ih
theorem KV.any {kvs : List (κ × V)} {vs : List (κ × Value)} (r : KV kvs vs) (k : κ) : (kvs.any fun kv => decide (kv.1 = k)) = vs.any fun kv => decide (kv.1 = k) := by
  unfold KV at r
  induction r with
  | nil => rfl
  | cons h t ih => rw [List.any_cons, List.any_cons, ih, h.1]
theorem KV.repl {kvs : List (κ × V)} {vs : List (κ × Value)} (r : KV kvs vs) (k : κ) {y : V} {u : Value} (ry : RelV y u) :
    KV (kvs.map fun kv => if kv.1 = k then (kv.1, y) else kv) (vs.map fun kv => if kv.1 = k then (kv.1, u) else kv) := by
  unfold KV at r ⊢
  induction r with
  | nil => exact .nil
  | @cons p q ps qs h t ih =>
    rw [List.map_cons, List.map_cons]
    refine .cons ?_ ih
    obtain ⟨h1, h2⟩ := h
    by_cases e : p.1 = k
    · rw [if_pos e, if_pos (h1.symm.trans e)]; exact ⟨h1, ry⟩
    · rw [if_neg e, if_neg (fun z => e (h1.trans z))]; exact ⟨h1, h2⟩
theorem KV.put {kvs : List (κ × V)} {vs : List (κ × Value)} (r : KV kvs vs) (k : κ) {y : V} {u : Value} (ry : RelV y u) : KV (putK kvs k y) (stored vs k u) := by
  unfold putK stored
  rw [r.any k]
  by_cases e : (vs.any fun kv => decide (kv.1 = k)) = true
  · rw [if_pos e, if_pos e]; exact r.repl k ry
  · rw [if_neg e, if_neg e]; exact Paired.snoc r ⟨rfl, ry⟩
theorem KV.drop {kvs : List (κ × V)} {vs : List (κ × Value)} (r : KV kvs vs) (k : κ) : KV (dropK kvs k) (without vs k) := by
  unfold KV at r ⊢
  unfold dropK without
  induction r with
  | nil => exact .nil
  | @cons p q ps qs h t ih =>
    obtain ⟨h1, h2⟩ := h
    rw [List.filter_cons, List.filter_cons]
    by_cases e : p.1 = k
    · have a : ¬ decide (p.1 ≠ k) = true := by simp [e]
      have b : ¬ decide (q.1 ≠ k) = true := by simp [h1.symm.trans e]
      rw [if_neg a, if_neg b]; exact ih
    · have e' : ¬ q.1 = k := fun z => e (h1.trans z)
      have a : decide (p.1 ≠ k) = true := by simp [e]
      have b : decide (q.1 ≠ k) = true := by simp [e']
      rw [if_pos a, if_pos b]; exact .cons ⟨h1, h2⟩ ih
theorem KV.keys {kvs : List (κ × V)} {vs : List (κ × Value)} (r : KV kvs vs) : kvs.map (·.1) = vs.map (·.1) := by
  unfold KV at r
  induction r with
  | nil => rfl
  | cons h t ih => rw [List.map_cons, List.map_cons, ih, h.1]
theorem KV.length {kvs : List (κ × V)} {vs : List (κ × Value)} (r : KV kvs vs) : kvs.length = vs.length := Paired.length r
end


/-! ### a tracked dict, its keys ints and texts or tuples of these -/
theorem kV_is {P : Program} {w : World} {k : Key} {u : Value} (r : RelV (kV k) u) : (mixKind P w).is k u = true := by
  cases k with
  | inl i => obtain ⟨t, e⟩ := (show ∃ t, u = Value.int i t from r); subst e; exact mixKind_int P w i t
  | inr x => obtain ⟨t, e⟩ := (show ∃ t, u = Value.str x t from r); subst e; exact mixKind_str P w x t
theorem items_are {P : Program} {w : World} : ∀ {ks : List Key} {us : List Value}, Vals (ks.map kV) us → ItemsAre (mixKind P w) ks us
  | [], _, r => by rw [List.map_nil] at r; cases r; exact .nil
  | k :: ks, _, r => by
    rw [List.map_cons] at r
    cases r with
    | cons h t => exact .cons (kV_is h) (items_are t)

/-- raw entries of a dict with tuple keys -/
abbrev KT (H : Hp) : List (List Key × V) → List (List Key × Addr × Value) → Prop := Paired fun p q => p.1 = q.1 ∧ H q.2.1 = some (.tup (p.1.map kV)) ∧ RelV p.2 q.2.2
theorem KT.val {H : Hp} {kvs : List (List Key × V)} {xs : List (List Key × Addr × Value)} (r : KT H kvs xs) (k : List Key) : RelO (valV kvs k) ((atKey xs k).map (·.2)) := by
  induction r with
  | nil => exact True.intro
  | @cons p q ps qs h t ih =>
    obtain ⟨h1, _, h2⟩ := h
    by_cases e : p.1 = k
    · have e' : q.1 = k := h1.symm.trans e
      have b : atKey (q :: qs) k = some q.2 := by simp [atKey, List.find?_cons, e']
      rw [valV_pos e, b]; exact h2
    · have e' : ¬ q.1 = k := fun z => e (h1.trans z)
      have b : atKey (q :: qs) k = atKey qs k := by simp [atKey, List.find?_cons, e']
      rw [valV_neg e, b]; exact ih
theorem KT.repl {H : Hp} {kvs : List (List Key × V)} {xs : List (List Key × Addr × Value)} (r : KT H kvs xs) (k : List Key) {y : V} {u : Value} (ry : RelV y u) :
    KT H (kvs.map fun kv => if kv.1 = k then (kv.1, y) else kv) (xs.map (putAt k u)) := by
  induction r with
  | nil => exact .nil
  | @cons p q ps qs h t ih =>
    rw [List.map_cons, List.map_cons]
    refine .cons ?_ ih
    obtain ⟨h1, h2, h3⟩ := h
    unfold putAt
    by_cases e : p.1 = k
    · rw [if_pos e, if_pos (h1.symm.trans e)]; exact ⟨h1, h2, ry⟩
    · rw [if_neg e, if_neg (fun z => e (h1.trans z))]; exact ⟨h1, h2, h3⟩
theorem KT.put {H : Hp} {kvs : List (List Key × V)} {xs : List (List Key × Addr × Value)} (r : KT H kvs xs) (k : List Key) {b : Addr} {y : V} {u : Value} (hb : H b = some (.tup (k.map kV))) (ry : RelV y u) :
    KT H (putK kvs k y) (storedH xs k b u) := by
  have e : (kvs.any fun kv => decide (kv.1 = k)) = (atKey xs k).isSome := by
    rw [valV_any, (r.val k).isSome_eq, Option.isSome_map]
  unfold putK storedH
  rw [e]
  by_cases q : (atKey xs k).isSome = true
  · rw [if_pos q, if_pos q]; exact r.repl k ry
  · rw [if_neg q, if_neg q]; exact Paired.snoc r ⟨rfl, hb, ry⟩
theorem KT.keeps {H H' : Hp} {kvs : List (List Key × V)} {xs : List (List Key × Addr × Value)} (r : KT H kvs xs) (ht : ∀ b ys, H b = some (.tup ys) → H' b = some (.tup ys)) : KT H' kvs xs :=
  Paired.mapP r fun _ _ z => ⟨z.1, ht _ _ z.2.1, z.2.2⟩

section
variable {P : Program} {w : World} {H : Hp} {h : Heap} {a : Addr}
theorem rd_of {u : HO} (ok : HOk P w H h) (e : Rd H a u) : ObjOk P w H h a u := e.ok ok
theorem dk_rd {kvs : List (Key × V)} (ok : HOk P w H h) (e : Rd H a (.dK kvs)) : kvs.length ≤ sizeLine ∧ (a == sysModules) = false ∧ ∃ vs, KV kvs vs ∧ h.DictOf (mixKind P w) a vs :=
  show ObjOk P w H h a (.dK kvs) from rd_of ok e
theorem dk_of {kvs : List (Key × V)} (ok : HOk P w H h) (e : H a = some (.dK kvs)) : kvs.length ≤ sizeLine ∧ (a == sysModules) = false ∧ ∃ vs, KV kvs vs ∧ h.DictOf (mixKind P w) a vs := dk_rd ok (.inl e)
/-- a tracked tuple of ints and texts is a key -/
theorem key_of {ks : List Key} (ok : HOk P w H h) (e : H a = some (.tup (ks.map kV))) : (tupleKind (mixKind P w)).is h ks a := by
  obtain ⟨_, its, r, o, h1, h2, n, h3⟩ := (show ObjOk P w H h a (.tup (ks.map kV)) from ok a _ e)
  exact ⟨o, its.toArray, n, h1, h2, h3, by simpa using items_are r⟩
theorem dt_rd {kvs : List (List Key × V)} (ok : HOk P w H h) (e : Rd H a (.dT kvs)) : kvs.length ≤ sizeLine ∧ (a == sysModules) = false ∧
    ∃ xs, KT H kvs xs ∧ h.DictOfH (tupleKind (mixKind P w)) a xs := by
  obtain ⟨z, y, xs, r, o, es, ep, h1, h2, h3, h4, h5⟩ := (show ObjOk P w H h a (.dT kvs) from rd_of ok e)
  refine ⟨z, y, xs, r, o, es, ep, h1, h2, h3, h4, fun x hx => ?_, h5⟩
  have all : ∀ {l : List (List Key × V)} {m : List (List Key × Addr × Value)}, KT H l m → ∀ x ∈ m, (tupleKind (mixKind P w)).is h x.1 x.2.1 := by
    intro l m q
    induction q with
    | nil => intro x hx; exact nomatch hx
    | @cons p q ps qs hq t ih =>
      intro x hx
      rcases List.mem_cons.mp hx with e | hx
      · subst e
        exact key_of ok (by rw [← hq.1]; exact hq.2.1)
      · exact ih x hx
  exact all r x hx
theorem dt_of {kvs : List (List Key × V)} (ok : HOk P w H h) (e : H a = some (.dT kvs)) : kvs.length ≤ sizeLine ∧ (a == sysModules) = false ∧
    ∃ xs, KT H kvs xs ∧ h.DictOfH (tupleKind (mixKind P w)) a xs := dt_rd ok (.inl e)
end

/-- what the dict at a holds at the key y -/
def DGet (H : Hp) (a : Addr) (y : V) (r : Option V) : Prop :=
  (∃ kvs k, Rd H a (.dK kvs) ∧ y = kV k ∧ r = valV kvs k) ∨ ∃ kvs k b, Rd H a (.dT kvs) ∧ y = .ref b ∧ H b = some (.tup (k.map kV)) ∧ r = valV kvs k
/-- the heap behind a[y] = v -/
def DPut (H : Hp) (a : Addr) (y v : V) (H' : Hp) : Prop :=
  (∃ kvs k, H a = some (.dK kvs) ∧ y = kV k ∧ kvs.length < sizeLine ∧ H' = upd H a (.dK (putK kvs k v))) ∨
  ∃ kvs k b, H a = some (.dT kvs) ∧ y = .ref b ∧ H b = some (.tup (k.map kV)) ∧ kvs.length < sizeLine ∧ H' = upd H a (.dT (putK kvs k v))
theorem DGet.k {H : Hp} {a : Addr} {kvs : List (Key × V)} {k : Key} (e : H a = some (.dK kvs)) : DGet H a (kV k) (valV kvs k) := .inl ⟨kvs, k, .inl e, rfl, rfl⟩
theorem DGet.t {H : Hp} {a b : Addr} {kvs : List (List Key × V)} {k : List Key} (e : H a = some (.dT kvs)) (eb : H b = some (.tup (k.map kV))) : DGet H a (.ref b) (valV kvs k) := .inr ⟨kvs, k, b, .inl e, rfl, eb, rfl⟩
theorem DPut.k {H : Hp} {a : Addr} {kvs : List (Key × V)} {k : Key} {v : V} (e : H a = some (.dK kvs)) (hl : kvs.length < sizeLine) : DPut H a (kV k) v (upd H a (.dK (putK kvs k v))) := .inl ⟨kvs, k, e, rfl, hl, rfl⟩
theorem DPut.t {H : Hp} {a b : Addr} {kvs : List (List Key × V)} {k : List Key} {v : V} (e : H a = some (.dT kvs)) (eb : H b = some (.tup (k.map kV))) (hl : kvs.length < sizeLine) :
    DPut H a (.ref b) v (upd H a (.dT (putK kvs k v))) := .inr ⟨kvs, k, b, e, rfl, eb, hl, rfl⟩


section
variable {X : Cx} {pins : List (Addr × Obj)} {σ : St} {H : Hp} {s : Shared} {a : Addr} {y v : V} {u r : Value} {o : Option V} {A : Around} {E : Value → Shared → Prop}

theorem Inv.big (I : Inv X pins σ H s) : sysModules < s.heap.objs.size := by
  have h : mainGlobals < s.heap.objs.size := (I.mod.glob.keeps I.bk).lt
  exact Nat.lt_trans (by decide) h

theorem d_notIn {Q : Value → Shared → Prop} (hu : A.units + 1 < cLine) (I : Inv X pins σ H s) (g : DGet H a y o) (ry : RelV y u) (h : ∀ s', Inv X pins σ H s' → Q (.bool (!o.isSome)) s') :
    wpAny (model X.prog X.w) A (compareOp .NotIn u (.ref a)) Q E s := by
  rcases g with ⟨kvs, k, e, ey, l⟩ | ⟨kvs, k, b, e, ey, eb, l⟩
  · subst ey
    obtain ⟨z, hd, vs, rel, dd⟩ := dk_rd I.hok e
    refine wpAny_notIn_of (kV_is ry) hd dd.mapOf ?_
    rw [← (rel.val k).isSome_eq, ← l]
    exact h _ (I.tok _)
  · subst ey
    cases (show u = Value.ref b from ry)
    obtain ⟨z, hd, xs, rel, dd⟩ := dt_rd I.hok e
    refine wpAny_notIn_heap (tupleKind_room_in1 hu) (key_of I.hok eb) hd dd ?_
    have q := (rel.val k).isSome_eq
    rw [Option.isSome_map] at q
    rw [← q, ← l]
    exact h _ (I.tok _)
/-- a dict's object is replaced -/
theorem d_write {h' : Heap} {t' : Nat} {ob : HO} (I : Inv X pins σ H s) (mu : Mut (H a)) (hs : Heap.SameBut a s.heap h') (he : ∃ q, h'.get? a = some q) (new : ObjOk X.prog X.w (upd H a ob) h' a ob) :
    Inv X pins σ (upd H a ob) { s with heap := h', toks := t' } :=
  I.write (x := a) (e := a) mu (.inl rfl) (fun b q hb z => (hs.2 b hb).trans z) he new
theorem dk_new {P : Program} {w : World} {H' : Hp} {h' : Heap} {kvs : List (Key × V)} {vs : List (Key × Value)} (z : kvs.length ≤ sizeLine) (hd : (a == sysModules) = false) (rel : KV kvs vs) (dd : h'.DictOf (mixKind P w) a vs) :
    ObjOk P w H' h' a (.dK kvs) := ⟨z, hd, vs, rel, dd⟩
/-- d[y] = v -/
theorem d_setItem {H' : Hp} {Q : Unit → Shared → Prop} (hu : A.units + 1 < cLine) (I : Inv X pins σ H s) (g : DPut H a y v H') (ry : RelV y u) (rv : RelV v r) (h : ∀ s', Inv X pins σ H' s' → Q () s') :
    wpAny (model X.prog X.w) A (setItem (.ref a) u r) Q E s := by
  rcases g with ⟨kvs, k, e, ey, l, eH⟩ | ⟨kvs, k, b, e, ey, eb, l, eH⟩
  · subst ey eH
    obtain ⟨z, hd, vs, rel, dd⟩ := dk_of I.hok e
    have hz : vs.length ≤ sizeLine := by rw [← rel.length]; exact z
    have hl : (putK kvs k v).length ≤ sizeLine := by have := length_putK kvs k v; omega
    refine wpAny_setItem_pairs (hsz := hz) (kV_is ry) dd fun h' dd' hs => h _ ?_
    have he : ∃ q, h'.get? a = some q := let ⟨q, _, _, hq, _⟩ := dd'; ⟨q, hq⟩
    exact d_write I (by rw [e]; exact True.intro) hs he (dk_new hl hd (rel.put k rv) dd')
  · subst ey eH
    cases (show u = Value.ref b from ry)
    obtain ⟨z, hd, xs, rel, dd⟩ := dt_of I.hok e
    have hz : xs.length ≤ sizeLine := by rw [← Paired.length rel]; exact z
    have hl : (putK kvs k v).length ≤ sizeLine := by have := length_putK kvs k v; omega
    refine wpAny_setItem_heap (hsz := hz) (tupleKind_room_in1 hu) (key_of I.hok eb) dd fun h' dd' hs => h _ ?_
    obtain ⟨q, es, ep, hq, h2, h3, h4, _, h5⟩ := dd'
    refine d_write I (by rw [e]; exact True.intro) hs ⟨q, hq⟩ ⟨hl, hd, _, (rel.put k eb rv).keeps fun c ys ec => ?_, q, es, ep, hq, h2, h3, h4, h5⟩
    rw [upd_ne (ne_of ec e (fun z => nomatch z))]
    exact ec
end

section
variable {X : Cx} {pins : List (Addr × Obj)} {σ : St} {H : Hp} {s : Shared} {a : Addr} {kvs : List (Key × V)} {k : Key} {u : Value} {A : Around} {E : Value → Shared → Prop}
end


/-! ### readings and rules -/
def tDNotIn (ty td : TE) : TE := fun σ H Q => ty σ H fun y H1 => td σ H1 fun x H2 => ∃ a o, x = .ref a ∧ DGet H2 a y o ∧ Q (.bl (!o.isSome)) H2
/-- d[y] = v -/
def sDPut (td ty tv : TE) : TS := fun D σ H => tv σ H fun v H1 => td σ H1 fun x H2 => ty σ H2 fun y H3 => ∃ a H4, x = .ref a ∧ DPut H3 a y v H4 ∧ D.nx σ H4
section
variable {X : Cx} {o i e value : Expr} {pos pos' tpos : Pos} {td ty tv : TE}
theorem pc_dnotin (hu : X.A.units + 1 < cLine) (hi : PE X i ty) (ho : PE X o td) : PC X .NotIn i o (tDNotIn ty td) := by
  intro pins s σ H Q I h
  refine thn (hi pins s σ H _ I h) fun iv s1 ⟨y, H1, I1, ry, q1⟩ => thn (ho pins s1 σ H1 _ I1 q1) fun u s2 ⟨x, H2, I2, rx, a, ov, ex, g, q2⟩ => ?_
  subst ex
  obtain rfl : u = Value.ref a := rx
  exact d_notIn hu I2 g ry fun s3 I3 => ⟨.bl (!ov.isSome), H2, I3, rfl, q2⟩
theorem ps_dput (hu : X.A.units + 1 < cLine) (ho : PE X o td) (hi : PE X i ty) (hv : PE X value tv) (hs : swapsWith value (some (.Subscript o i pos')) pos.line X.env = pure false) :
    PS X (.Assign [.Subscript o i pos'] value pos) (sDPut td ty tv) := by
  intro pins s σ H D I h
  refine wpAny_Assign_Subscript (thn (hv pins s σ H _ I h) fun r s1 ⟨v, H1, I1, rv, q1⟩ => thn (ho pins s1 σ H1 _ I1 q1) fun u s2 ⟨x, H2, I2, rx, q2⟩ => thn (hi pins s2 σ H2 _ I2 q2) fun iv s3 ⟨y, H3, I3, ry, a, H4, ex, g, q3⟩ => ?_) hs
  subst ex
  obtain rfl : u = Value.ref a := rx
  exact d_setItem hu I3 g ry rv fun s4 I4 => ⟨σ, H4, I4, q3⟩
end


/-! ### displays -/
theorem dk_empty {P : Program} {w : World} {H : Hp} (h : Heap) (hb : sysModules < h.objs.size) : ObjOk P w H (h.push { cls := .type "dict", data := .dict #[] }) h.objs.size (.dK []) :=
  ⟨Nat.zero_le _, beq_eq_false_iff_ne.mpr (Ne.symm (Nat.ne_of_lt hb)), [], .nil, Heap.DictOf.new h⟩
/-- {}, to be a dict of the kind that is wanted -/
def tDNewK : TE := fun _ H Q => ∀ p, H p = none → Q (.ref p) (upd H p (.dK []))
section
variable {X : Cx} {pos : Pos}
theorem pe_dnewK : PE X (.Dict [] [] pos) tDNewK := fun pins s σ H Q I h =>
  wpAny_Dict_empty ⟨.ref s.heap.objs.size, _, I.laid (a := s.heap.objs.size) (o := .dK []) (t' := s.toks) (fun _ _ q => Heap.get?_push_of_some _ q) (Nat.le_refl _) (dk_empty s.heap I.big), rfl, h _ (I.hok.fresh (Nat.le_refl _))⟩
end

/-! ### methods -/
/-- a method call o.m(e) of a built-in, with one argument: what must be seen of the text -/
structure M1 (X : Cx) (o : Expr) (m : Str) (apos : Pos) (e : Expr) (cpos : Pos) : Prop where
  base : attributeBase o m X.env (eval o X.env) = eval o X.env
  few : ((backTo cpos (starEach [e] X.env)).all (fun x => !x.1) && (backToKw cpos (keywordEach [] X.env)).all (fun x => x.1.isSome)
    && decide (([e] : List Expr).length + ([] : List Keyword).length + (if ([] : List Keyword).isEmpty then 0 else 1) < 30)) = true
  line : (apos.endLine == cpos.line) = true
  trees : backTo cpos (starEach [e] X.env) = [(false, eval e X.env)]
structure M2 (X : Cx) (o : Expr) (m : Str) (apos : Pos) (e f : Expr) (cpos : Pos) : Prop where
  base : attributeBase o m X.env (eval o X.env) = eval o X.env
  few : ((backTo cpos (starEach [e, f] X.env)).all (fun x => !x.1) && (backToKw cpos (keywordEach [] X.env)).all (fun x => x.1.isSome)
    && decide (([e, f] : List Expr).length + ([] : List Keyword).length + (if ([] : List Keyword).isEmpty then 0 else 1) < 30)) = true
  line : (apos.endLine == cpos.line) = true
  trees : backTo cpos (starEach [e, f] X.env) = [(false, eval e X.env), (false, eval f X.env)]

section
variable {X : Cx} {pins : List (Addr × Obj)} {σ : St} {H : Hp} {s : Shared} {a : Addr} {y d : V} {u r : Value} {o : Option V} {A : Around} {E : Value → Shared → Prop}
end

section
variable {X : Cx} {o e f : Expr} {apos cpos : Pos} {td ty tx : TE}
end

/-! ### dict(d): a copy -/
section
variable {X : Cx} {pins : List (Addr × Obj)} {σ : St} {H : Hp} {s : Shared} {a : Addr} {kvs : List (Key × V)} {A : Around} {E : Value → Shared → Prop}
end


section
variable {X : Cx} {pins : List (Addr × Obj)} {σ : St} {H : Hp} {s : Shared} {a : Addr} {y : V} {u : Value} {A : Around} {E : Value → Shared → Prop}
end
end L2

set_option maxHeartbeats 1000000
/-! ### x in d.values(); list(reversed(text)) -/
namespace L2
open PySem PySem.Spec PyProof.Rows
section
variable {prog : Program} {w : World} {KK : Type} [DecidableEq KK] {knd : KeyKind prog w KK}
end
section
variable {X : Cx}
end
end L2
namespace PySem
theorem Runs.det {M : Model} {Γ : Ctx} {p : Pos} {t : Sem Fin} {fs : List Frame} {s s' : Shared} {e : End} (h : Runs M Γ p t fs s e s') : ∀ e2 s2, Runs M Γ p t fs s e2 s2 → e2 = e ∧ s2 = s' := by
  induction h with
  | done => intro e2 s2 h2; cases h2; exact ⟨rfl, rfl⟩
  | raise => intro e2 s2 h2; cases h2; exact ⟨rfl, rfl⟩
  | again _ _ ih => intro e2 s2 h2; cases h2; rename_i h; exact ih _ _ h
  | rule _ ih => intro e2 s2 h2; cases h2; rename_i h; exact ih _ _ h
  | «at» _ ih => intro e2 s2 h2; cases h2; rename_i h; exact ih _ _ h
  | load ho _ ih => intro e2 s2 h2; cases h2; rename_i ho' h; rw [ho] at ho'; cases ho'; exact ih _ _ h
  | update _ _ ih => intro e2 s2 h2; cases h2; rename_i h; exact ih _ _ h
  | loadIfAlive _ ih => intro e2 s2 h2; cases h2; rename_i h; exact ih _ _ h
  | point _ ih => intro e2 s2 h2; cases h2; rename_i h; exact ih _ _ h
  | alloc _ ih => intro e2 s2 h2; cases h2; rename_i h; exact ih _ _ h
  | fresh _ ih => intro e2 s2 h2; cases h2; rename_i h; exact ih _ _ h
  | ask _ ih => intro e2 s2 h2; cases h2; rename_i h; exact ih _ _ h
  | choose _ _ ih => intro e2 s2 h2; cases h2; rename_i h; exact ih _ _ h
  | os _ ih => intro e2 s2 h2; cases h2; rename_i h; exact ih _ _ h
  | handled _ ih => intro e2 s2 h2; cases h2; rename_i h; exact ih _ _ h
  | genState ho _ ih => intro e2 s2 h2; cases h2; rename_i ho' h; rw [ho] at ho'; cases ho'; exact ih _ _ h
  | stack _ ih => intro e2 s2 h2; cases h2; rename_i h; exact ih _ _ h
  | thread _ ih => intro e2 s2 h2; cases h2; rename_i h; exact ih _ _ h
  | newGen _ ih => intro e2 s2 h2; cases h2; rename_i h; exact ih _ _ h
  | call _ _ ih1 ih2 =>
    intro e2 s2 h2
    cases h2 with
    | call a b => obtain ⟨x, y⟩ := ih1 _ _ a; cases x; cases y; exact ih2 _ _ b
    | callSusp a => obtain ⟨x, y⟩ := ih1 _ _ a; cases x
  | callSusp _ ih1 =>
    intro e2 s2 h2
    cases h2 with
    | call a b => obtain ⟨x, y⟩ := ih1 _ _ a; cases x
    | callSusp a => obtain ⟨x, y⟩ := ih1 _ _ a; cases x; cases y; exact ⟨rfl, rfl⟩
  | yield => intro e2 s2 h2; cases h2; exact ⟨rfl, rfl⟩
  | resumeFresh g1 _ q _ ih1 ih2 =>
    intro e2 s2 h2
    cases h2 with
    | resumeFresh g2 a _ b => rw [g1] at g2; cases g2; obtain ⟨x, y⟩ := ih1 _ _ a; cases x; cases y; exact ih2 _ _ b
    | resumeSuspended g2 a _ b => rw [g1] at g2; cases g2
    | resumeJustStarted g2 v b => exact absurd rfl v
    | resumeRunning g2 b => rw [g1] at g2; cases g2
    | resumeFinished g2 b => rw [g1] at g2; cases g2
  | resumeSuspended g1 _ q _ ih1 ih2 =>
    intro e2 s2 h2
    cases h2 with
    | resumeFresh g2 a _ b => rw [g1] at g2; cases g2
    | resumeSuspended g2 a _ b => rw [g1] at g2; cases g2; obtain ⟨x, y⟩ := ih1 _ _ a; cases x; cases y; exact ih2 _ _ b
    | resumeJustStarted g2 v b => rw [g1] at g2; cases g2
    | resumeThrowFresh g2 b => rw [g1] at g2; cases g2
    | resumeRunning g2 b => rw [g1] at g2; cases g2
    | resumeFinished g2 b => rw [g1] at g2; cases g2
  | resumeJustStarted g1 v _ ih =>
    intro e2 s2 h2
    cases h2 with
    | resumeFresh g2 a _ b => exact absurd rfl v
    | resumeSuspended g2 a _ b => rw [g1] at g2; cases g2
    | resumeJustStarted g2 _ b => exact ih _ _ b
    | resumeRunning g2 b => rw [g1] at g2; cases g2
    | resumeFinished g2 b => rw [g1] at g2; cases g2
  | resumeThrowFresh g1 _ ih =>
    intro e2 s2 h2
    cases h2 with
    | resumeSuspended g2 a _ b => rw [g1] at g2; cases g2
    | resumeThrowFresh g2 b => exact ih _ _ b
    | resumeRunning g2 b => rw [g1] at g2; cases g2
    | resumeFinished g2 b => rw [g1] at g2; cases g2
  | resumeRunning g1 _ ih =>
    intro e2 s2 h2
    cases h2 with
    | resumeFresh g2 a _ b => rw [g1] at g2; cases g2
    | resumeSuspended g2 a _ b => rw [g1] at g2; cases g2
    | resumeJustStarted g2 v b => rw [g1] at g2; cases g2
    | resumeThrowFresh g2 b => rw [g1] at g2; cases g2
    | resumeRunning g2 b => exact ih _ _ b
    | resumeFinished g2 b => rw [g1] at g2; cases g2
  | resumeFinished g1 _ ih =>
    intro e2 s2 h2
    cases h2 with
    | resumeFresh g2 a _ b => rw [g1] at g2; cases g2
    | resumeSuspended g2 a _ b => rw [g1] at g2; cases g2
    | resumeJustStarted g2 v b => rw [g1] at g2; cases g2
    | resumeThrowFresh g2 b => rw [g1] at g2; cases g2
    | resumeRunning g2 b => rw [g1] at g2; cases g2
    | resumeFinished g2 b => exact ih _ _ b
  | segRet _ _ ih1 ih2 =>
    intro e2 s2 h2
    cases h2 with
    | segRet a b => obtain ⟨x, y⟩ := ih1 _ _ a; cases x; cases y; exact ih2 _ _ b
    | segSuspOut q a => obtain ⟨x, y⟩ := ih1 _ _ a; cases x
    | segSuspGen q a _ b => obtain ⟨x, y⟩ := ih1 _ _ a; cases x
  | segGen _ _ ih1 ih2 =>
    intro e2 s2 h2
    cases h2 with
    | segGen a b => obtain ⟨x, y⟩ := ih1 _ _ a; cases x; cases y; exact ih2 _ _ b
    | segSuspOut q a => obtain ⟨x, y⟩ := ih1 _ _ a; cases x
    | segSuspGen q a _ b => obtain ⟨x, y⟩ := ih1 _ _ a; cases x
  | segSuspOut q1 _ ih1 =>
    intro e2 s2 h2
    cases h2 with
    | segRet a b => obtain ⟨x, y⟩ := ih1 _ _ a; cases x
    | segGen a b => obtain ⟨x, y⟩ := ih1 _ _ a; cases x
    | segSuspOut q a => obtain ⟨x, y⟩ := ih1 _ _ a; cases x; cases y; exact ⟨rfl, rfl⟩
    | segSuspGen q a _ b => rw [q1] at q; cases q
  | segSuspGen q1 _ _ _ ih1 ih2 =>
    intro e2 s2 h2
    cases h2 with
    | segRet a b => obtain ⟨x, y⟩ := ih1 _ _ a; cases x
    | segGen a b => obtain ⟨x, y⟩ := ih1 _ _ a; cases x
    | segSuspOut q a => rw [q1] at q; cases q
    | segSuspGen q a _ b => rw [q1] at q; cases q; obtain ⟨x, y⟩ := ih1 _ _ a; cases x; cases y; exact ih2 _ _ b

theorem Wakes.det {M : Model} {Γ : Ctx} {p : Pos} {g : Nat} {r : Resume} {s s' s2 : Shared} {res res2 : GenResult} (h : Wakes M Γ p g r s res s') (h2 : Wakes M Γ p g r s res2 s2) : res2 = res ∧ s2 = s' := by
  unfold Wakes at h h2
  cases hg : s.gens[g]? with
  | none => rw [hg] at h; exact h.elim
  | some st =>
    rw [hg] at h h2
    cases st with
    | fresh c =>
      cases r with
      | send v =>
        cases v with
        | none => obtain ⟨e1, s1, a, _, rfl, rfl⟩ := h; obtain ⟨e2, s2', b, _, rfl, rfl⟩ := h2; obtain ⟨rfl, rfl⟩ := a.det _ _ b; exact ⟨rfl, rfl⟩
        | _ => exact ⟨h2.1.trans h.1.symm, h2.2.trans h.2.symm⟩
      | throw x => exact ⟨h2.1.trans h.1.symm, h2.2.trans h.2.symm⟩
    | suspended k0 l0 c0 p0 f0 c1 => obtain ⟨e1, s1, a, _, rfl, rfl⟩ := h; obtain ⟨e2, s2', b, _, rfl, rfl⟩ := h2; obtain ⟨rfl, rfl⟩ := a.det _ _ b; exact ⟨rfl, rfl⟩
    | running => exact ⟨h2.1.trans h.1.symm, h2.2.trans h.2.symm⟩
    | finished => exact ⟨h2.1.trans h.1.symm, h2.2.trans h.2.symm⟩
theorem wp_and {α : Type} (M : Model) (Γ : Ctx) (t : Sem α) : ∀ (Q Q' : α → Pos → Shared → Prop) (E E' : Value → Pos → Shared → Prop) (p : Pos) (s : Shared), Sem.wp M Γ t Q E p s → Sem.wp M Γ t Q' E' p s →
    Sem.wp M Γ t (fun a p s => Q a p s ∧ Q' a p s) (fun a p s => E a p s ∧ E' a p s) p s := by
  induction t with
  | pure a => intro Q Q' E E' p s h h'; exact ⟨h, h'⟩
  | raise e => intro Q Q' E E' p s h h'; exact ⟨h, h'⟩
  | unsupported _ => intro Q Q' E E' p s h h'; exact h
  | finish _ => intro Q Q' E E' p s h h'; exact h
  | rule _ k ih => intro Q Q' E E' p s h h'; exact ih () _ _ _ _ p s h h'
  | «at» p' k ih => intro Q Q' E E' p s h h'; exact ih () _ _ _ _ p' s h h'
  | load a _ k ih => intro Q Q' E E' p s h h'; obtain ⟨o, ho, h⟩ := h; obtain ⟨o', ho', h'⟩ := h'; rw [ho] at ho'; cases ho'; exact ⟨o, ho, ih o _ _ _ _ p s h h'⟩
  | update a _ f k ih => intro Q Q' E E' p s h h'; exact ⟨h.1, ih () _ _ _ _ p _ h.2 h'.2⟩
  | loadIfAlive a k ih => intro Q Q' E E' p s h h'; exact ih _ _ _ _ _ p s h h'
  | point _ k ih => intro Q Q' E E' p s h h'; exact ih () _ _ _ _ p s h h'
  | register _ _ => intro Q Q' E E' p s h h'; exact h
  | alloc o k ih => intro Q Q' E E' p s h h'; exact ih _ _ _ _ _ p _ h h'
  | fresh k ih => intro Q Q' E E' p s h h'; exact ih _ _ _ _ _ p _ h h'
  | ask k ih => intro Q Q' E E' p s h h'; exact ih _ _ _ _ _ p s h h'
  | choose src m k ih => intro Q Q' E E' p s h h'; exact ⟨h.1, ih _ _ _ _ _ p _ h.2 h'.2⟩
  | os q _ k ih => intro Q Q' E E' p s h h'; exact ih _ _ _ _ _ p _ h h'
  | call c hd _ _ k ih =>
    intro Q Q' E E' p s h h'
    obtain ⟨r, s1, hr, h⟩ := h
    obtain ⟨r', s1', hr', h'⟩ := h'
    obtain ⟨e1, rfl⟩ := Runs.det hr _ _ hr'
    cases e1
    exact ⟨r, s1', hr, ih r _ _ _ _ p s1' h h'⟩
  | handled own k ih => intro Q Q' E E' p s h h'; exact ih _ _ _ _ _ p s h h'
  | genState g k ih => intro Q Q' E E' p s h h'; obtain ⟨o, ho, h⟩ := h; obtain ⟨o', ho', h'⟩ := h'; rw [ho] at ho'; cases ho'; exact ⟨o, ho, ih _ _ _ _ _ p s h h'⟩
  | newGen c k ih => intro Q Q' E E' p s h h'; exact ih _ _ _ _ _ p _ h h'
  | resume g r _ k ih =>
    intro Q Q' E E' p s h h'
    obtain ⟨x, s1, hr, h⟩ := h
    obtain ⟨x', s1', hr', h'⟩ := h'
    obtain ⟨rfl, rfl⟩ := hr.det hr'
    exact ⟨x', s1', hr, ih x' _ _ _ _ p s1' h h'⟩
  | yield _ _ _ _ => intro Q Q' E E' p s h h'; exact h
  | stack k ih => intro Q Q' E E' p s h h'; exact ih _ _ _ _ _ p s h h'
  | fork _ _ => intro Q Q' E E' p s h h'; exact h
  | thread k ih => intro Q Q' E E' p s h h'; exact ih _ _ _ _ _ p s h h'
  | await _ _ _ _ _ => intro Q Q' E E' p s h h'; exact h
theorem wpAny_and {α : Type} {M : Model} {A : Around} {t : Sem α} {Q Q' : α → Shared → Prop} {E E' : Value → Shared → Prop} {s : Shared} (h : wpAny M A t Q E s) (h' : wpAny M A t Q' E' s) :
    wpAny M A t (fun a s => Q a s ∧ Q' a s) (fun a s => E a s ∧ E' a s) s := fun Γ p hΓ => wp_and M Γ t _ _ _ _ p s (h Γ p hΓ) (h' Γ p hΓ)
end PySem
namespace L2
open PySem PySem.Spec PyProof.Rows
/-! ### tokens: a call that asks something of the state ahead, tells something of the state behind -/
structure FnOkG (P : Program) (w : World) (K : PySem.W.Frag) (mg : Str → Option Value) (base : Heap) (k : Nat) (f : Addr) (fd : FuncData) (ps : List Str) (sp : Sp) (pre : List Value → Shared → Prop) (post : Shared → Prop) : Prop where
  len : ∀ vs H Q E, sp vs H Q E → vs.length = ps.length
  run : ∀ (A : Around) (outer : List Env) (s : Shared) (H : Hp) (args : Args) (us : List Value) (vs : List V) (Q : VK) (E : XK), Room k A → Env0 P w K mg base A outer s H → BindsTo s fd args (ps.zip us) → Vals vs us → pre us s → sp vs H Q E →
    codeAny (model P w) A (.call (.ref f) args) (fun r s' => CR CX0 outer P w H s Q E r s' ∧ post s') s
theorem FnOkG.mono {P : Program} {w : World} {K : PySem.W.Frag} {mg : Str → Option Value} {base : Heap} {j k : Nat} {f : Addr} {fd : FuncData} {ps : List Str} {sp : Sp} {pre : List Value → Shared → Prop} {post : Shared → Prop}
    (F : FnOkG P w K mg base j f fd ps sp pre post) (h : j ≤ k) : FnOkG P w K mg base k f fd ps sp pre post := ⟨F.len, fun A outer s H args us vs Q E hr => F.run A outer s H args us vs Q E (hr.mono h)⟩
/-- the names' own values at the entry -/
def Held (h : Heap) (L : Addr) (scope : Scope) (ps : List Str) (us : List Value) : Prop := ∃ m, h.Ns L m ∧ ∀ (i : Nat) (y : Str) (u : Value), ps[i]? = some y → us[i]? = some u → scope.names.lookup y = some .local → m y = some u
section
variable {P : Program} {w : World} {K : PySem.W.Frag} {mg : Str → Option Value} {base : Heap}
theorem Fun.okG {x qual : Str} {st : Stmt} {f : Addr} {fd : FuncData} {N ps : List Str} {k : Nat} {sp : Sp} {pre : List Value → Shared → Prop} {post : Shared → Prop} (F : Fun K x qual st f fd) (S : FnScope N ps (defScope st)) (len : ∀ vs H Q E, sp vs H Q E → vs.length = ps.length)
    (hbody : ∀ (cdv : Value) (A : Around) (outer : List Env) (s : Shared) (H : Hp) (vs : List V) (Q : VK) (E : XK), Room k (A.deeper (envOfC qual (defScope st) s.heap.objs.size f cdv)) → sp vs H Q E →
      ∃ t : TS, (∀ (s1 : Shared) (us : List Value) (D : Ends), Inv (cxOf CX0 P w K mg base N qual (defScope st) f cdv A outer s H E).nox [] (start N vs) H s1 → pre us s → s.toks ≤ s1.toks → Held s1.heap s.heap.objs.size (defScope st) ps us → t D (start N vs) H →
        wpAny (model P w) (A.deeper (envOfC qual (defScope st) s.heap.objs.size f cdv)) (execs (defBody st) (envOfC qual (defScope st) s.heap.objs.size f cdv)) (fun fl s' => SP (cxOf CX0 P w K mg base N qual (defScope st) f cdv A outer s H E).nox [] D fl s' ∧ post s') (fun _ _ => False) s1) ∧
      t { nx := fun _ H' => Q .non H', rt := Q } (start N vs) H) : FnOkG P w K mg base (k + 1) f fd ps sp pre post := by
  obtain ⟨oc, od, kV, doc, pm, an, cdv, ct, osl, rfl, lk, hcd⟩ := F.ex
  refine ⟨len, fun A outer s H args us vs Q E hr e0 hb r hpre hsp => ?_⟩
  have KX : K.In s.heap := e0.mod.kin.keeps fun b o e => (e0.bs b o e).1
  have lim : s.heap.NoLimit := e0.mod.nolimit.keeps fun b o e => (e0.bs b o e).1
  have ndP : ps.Nodup := by rw [← S.pre]; exact S.nd.sublist (List.take_sublist _ _)
  refine codeAny_call_function hr.depth (KX _ _ lk) rfl S.co S.gen rfl (PySem.W.codeRec_of KX hcd) (hb _ _ _ _ ?_)
  refine wpAny_with_toks (n := s.toks) (Nat.le_refl _) (wpAny_newFunctionEnv_cells S.kind (fun ⟨n, v⟩ hy => ?_) fun env he s1 x htk => ?_)
  · rcases S.par n (List.of_mem_zip hy).1 with q | q
    · exact .inl q
    · exact .inr ⟨q, PySem.W.cellsFrom_some _ _ _ (.inl q)⟩
  subst he
  obtain ⟨t, ht, hq⟩ := hbody cdv A outer s H vs Q E (hr.deeper _) hsp
  have I0 : Inv (cxOf CX0 P w K mg base N qual (defScope st) f cdv A outer s H E) [] (start N vs) H s1 := inv_start S hr.hd e0 (len _ _ _ _ hsp) r x
  have hheld : Held s1.heap s.heap.objs.size (defScope st) ps us := ⟨_, x.toInCall.ns, fun i y u e1 e2 e3 => bindL_get ndP e1 e2 e3⟩
  refine ⟨lim.keeps x.toInCall.keep, codeAny_func (wpAny_mono (ht s1 us _ (I0.wish _) hpre htk hheld hq) (fun fl s' ⟨hs, hp⟩ => ⟨?_, hp⟩) fun _ _ z => z.elim)⟩
  cases fl with
  | ret u =>
    obtain ⟨v, σ', H', J, rv, q⟩ := hs
    exact ⟨v, H', J.os, J.bare, J.base, J.hok, rv, q⟩
  | next =>
    obtain ⟨σ', H', J, q⟩ := hs
    exact ⟨V.non, H', J.os, J.bare, J.base, J.hok, rfl, q⟩
  | brk => obtain ⟨_, _, _, q⟩ := hs; exact q.elim
  | cont => obtain ⟨_, _, _, q⟩ := hs; exact q.elim
end
end L2
/-! ### a text cut at each sign c -/
namespace L2
open PySem PySem.Spec PyProof.Rows
def spl (c : Nat) : List Nat → List (List Nat)
  | [] => [[]]
  | d :: r => if d = c then [] :: spl c r else match spl c r with | [] => [[d]] | p :: ps => (d :: p) :: ps
theorem spl_ne (c : Nat) : ∀ l, ∃ p ps, spl c l = p :: ps
  | [] => ⟨_, _, rfl⟩
  | d :: r => by
    unfold spl
    split
    · exact ⟨_, _, rfl⟩
    · obtain ⟨p, ps, e⟩ := spl_ne c r
      rw [e]; exact ⟨_, _, rfl⟩
theorem spl_flat (c : Nat) : ∀ l : List Nat, (spl c l).flatten = l.filter fun d => decide (d ≠ c)
  | [] => rfl
  | d :: r => by
    have ih := spl_flat c r
    by_cases h : d = c
    · subst h
      rw [List.filter_cons_of_neg (by simp)]
      unfold spl
      rw [if_pos rfl, List.flatten_cons, List.nil_append]
      exact ih
    · rw [List.filter_cons_of_pos (by simpa using h)]
      unfold spl
      rw [if_neg h]
      obtain ⟨p, ps, e⟩ := spl_ne c r
      rw [e] at ih ⊢
      rw [← ih]
      rfl
/-- where c stands, from a on -/
def ats (c : Nat) : Nat → List Nat → List Nat
  | _, [] => []
  | a, d :: r => if d = c then a :: ats c (a + 1) r else ats c (a + 1) r
theorem occ_ats (l : List Nat) (c lim : Nat) : ∀ (r : List Nat) (a : Nat) (st : Array Nat × Nat), l.drop a = r → st.2 ≤ a → st.1.size + r.length < lim →
    (forIn (List.range' a (r.length + 1)) st (StrLaws.occBody (S l) (S [c]) l.length lim)).run.fst.toList = st.1.toList ++ ats c a r
  | [], a, st, hd, hf, hl => by
    have hal : l.length ≤ a := List.drop_eq_nil_iff.mp hd
    show (forIn [a] st (StrLaws.occBody (S l) (S [c]) l.length lim)).run.fst.toList = st.1.toList ++ []
    rw [List.forIn_cons, List.append_nil]
    unfold StrLaws.occBody
    rw [if_neg (by rw [S_len]; simp only [List.length_cons, List.length_nil]; omega)]
    rfl
  | d :: r, a, st, hd, hf, hl => by
    have hal : a < l.length := by
      have := congrArg List.length hd
      simp only [List.length_drop, List.length_cons] at this
      omega
    have hget : l[a]? = some d := by
      have := congrArg (fun z => z[0]?) hd
      simpa using this
    have hd' : l.drop (a + 1) = r := by
      have := congrArg List.tail hd
      simpa using this
    show (forIn (a :: List.range' (a + 1) (r.length + 1)) st (StrLaws.occBody (S l) (S [c]) l.length lim)).run.fst.toList = _
    rw [List.forIn_cons]
    have hsub : Builtin.Str.subAt (S l) (S [c]) a = (l[a]? == some c) := subAt_one l c a
    simp only [List.length_cons] at hl
    by_cases h : d = c
    · subst h
      unfold StrLaws.occBody
      rw [if_pos (by rw [hsub, hget, S_len]; simp only [List.length_cons, List.length_nil]; exact ⟨⟨⟨by omega, hf⟩, by omega⟩, by simp⟩)]
      have ih := occ_ats l d lim r (a + 1) (st.1.push a, a + (S [d]).length) hd' (by rw [S_len]; simp) (by simp only [Array.size_push]; omega)
      unfold ats
      rw [if_pos rfl]
      refine Eq.trans ih ?_
      simp
    · unfold StrLaws.occBody
      rw [if_neg (by rw [hsub, hget]; simp [h])]
      have ih := occ_ats l c lim r (a + 1) st hd' (by omega) (by omega)
      unfold ats
      rw [if_neg h]
      exact ih
theorem occ_all (l : List Nat) (c lim : Nat) (h : l.length < lim) : Builtin.Str.occurrences (S l) (S [c]) 0 (S l).length lim = ats c 0 l := by
  rw [StrLaws.occ_eq, S_len]
  exact (occ_ats l c lim l 0 (#[], 0) rfl (Nat.le_refl _) (by simpa using h)).trans (by simp)
theorem strSub_S (l : List Nat) (i j : Nat) : Builtin.Str.strSub (S l) i j = S ((l.drop i).take (j - i)) := by
  apply Str.ext'
  apply Array.toList_inj.mp
  rw [StrLaws.strSub_toList]
  simp [S]
theorem parts_spl (l : List Nat) (c : Nat) : ∀ (r : List Nat) (a b : Nat), b ≤ a → l.drop a = r → (∀ d ∈ (l.drop b).take (a - b), d ≠ c) →
    StrLaws.partsFrom (S l) 1 b (ats c a r) = ((match spl c r with | [] => [] | p :: ps => ((l.drop b).take (a - b) ++ p) :: ps)).map S
  | [], a, b, hba, hd, hn => by
    have hal : l.length ≤ a := List.drop_eq_nil_iff.mp hd
    show [Builtin.Str.strSub (S l) b (S l).length] = [S ((l.drop b).take (a - b) ++ [])]
    rw [strSub_S, S_len, List.append_nil]
    congr 2
    rw [List.take_of_length_le (by rw [List.length_drop]; omega), List.take_of_length_le (by rw [List.length_drop]; omega)]
  | d :: r, a, b, hba, hd, hn => by
    have hal : a < l.length := by
      have := congrArg List.length hd
      simp only [List.length_drop, List.length_cons] at this
      omega
    have hd' : l.drop (a + 1) = r := by
      have := congrArg List.tail hd
      simpa using this
    have hget : l[a]? = some d := by
      have := congrArg (fun z => z[0]?) hd
      simpa using this
    by_cases h : d = c
    · subst h
      unfold ats spl
      rw [if_pos rfl, if_pos rfl]
      show Builtin.Str.strSub (S l) b a :: StrLaws.partsFrom (S l) 1 (a + 1) (ats d (a + 1) r) = S _ :: (spl d r).map S
      rw [strSub_S, List.append_nil, parts_spl l d r (a + 1) (a + 1) (Nat.le_refl _) hd' (by simp)]
      obtain ⟨p, ps, e⟩ := spl_ne d r
      rw [e]
      simp
    · have e1 : (l.drop b).take (a + 1 - b) = (l.drop b).take (a - b) ++ [d] := by
        have e0 : a + 1 - b = (a - b) + 1 := by omega
        rw [e0, List.take_add_one, List.getElem?_drop]
        have e2 : b + (a - b) = a := by omega
        rw [e2, hget]
        rfl
      have ih := parts_spl l c r (a + 1) b (by omega) hd' (by
        rw [e1]
        intro z hz
        rcases List.mem_append.mp hz with q | q
        · exact hn z q
        · rw [List.mem_singleton.mp q]; exact h)
      unfold ats spl
      rw [if_neg h, if_neg h, ih]
      obtain ⟨p, ps, e⟩ := spl_ne c r
      rw [e, e1]
      simp
theorem split_S (l : List Nat) (c lim : Nat) (h : l.length < lim) : Builtin.Str.partsBetween (S l) (Builtin.Str.occurrences (S l) (S [c]) 0 (S l).length lim) 1 = (spl c l).map S := by
  rw [StrLaws.partsBetween_eq, occ_all l c lim h, parts_spl l c l 0 0 (Nat.le_refl _) rfl (by simp)]
  obtain ⟨p, ps, e⟩ := spl_ne c l
  rw [e]
  simp
/-- sign c replaced by nothing -/
theorem ats_none (c : Nat) : ∀ (l : List Nat) (a : Nat), ats c a l = [] → l.filter (fun d => decide (d ≠ c)) = l
  | [], _, _ => rfl
  | d :: r, a, h => by
    unfold ats at h
    by_cases e : d = c
    · rw [if_pos e] at h; cases h
    · rw [if_neg e] at h
      rw [List.filter_cons_of_pos (by simpa using e), ats_none c r (a + 1) h]
theorem glued_nil : ∀ (ps : List (List Nat)) (p : List Nat), Builtin.Str.glued (S []) ((p :: ps).map S) = S (p :: ps).flatten := by
  intro ps p
  unfold Builtin.Str.glued
  show (⟨(ps.map S).foldl (fun acc q => acc ++ (S []).cps ++ q.cps) (S p).cps⟩ : Str) = _
  rw [glue_S]
  simp [S]
theorem replace_S (l : List Nat) (c : Nat) : Txt.replace (S l) (S [c]) (S []) = S (l.filter fun d => decide (d ≠ c)) := by
  unfold Txt.replace
  have e0 : (S l).length + 1 = l.length + 1 := by rw [S_len]
  have e1 : (S [c]).length = 1 := by rw [S_len]; rfl
  have hp := split_S l c (l.length + 1) (Nat.lt_succ_self _)
  have ho := occ_all l c (l.length + 1) (Nat.lt_succ_self _)
  rw [e0, e1, hp, ho]
  split
  · rename_i h
    have h' : (ats c 0 l).isEmpty = true := by simpa using h
    rw [ats_none c l 0 (List.isEmpty_iff.mp h')]
  · obtain ⟨p, ps, e⟩ := spl_ne c l
    rw [e, glued_nil, ← e, spl_flat]
end L2
/-! ### old tokens: text.replace(sign, '') -/
namespace L2
open PySem PySem.Spec PyProof.Rows
/-- the plain local name x holds a text with an old token -/
def TokIn (X : Cx) (x : Str) (s : Shared) : Prop := ∃ m z t, s.heap.Ns X.env.locals m ∧ m x = some (.str z t) ∧ t ≠ 0 ∧ t < s.toks
def PET (X : Cx) (x : Str) (e : Expr) (te : TE) : Prop :=
  ∀ (pins : List (Addr × Obj)) (s : Shared) (σ : St) (H : Hp) (Q : VK), Inv X pins σ H s → TokIn X x s → te σ H Q → wpAny (model X.prog X.w) X.A (eval e X.env) (EP X pins σ Q) X.xe s
theorem ns_same {h : Heap} {a : Addr} {m m' : Str → Option Value} (h1 : h.Ns a m) (h2 : h.Ns a m') (x : Str) : m x = m' x := by
  obtain ⟨o, es, ep, e1, d1, _, f1⟩ := h1
  obtain ⟨o', es', ep', e2, d2, _, f2⟩ := h2
  rw [e1] at e2; cases e2
  rw [d1] at d2; cases d2
  exact (f1 x).symm.trans (f2 x)
section
variable {X : Cx}
theorem name0 {pins : List (Addr × Obj)} {s : Shared} {σ : St} {H : Hp} {i : Nat} {x : Str} {pos : Pos} {v : V} (I : Inv X pins σ H s) (hN : X.N[i]? = some x) (hv : Vis X.env.scope x) (e : σ[i]? = some (some v))
    (hd : (x == ("__debug__" : Str)) = false := by decide) (hcd : (x == ("__classdict__" : Str)) = false := by decide) :
    wpAny (model X.prog X.w) X.A (eval (.Name x pos) X.env) (fun u s' => s' = s ∧ RelV v u ∧ (X.env.kindOf x = some .local → ∀ m, s.heap.Ns X.env.locals m → m x = some u)) X.xe s := by
  obtain ⟨m, hn, hl⟩ := I.loc
  obtain ⟨u, r, l⟩ := hl i x v hN e hv
  rcases l with ⟨hk, hm⟩ | ⟨hk, c, hc, hcell⟩
  · exact wpAny_Name (wpAny_loadName_local I.ok.kind hk hn hm ⟨rfl, r, fun _ m' hn' => (ns_same hn' hn x).trans hm⟩) hd
  · rcases hk with hk | hk
    · exact wpAny_Name (wpAny_loadName_cell I.ok.kind hk hc hcell ⟨rfl, r, fun z => by rw [hk] at z; cases z⟩) hd
    · exact wpAny_Name (wpAny_loadName_free I.ok.kind hk hc hcell ⟨rfl, r, fun z => by rw [hk] at z; cases z⟩ hcd) hd
/-- a call leaves the frame's own names as they were -/
theorem CE.tok {pins : List (Addr × Obj)} {s s' : Shared} {σ : St} {H : Hp} {x : Str} {Q : VK} {u : Value} (I : Inv X pins σ H s) (T : TokIn X x s) (h : CE X.stack X.prog X.w H s Q u s') (hle : s.toks ≤ s'.toks) : TokIn X x s' := by
  obtain ⟨v, H', _, _, un, _⟩ := h
  obtain ⟨m, z, t, ⟨o, es, ep, e, r⟩, hm, h0, hl⟩ := T
  obtain ⟨sl, e'⟩ := un.any e I.free (by simp)
  exact ⟨m, z, t, ⟨_, es, ep, e', r⟩, hm, h0, Nat.lt_of_lt_of_le hl hle⟩
/-- f(e), f a def, e a name -/
theorem call1T {CX : CXT} {k : Nat} {f : Addr} {fd : FuncData} {ps : List Str} {sp : Sp} {E : XK} {fx y x : Str} {p pos yp : Pos} {i : Nat} {v : V} {pins : List (Addr × Obj)} {s : Shared} {σ : St} {H : Hp} {Q : VK}
    (F : FnOk X.prog X.w X.K X.mg X.base CX k f fd ps sp) (hr : Room k X.A) (hg : Gl X fx) (hm : X.mg fx = some (.ref f)) (hk : PySem.W.keepIn X.K (.ref f) = true) (hb : Binds X.K fd ps []) (hx : Passes CX X E)
    (hN : X.N[i]? = some y) (hv : Vis X.env.scope y) (hdy : (y == ("__debug__" : Str)) = false) (hcy : (y == ("__classdict__" : Str)) = false) (hdb : (fx == ("__debug__" : Str)) = false)
    (I : Inv X pins σ H s) (T : TokIn X x s) (e : σ[i]? = some (some v)) (h : sp [v] H Q E) :
    wpAny (model X.prog X.w) X.A (eval (.Call (.Name fx p) [.Name y yp] [] pos) X.env) (fun u s' => EP X pins σ Q u s' ∧ TokIn X x s') X.xe s := by
  refine wpAny_Call_Name_kw (ld_glob I hg hm ?_ hdb)
  refine PySem.W.callWith_K (h₀ := X.base) I.ok.mod.kin hk (Q := fun u s' => EP X pins σ Q u s' ∧ TokIn X x s') (Calls.spliced_cons (thn (name0 I hN hv e hdy hcy) fun u s1 ⟨e1, r1, _⟩ => Calls.spliced_nil ?_)) rfl rfl
  subst e1
  refine ⟨I.kIn, ?_⟩
  have hl : ([u] : List Value).length = ps.length := by have := F.len _ _ _ _ h; simpa using this
  have hb' := hb s1 [u] I.kIn (by simpa using hl)
  rw [List.append_nil] at hb'
  refine wpAny_call (codeAny_mono (codeAny_toks_of (Nat.le_refl _) (F.run X.A X.stack s1 H ⟨[u], []⟩ [u] [v] Q E hr I.env0 hb' (.cons r1 .nil) h)) fun r s' ⟨hle, hq⟩ => ?_)
  cases r with
  | error e => exact hx pins σ H s1 e s' I hq
  | ok fl =>
    cases fl with
    | ret u => exact ⟨I.after hq, CE.tok I T hq hle⟩
    | next => exact False.elim hq
    | brk => exact False.elim hq
    | cont => exact False.elim hq

/-- g(y).replace(x, '') -/
def tRepl (sp : Sp) (E : XK) (i j : Nat) : TE := fun σ H Q => ∃ v c, σ[i]? = some (some v) ∧ σ[j]? = some (some (.str (S [c]))) ∧ sp [v] H (fun x H1 => ∃ l, x = .str (S l) ∧ l.length ≤ 1000 ∧ Q (.str (S (l.filter fun d => decide (d ≠ c)))) H1) E
theorem pet_repl {CX : CXT} {k : Nat} {f : Addr} {fd : FuncData} {ps : List Str} {sp : Sp} {E : XK} {fx y x : Str} {p pos yp xp sq apos cpos : Pos} {kk : Nat} {i j : Nat}
    (F : FnOk X.prog X.w X.K X.mg X.base CX k f fd ps sp) (hr : Room k X.A) (hg : Gl X fx) (hm : X.mg fx = some (.ref f)) (hk : PySem.W.keepIn X.K (.ref f) = true) (hb : Binds X.K fd ps []) (hx : Passes CX X E)
    (hN : X.N[i]? = some y) (hv : Vis X.env.scope y) (hNx : X.N[j]? = some x) (hvx : X.env.kindOf x = some .local)
    (hdy : (y == ("__debug__" : Str)) = false := by decide) (hcy : (y == ("__classdict__" : Str)) = false := by decide) (hdx : (x == ("__debug__" : Str)) = false := by decide) (hcx : (x == ("__classdict__" : Str)) = false := by decide) (hdb : (fx == ("__debug__" : Str)) = false := by decide)
    (hline : (apos.endLine == cpos.line) = true := by rfl) :
    PET X x (.Call (.Attribute (.Call (.Name fx p) [.Name y yp] [] pos) "replace" apos) [.Name x xp, .Constant (.str "") kk sq] [] cpos) (tRepl sp E i j) := by
  intro pins s σ H Q I T h
  obtain ⟨v, c, e1, e2, h⟩ := h
  refine wpAny_Call_method_late rfl rfl hline rfl (thn (call1T F hr hg hm hk hb hx hN hv hdy hcy hdb I T e1 h) fun u s1 ⟨⟨w', H1, I1, r1, l, hw, hz, q⟩, T1⟩ => ?_)
  subst hw
  obtain ⟨tu, rfl⟩ := r1
  have hty := tyV_is (T := "str") (x := .str (S l)) I1 ⟨tu, rfl⟩ (by first | rfl | trivial | exact ⟨_, rfl⟩)
  refine ⟨"str", "str.replace", PySem.F.plainAttrs_str, PySem.F.slot_str_replace, PySem.F.type_str_replace, hty.1, hty.2, ?_⟩
  refine Calls.callWith_builtin rfl (Calls.evalArgs_plain ?_)
  refine Calls.spliced_cons (thn (name0 I1 hNx (.inl hvx) e2 hdx hcx) fun ux s2 ⟨es, rx, mx⟩ => ?_)
  subst es
  obtain ⟨m, z, t, hn, hmx, h0, hlt⟩ := T1
  have ex : some ux = some (Value.str z t) := (mx hvx m hn).symm.trans hmx
  cases ex
  obtain ⟨t', et⟩ := rx
  cases et
  refine Calls.spliced_cons (Calls.Constant_str (k := kk) (pos := sq) (Calls.spliced_nil ?_))
  have eS : (("" : String) : Str) = S [] := by decide +kernel
  rw [eS]
  refine SC.replace (x := S l) (y := S [c]) (z := S []) h0 (Nat.ne_of_gt (Nat.lt_of_le_of_lt (Nat.zero_le _) hlt)) (Nat.ne_of_lt hlt) (by rfl) (by rw [S_len, S_len]; simp; omega) fun t' kx => ?_
  rw [replace_S]
  exact ⟨.str (S (l.filter fun d => decide (d ≠ c))), H1, (I1.tok _).tok _, ⟨_, rfl⟩, q⟩
/-- x = f(y, e) with such an e -/
def tCall2T (sp : Sp) (E : XK) (i : Nat) (te : TE) : TE := fun σ H Q => ∃ v, σ[i]? = some (some v) ∧ te σ H fun u H1 => sp [v, u] H1 Q E
theorem pet_call2 {CX : CXT} {k : Nat} {f : Addr} {fd : FuncData} {ps : List Str} {sp : Sp} {E : XK} {fx y x : Str} {p pos yp : Pos} {i : Nat} {e : Expr} {te : TE}
    (F : FnOk X.prog X.w X.K X.mg X.base CX k f fd ps sp) (hr : Room k X.A) (hg : Gl X fx) (hm : X.mg fx = some (.ref f)) (hk : PySem.W.keepIn X.K (.ref f) = true) (hb : Binds X.K fd ps []) (hx : Passes CX X E)
    (hN : X.N[i]? = some y) (hv : Vis X.env.scope y) (he : PET X x e te) (hs : starEach [e] X.env = [(false, eval e X.env)] := by rfl)
    (hdy : (y == ("__debug__" : Str)) = false := by decide) (hcy : (y == ("__classdict__" : Str)) = false := by decide) (hdb : (fx == ("__debug__" : Str)) = false := by decide) :
    PET X x (.Call (.Name fx p) [.Name y yp, e] [] pos) (tCall2T sp E i te) := by
  intro pins s σ H Q I T h
  obtain ⟨v, e1, h⟩ := h
  refine wpAny_Call_Name_kw (ld_glob I hg hm ?_ hdb)
  have hse : starEach [.Name y yp, e] X.env = (false, eval (.Name y yp) X.env) :: starEach [e] X.env := rfl
  refine PySem.W.callWith_K (h₀ := X.base) I.ok.mod.kin hk ?_ hse (by rw [hs]; rfl)
  rw [hse, hs]
  refine Calls.spliced_cons (thn (name0 I hN hv e1 hdy hcy) fun u s1 ⟨es, r1, _⟩ => ?_)
  subst es
  refine Calls.spliced_cons (thn (he pins s1 σ H _ I T h) fun u2 s2 ⟨v2, H2, I2, r2, q2⟩ => Calls.spliced_nil ⟨I2.kIn, ?_⟩)
  exact run_fn (ds := []) (dvs := []) F hr hb .nil hx I2 (.cons r1 (.cons r2 .nil)) q2
def PSsT (X : Cx) (x : Str) (st : List Stmt) (t : TS) : Prop :=
  ∀ (pins : List (Addr × Obj)) (s : Shared) (σ : St) (H : Hp) (D : Ends), Inv X pins σ H s → TokIn X x s → t D σ H → wpAny (model X.prog X.w) X.A (execs st X.env) (SP X pins D) X.xe s
/-- x = e, and the rest -/
theorem pss_setT {i : Nat} {x y : Str} {e : Expr} {te : TE} {pos pos' : Pos} {rest : List Stmt} {u : TS} (hN : X.N.Nodup) (hi : X.N[i]? = some y) (hy : Loc X.env.scope y) (he : PET X x e te) (hrest : PSs X rest u)
    (hs : swapsWith e (some (.Name y pos')) pos.line X.env = pure false := by rfl) (hf : X.fn y = true ∨ X.env.scope.names.lookup y = some .local := by first | exact .inl rfl | exact .inr rfl | assumption) :
    PSsT X x (.Assign [.Name y pos'] e pos :: rest) (tSeq (tAsg te (gName i)) u) := by
  intro pins s σ H D I T h
  refine wpAny_execs_cons (wpAny_Assign_Name (thn (he pins s σ H _ I T h) fun v s1 ⟨w', H1, I1, r1, q1⟩ => ?_) hs)
  exact store_ok I1 hN hi hy r1 (fun s2 I2 => hrest pins s2 _ H1 D I2 q1) hf
end
end L2
/-! ### a comprehension over a text whose signs' tokens are known to be old -/
namespace L2
open PySem PySem.Spec PyProof.Rows
theorem thnT {α : Type} {t : Sem α} {Q Q' : α → Shared → Prop} {M : Model} {A : Around} {E : Value → Shared → Prop} {s : Shared} (h : wpAny M A t Q E s) (hQ : ∀ a s', s.toks ≤ s'.toks ∧ Q a s' → Q' a s') : wpAny M A t Q' E s := wpAny_mono (wpAny_toks h) hQ fun _ _ x => x.2
structure TurnT (P : Program) (w : World) (K : PySem.W.Frag) (tg : Expr) (J : It) (fp : List Addr) (it : Addr) (tn : Nat → Heap → Prop) : Prop extends Turn P w K tg J fp it tn where
  itemT : ∀ (X : Cx), X.prog = P → X.w = w → X.K = K → X.calm = true → ∀ (i : Nat) (pins : List (Addr × Obj)) (s : Shared) (σ : St) (H : Hp) (E : Value → Shared → Prop), Inv X pins σ H s → (∀ b ∈ fp, FpOk X pins H b) → tn i s.heap → J.go i H →
    wpAny (model P w) X.A (pyNext (.ref it)) (fun r s1 => ∃ u, r = some u ∧ (∃ z, u = .str z s.toks) ∧ s1.toks = s.toks + 1 ∧
      wpAny (model P w) X.A (letOwnedTupleGo tg (.ref it) u) (fun _ s2 => ∃ x H', Inv X pins σ H' s2 ∧ RelV x u ∧ J.yld i H x H' ∧ tn (i + 1) s2.heap ∧ ∀ b ∈ fp, H' b = none) E s1) E s
theorem turn_strT {P : Program} {w : World} {K : PySem.W.Frag} {tg : Expr} (it : Addr) (l : List Nat) (t : Tok) : TurnT P w K tg (Itx (sgs l)) [it] it (fun i h => h.IsStrIter it (strIterType (S l)) (S l) t i) where
  toTurn := turn_str it l t
  itemT := by
    intro X hP hw hK hc i pins s σ H E I hf st hg
    have base := (turn_str (P := P) (w := w) (K := K) (tg := tg) it l t).item X hP hw hK hc i pins s σ H E I hf st hg
    have hg' : i < l.length := by have : i < (sgs l).length := hg; rwa [sgs_len] at this
    have hx : (S l).cps[i]? = some l[i] := by simp [S, hg']
    have raw : wpAny (model P w) X.A (pyNext (.ref it)) (fun r s1 => (∃ z, r = some (.str z s.toks)) ∧ s1.toks = s.toks + 1) E s := by
      by_cases ha : (S l).cps.all (· < 128) = true
      · have et : strIterType (S l) = "str_ascii_iterator" := by unfold strIterType; rw [if_pos ha]
        rw [et] at st
        exact wpAny_pyNext_ascii_item st hx fun h' _ _ => ⟨⟨_, rfl⟩, rfl⟩
      · have et : strIterType (S l) = "str_iterator" := by unfold strIterType; rw [if_neg ha]
        rw [et] at st
        exact wpAny_pyNext_wide_item st hx fun h' _ _ => ⟨⟨_, rfl⟩, rfl⟩
    refine wpAny_mono (wpAny_and base raw) (fun r s1 ⟨⟨u, hr, h1⟩, ⟨z, hz⟩, hk⟩ => ?_) fun _ _ z => z.1
    subst hr
    exact ⟨u, rfl, ⟨z, Option.some.inj hz⟩, hk, h1⟩
/-- an iterator has come, at a state with tokens -/
def PIET (X : Cx) (pins : List (Addr × Obj)) (σ : St) (tg : Expr) (R : It → Hp → Prop) (itv : Value) (s2 : Shared) : Prop :=
  ∃ (it : Addr) (fp : List Addr) (tn : Nat → Heap → Prop) (J : It) (H' : Hp), itv = .ref it ∧ Inv X pins σ H' s2 ∧ TurnT X.prog X.w X.K tg J fp it tn ∧ tn 0 s2.heap ∧ (∀ b ∈ fp, FpOk X pins H' b) ∧ R J H' ∧ 0 < s2.toks
def PIT (X : Cx) (tg iter : Expr) (wi : TI) : Prop :=
  ∀ (pins : List (Addr × Obj)) (s : Shared) (σ : St) (H : Hp) (R : It → Hp → Prop), Inv X pins σ H s → wi σ H R →
    wpAny (model X.prog X.w) X.A (eval iter X.env) (fun v s1 => wpAny (model X.prog X.w) X.A (pyIter v) (PIET X pins σ tg R) X.xe s1) X.xe s
theorem comp_coreT {X : Cx} {iter elt : Expr} {xb : Str} {bp : Pos} {j : Nat} {scope : Scope} {pos : Pos} {wi : TI} {te : TE} {Nc : List Str} {ix : List (Option Nat)} (hi : PIT X (.Name xb bp) iter wi) (hcalm : X.calm = true) (hix : IxOk X scope Nc ix)
    (hcell : ∀ y ∈ scope.names, y.2 ≠ .cell) (hkind : scope.kind = .function) (hfr : ∀ y ∈ scope.names, y.2 = .free → X.env.kindOf y.1 = some .cell ∨ X.env.kindOf y.1 = some .free)
    (hnd : Nc.Nodup) (hjx : Nc[j]? = some xb) (hlx : ∀ C s H fp, (cxComp X scope C Nc s H fp).env.kindOf xb = some .local) (hE : ∀ C s H fp, PET (cxComp X scope C Nc s H fp) xb elt te)
    {pins : List (Addr × Obj)} {s : Shared} {σ : St} {H : Hp} {Q : VK} (I : Inv X pins σ H s) (h : tComp wi ix (gName j) tYes te σ H Q) {RR : Value → Addr → Result → Shared → Prop}
    (hRR : ∀ (D C : Addr) (oC : Obj) (m : Str → Option Value) (H' : Hp) (s' : Shared), s'.heap.get? C = some oC → s'.heap.Ns C m → FpOk X pins H' C → Inv X (pins ++ [(C, oC)]) σ H' s' → Q (.ref D) H' → RR (.ref D) C (.ok .next) s') :
    wpAny (model X.prog X.w) X.A (eval iter X.env) (fun v s1 => wpAny (model X.prog X.w) X.A (pyIter v) (fun it s2 => wpAny (model X.prog X.w) X.A (newList []) (fun acc s3 =>
      wpAny (model X.prog X.w) X.A (newFunctionEnv scope X.env.globals (clOf X.env scope.names []) [] X.env.qual none .none (some X.env)) (fun cenv s4 =>
        codeAny (model X.prog X.w) X.A (.compStart (.ListComp elt [⟨.Name xb bp, iter, [], 0⟩] scope pos) 0 it acc { cenv with scope := relabel scope X.env }) (RR acc cenv.locals) s4) X.xe s3) X.xe s2) X.xe s1) X.xe s := by
  refine thn (hi pins s σ H _ I h) fun v s1 h1 => thn h1 fun itv s2 h2 => ?_
  obtain ⟨it, fp, tn, J, H2, e, I2, TT, st2, f2, ⟨W, ⟨m0, w0⟩, turn⟩, hpos⟩ := h2
  have T := TT.toTurn
  subst e
  refine wpAny_newObj_type (wpAny_newFunctionEnv hcell (by intro y hy; simp at hy) (fun h₁ hns₁ hsb₁ => ?_) hkind)
  dsimp only at hns₁ hsb₁ ⊢
  generalize hH2 : s2.heap.push { cls := .type "list", dict := none, data := .seq ([] : List Value).toArray } = P2 at hns₁ hsb₁ ⊢
  have hC : P2.objs.size = s2.heap.objs.size + 1 := by rw [← hH2, Heap.size_push]
  have hDC : s2.heap.objs.size ≠ P2.objs.size := by rw [hC]; exact Nat.ne_of_lt (Nat.lt_succ_self _)
  have hCle : s2.heap.objs.size ≤ P2.objs.size := by rw [hC]; exact Nat.le_succ _
  have neC : ∀ b, b < s2.heap.objs.size → b ≠ P2.objs.size := fun b hb => by rw [hC]; exact Nat.ne_of_lt (Nat.lt_succ_of_lt hb)
  have old : ∀ b o, s2.heap.get? b = some o → h₁.get? b = some o := fun b o e => hsb₁.extBut b o (neC b (Heap.lt_size e)) (Heap.get?_push_of_some _ (hH2 ▸ Heap.get?_push_of_some _ e))
  have hacc : h₁.get? s2.heap.objs.size = some { cls := .type "list", data := .seq ([] : List Value).toArray } := hsb₁.extBut _ _ hDC (Heap.get?_push_of_some _ (hH2 ▸ Heap.get?_push_size _ rfl))
  have st₁ : tn 0 h₁ := T.keep 0 _ _ st2 fun b _ o e => old b o e
  have hfo : ∀ b ∈ fp, ∃ o, s2.heap.get? b = some o := fun b hb => let ⟨o, e, _⟩ := T.obj 0 _ st2 b hb; ⟨o, e⟩
  have fpD : ∀ b ∈ fp, s2.heap.objs.size ≠ b := fun b hb => let ⟨o, e⟩ := hfo b hb; Nat.ne_of_gt (Heap.lt_size e)
  have IY := comp_start I2 hix hcell hkind hfr f2 hfo (t' := s2.toks + ([] : List (Str × Value)).length) hCle hns₁ old
  have notS : ∀ b, s2.heap.objs.size ≤ b → b ∉ frs X.stack := fun b hb hs => by
    rcases List.mem_cons.mp (I2.stkSub b hs) with z | z
    · exact absurd (Nat.lt_of_lt_of_le I2.lt hb) (by rw [z]; exact Nat.lt_irrefl _)
    · exact I2.nofs hb z
  have from_ : ∀ {x : Str} {c : Addr}, (clOf X.env scope.names []).lookup x = some c → X.env.cells.lookup x = some c := fun {x c} e => clOf_from scope.names [] (fun y d q => by simp at q) e
  have cellD : ∀ x c, (clOf X.env scope.names []).lookup x = some c → c ≠ s2.heap.objs.size := fun x c e z => by
    obtain ⟨v, q⟩ := I2.cell x c (from_ e)
    exact absurd (q.lt) (by rw [z]; exact Nat.lt_irrefl _)
  have fY : ∀ {pl : List (Addr × Obj)} {H' : Hp}, (∀ p ∈ pl, p.1 = s2.heap.objs.size) → (∀ b ∈ fp, H' b = none) → ∀ b ∈ fp, FpOk (cxComp X scope P2.objs.size Nc s2 H2 fp) pl H' b := fun {pl H'} hpl hn b hb => by
    refine ⟨hn b hb, ?_, ?_, .inl hb, fun x c e => (f2 b hb).2.2.2.2.1 x c (from_ e), fun p hp => ?_⟩
    · obtain ⟨o, e⟩ := hfo b hb
      exact neC b (Heap.lt_size e)
    · intro hs
      rcases List.mem_cons.mp (I2.stkSub b hs) with z | z
      · exact (f2 b hb).2.1 z
      · exact (f2 b hb).2.2.1 z
    · rw [hpl p hp]
      exact fpD b hb
  have loop : ∀ s₃ : Shared, s₃ = { s2 with heap := h₁, toks := s2.toks + ([] : List (Str × Value)).length } →
      codeAny (model X.prog X.w) X.A (.compLoop (.ListComp elt [⟨.Name xb bp, iter, [], 0⟩] scope pos) 0 (.ref it) (.ref s2.heap.objs.size) (compEnvC scope (clOf X.env scope.names []) P2.objs.size X.env)) (RR (.ref s2.heap.objs.size) P2.objs.size) s₃ := by
    rintro s₃ rfl
    refine compLoop_gen (fun n s' => ∃ i acc its nn H', Inv (cxComp X scope P2.objs.size Nc s2 H2 fp) [] (subSt σ ix) H' s' ∧ tn i s'.heap ∧ (∀ b ∈ fp, H' b = none) ∧
      s'.heap.get? s2.heap.objs.size = some { cls := .type "list", data := .seq (its : List Value).toArray nn } ∧ Vals acc its ∧ H' s2.heap.objs.size = none ∧ W i n acc H' ∧ 0 < s'.toks) ?_ m0
      ⟨0, [], [], 0, H2, IY, st₁, fun b hb => (f2 b hb).1, hacc, .nil, I2.hok.fresh (Nat.le_refl _), w0, hpos⟩
    rintro n s3 ⟨i, acc, its, nn, H3, I3, st3, fr3, eD, rv, nD, w3, p3⟩
    obtain ⟨hz, alt⟩ := turn i n acc H3 w3
    have IP : Inv (cxComp X scope P2.objs.size Nc s2 H2 fp) [(s2.heap.objs.size, { cls := .type "list", data := .seq its.toArray nn })] (subSt σ ix) H3 s3 := I3.pins_of fun p hp => by
      have e : p = (s2.heap.objs.size, _) := List.mem_singleton.mp hp
      subst e
      refine ⟨eD, nD, hDC, notS _ (Nat.le_refl _), fun v z => ?_⟩
      have z' : Data.seq its.toArray nn = Data.cell v := z
      cases z'
    have hpl : ∀ p ∈ [(s2.heap.objs.size, ({ cls := .type "list", data := .seq its.toArray nn } : Obj))], p.1 = s2.heap.objs.size := fun p hp => by
      have e : p = (s2.heap.objs.size, _) := List.mem_singleton.mp hp
      rw [e]
    rcases alt with ⟨stop, fin⟩ | ⟨go, step⟩
    · refine thn (T.done (cxComp X scope P2.objs.size Nc s2 H2 fp) rfl rfl rfl hcalm i _ s3 _ H3 noE IP (fY hpl fr3) st3 stop) fun r s4 ⟨hr, I4⟩ => ?_
      subst hr
      obtain ⟨m, hn, _⟩ := id I4.loc
      obtain ⟨oC, es, ep, eC, dC, _⟩ := id hn
      have eD4 := (I4.pin (s2.heap.objs.size, _) (List.mem_append_right _ (List.mem_singleton.mpr rfl))).1
      have fin' := fin _ nD
      refine hRR _ _ oC m _ s4 eC hn ?_ (comp_exit I2 I4 f2 (Nat.le_refl _) hCle hDC eD4 rv (Nat.le_of_lt hz) nD eC fun v z => ?_) fin'
      · refine I2.fpOk hCle ?_
        rw [upd_ne (Ne.symm hDC)]
        exact I4.free
      · rw [dC] at z; cases z
    · refine thn (TT.itemT (cxComp X scope P2.objs.size Nc s2 H2 fp) rfl rfl rfl hcalm i _ s3 _ H3 noE IP (fY hpl fr3) st3 go) fun r s4 ⟨u, hr, ⟨z4, hz4⟩, k4, h4⟩ => ?_
      subst hr
      refine thnT h4 fun _ s5 ⟨k5, x, H5, I5, r5, y5, st5, fr5⟩ => ?_
      have I5' := I5.pinned (fY hpl fr5) (T.obj _ _ st5)
      have wk := (step x H5 y5).1
      have q6 : te _ H5 _ := (step x H5 y5).2
      obtain ⟨mm, hnn, _⟩ := id I5'.loc
      have hcls : ((cxComp X scope P2.objs.size Nc s2 H2 fp).env.scope.kind == .class || ((cxComp X scope P2.objs.size Nc s2 H2 fp).env.scope.kind == .module && (cxComp X scope P2.objs.size Nc s2 H2 fp).env.locals != (cxComp X scope P2.objs.size Nc s2 H2 fp).env.globals)) = false := by rw [I5'.ok.kind]; rfl
      refine wpAny_mono (wpAny_assign_Name (wpAny_and (Q := fun _ s' => Inv (cxComp X scope P2.objs.size Nc s2 H2 fp) _ ((subSt σ ix).set j (some x)) H5 s') (Q' := fun _ s' => (∃ m, s'.heap.Ns P2.objs.size m ∧ m xb = some u) ∧ s'.toks = s5.toks + 1)
        (store_ok (E := noE) I5' hnd hjx (.inl (hlx P2.objs.size s2 H2 fp)) r5 (fun s' I' => I') (.inr (hlx P2.objs.size s2 H2 fp)))
        (wpAny_storeName_local (E := noE) (hlx P2.objs.size s2 H2 fp) hnn (fun h' hn' hs => ⟨⟨_, hn', by rw [if_pos rfl]⟩, rfl⟩) hcls))) (fun _ s6 ⟨I6, ⟨m6, n6, e6⟩, k6⟩ => ?_) fun _ _ z => z.1.elim
      generalize hσ6 : (subSt σ ix).set j (some x) = σ6 at I6 q6 wk
      have tok6 : TokIn (cxComp X scope P2.objs.size Nc s2 H2 fp) xb s6 := by
        subst hz4
        refine ⟨m6, z4, s3.toks, n6, e6, Nat.ne_of_gt p3, ?_⟩
        rw [k6]
        exact Nat.lt_succ_of_lt (Nat.lt_of_lt_of_le (by rw [k4]; exact Nat.lt_succ_self _) k5)
      refine wpAny_tests_nil ?_
      have again : ∀ {H9 : Hp} {s9 : Shared} {m' : Nat}, Inv (cxComp X scope P2.objs.size Nc s2 H2 fp) ([(s2.heap.objs.size, ({ cls := .type "list", data := .seq its.toArray nn } : Obj))] ++ pinsAt fp s5.heap) σ6 H9 s9 →
          (s9.heap.get? s2.heap.objs.size = some { cls := .type "list", data := .seq its.toArray nn } ∧ H9 s2.heap.objs.size = none) ∧ tn (i + 1) s9.heap ∧ (∀ b ∈ fp, H9 b = none) ∧ Inv (cxComp X scope P2.objs.size Nc s2 H2 fp) [] (subSt σ ix) H9 s9 := fun {H9 s9 m'} I9 => by
        have pD := I9.pin (s2.heap.objs.size, _) (List.mem_append_right _ (List.mem_append_left _ (List.mem_singleton.mpr rfl)))
        refine ⟨⟨pD.1, pD.2.1⟩, T.keep _ _ _ st5 fun b hb o e => (I9.pin (b, o) (List.mem_append_right _ (List.mem_append_right _ (mem_pinsAt hb e)))).1, fun b hb => ?_, ?_⟩
        · obtain ⟨o, e, d⟩ := T.obj _ _ st5 b hb
          exact (I9.pin (b, o) (List.mem_append_right _ (List.mem_append_right _ (mem_pinsAt hb e)))).2.1
        · exact (I9.weak wk.len fun i v e => wk.get e).pins_of fun p hp => absurd hp (by simp)
      rw [if_pos rfl]
      refine thnT (hE _ s2 H2 fp _ s6 σ6 H5 _ I6 tok6 q6) fun y s8 ⟨k8, v, H8, I8, r8, m', hm, w8⟩ => ?_
      obtain ⟨⟨e8, n8⟩, t8, f8, J8⟩ := again (m' := 0) I8
      refine wpAny_list_append_plain (items := its.toArray) ⟨nn, e8⟩ (fun h9 hl9 hs9 => ?_) (by rw [List.size_toArray, ← rv.length]; exact Nat.le_of_lt hz)
      obtain ⟨n9, e9⟩ := hl9
      refine ⟨m', hm, i + 1, acc ++ [v], its ++ [y], n9, H8, J8.turned (t' := s8.toks) (fun b o hb e => (hs9.2 b hb).trans e) n8 hDC (.inr (Nat.le_refl _)) cellD (fun p hp => absurd hp (by simp [cxComp])), ?_, f8, ?_, rv.append (.cons r8 .nil), n8, w8, ?_⟩
      · exact T.keep _ _ _ t8 fun b hb o e => (hs9.2 b (Ne.symm (fpD b hb))).trans e
      · simpa using e9
      · show 0 < s8.toks
        have : 0 < s6.toks := by rw [k6]; exact Nat.succ_pos _
        exact Nat.lt_of_lt_of_le this k8
  exact codeAny_compStart_list (loop _ rfl) (T.self _ 0 _ _ _ st₁ (loop _ rfl))
end L2
namespace L2
open PySem PySem.Spec PyProof.Rows
section
variable {X : Cx}
/-- [elt for x in iter] of a text, old tokens -/
theorem pe_compT {iter elt : Expr} {xb : Str} {bp : Pos} {j : Nat} {scope : Scope} {pos : Pos} {wi : TI} {te : TE} (Nc : List Str) (ix : List (Option Nat)) (hi : PIT X (.Name xb bp) iter wi) (hix : IxOk X scope Nc ix) (hnd : Nc.Nodup) (hjx : Nc[j]? = some xb)
    (hE : ∀ C s H fp, PET (cxComp X scope C Nc s H fp) xb elt te) (hlx : ∀ C s H fp, (cxComp X scope C Nc s H fp).env.kindOf xb = some .local := by intro _ _ _ _; rfl) (hok : compOk X scope = true := by rfl) (hcalm : X.calm = true := by rfl)
    (hs : ∀ x, foldedSetIterable iter X.env x = pure x := by intro _; rfl) : PE X (.ListComp elt [⟨.Name xb bp, iter, [], 0⟩] scope pos) (tComp wi ix (gName j) tYes te) := by
  obtain ⟨hcell, hkind, hfr, hnames⟩ := compOk_parts hok
  intro pins s σ H Q I h
  rw [eval_ListComp]
  have hfc : ∀ y ∈ scope.names, y.2 = .free → ∃ c, X.env.cells.lookup y.1 = some c := fun y hy e => I.ok.has y.1 (hfr y hy e)
  refine wpAny_comprehension_free (use := none) rfl hs (closureFor_cl hfc) hkind hnames (comp_coreT hi hcalm hix hcell hkind hfr hnd hjx hlx hE I h (RR := fun acc C => compPost (model X.prog X.w) X.A X.xe none (EP X pins σ Q) acc C) ?_)
  intro D C oC m H' s' eC hn fC I' q
  refine ⟨m, hn, fun h' hs' => ⟨.ref D, H', ?_, rfl, q⟩⟩
  exact I'.unpinned.turned (t' := s'.toks) (fun b o hb e => (hs'.2 b hb).trans e) fC.1 fC.2.1 fC.2.2.2.1 fC.2.2.2.2.1 fC.2.2.2.2.2
/-- f(y, x) where x's token is old -/
abbrev preT : List Value → Shared → Prop := fun us s => ∃ z t, us[1]? = some (.str z t) ∧ t ≠ 0 ∧ t < s.toks
theorem pet_callG {k : Nat} {f : Addr} {fd : FuncData} {ps : List Str} {sp : Sp} {E : XK} {fx y x : Str} {p pos yp xp : Pos} {i j : Nat} {post : Shared → Prop}
    (F : FnOkG X.prog X.w X.K X.mg X.base k f fd ps sp preT post) (hr : Room k X.A) (hg : Gl X fx) (hm : X.mg fx = some (.ref f)) (hk : PySem.W.keepIn X.K (.ref f) = true) (hb : Binds X.K fd ps [])
    (hN : X.N[i]? = some y) (hv : Vis X.env.scope y) (hNx : X.N[j]? = some x) (hvx : X.env.kindOf x = some .local)
    (hdy : (y == ("__debug__" : Str)) = false := by decide) (hcy : (y == ("__classdict__" : Str)) = false := by decide) (hdx : (x == ("__debug__" : Str)) = false := by decide) (hcx : (x == ("__classdict__" : Str)) = false := by decide) (hdb : (fx == ("__debug__" : Str)) = false := by decide) :
    PET X x (.Call (.Name fx p) [.Name y yp, .Name x xp] [] pos) (tCall sp [] E (tCons (tVar i) (tCons (tVar j) tNil))) := by
  intro pins s σ H Q I T h
  obtain ⟨v, e1, v2, e2, h⟩ := h
  refine wpAny_Call_Name_kw (ld_glob I hg hm ?_ hdb)
  refine PySem.W.callWith_K (h₀ := X.base) I.ok.mod.kin hk ?_ rfl rfl
  refine Calls.spliced_cons (thn (name0 (pos := yp) I hN hv e1 hdy hcy) fun u s1 ⟨es, r1, _⟩ => ?_)
  subst es
  refine Calls.spliced_cons (thn (name0 (pos := xp) I hNx (.inl hvx) e2 hdx hcx) fun u2 s2 ⟨es, r2, mx⟩ => Calls.spliced_nil ⟨?_, ?_⟩)
  · subst es; exact I.kIn
  subst es
  obtain ⟨m, z, t, hn, hmx, h0, hlt⟩ := T
  have ex : some u2 = some (Value.str z t) := (mx hvx m hn).symm.trans hmx
  cases ex
  have h' : sp [v, v2] H Q E := h
  have hb' := hb s2 [u, .str z t] I.kIn (by have := F.len _ _ _ _ h'; simpa using this)
  rw [List.append_nil] at hb'
  refine wpAny_call (codeAny_mono (F.run X.A X.stack s2 H ⟨[u, .str z t], []⟩ [u, .str z t] [v, v2] Q E hr I.env0 hb' (.cons r1 (.cons r2 .nil)) ⟨z, t, rfl, h0, hlt⟩ h') fun r s' ⟨hq, _⟩ => ?_)
  cases r with
  | error e => exact False.elim hq
  | ok fl =>
    cases fl with
    | ret u => exact I.after hq
    | next => exact False.elim hq
    | brk => exact False.elim hq
    | cont => exact False.elim hq
/-- f(y) as an iterable text, f a def that makes tokens -/
theorem pit_call {k : Nat} {f : Addr} {fd : FuncData} {ps : List Str} {sp : Sp} {E : XK} {fx y : Str} {p pos yp : Pos} {i : Nat} {tg : Expr}
    (F : FnOkG X.prog X.w X.K X.mg X.base k f fd ps sp (fun _ _ => True) (fun s => 0 < s.toks)) (hr : Room k X.A) (hg : Gl X fx) (hm : X.mg fx = some (.ref f)) (hk : PySem.W.keepIn X.K (.ref f) = true) (hb : Binds X.K fd ps [])
    (hN : X.N[i]? = some y) (hv : Vis X.env.scope y) (hdy : (y == ("__debug__" : Str)) = false := by decide) (hcy : (y == ("__classdict__" : Str)) = false := by decide) (hdb : (fx == ("__debug__" : Str)) = false := by decide) :
    PIT X tg (.Call (.Name fx p) [.Name y yp] [] pos) (iStr (tCall sp [] E (tCons (tVar i) tNil))) := by
  intro pins s σ H R I h
  obtain ⟨v, e1, h⟩ := h
  have h' : sp [v] H (fun x H1 => ∃ l, x = .str (S l) ∧ R (Itx (sgs l)) H1) E := h
  refine wpAny_Call_Name_kw (ld_glob I hg hm ?_ hdb)
  refine PySem.W.callWith_K (h₀ := X.base) I.ok.mod.kin hk ?_ rfl rfl
  refine Calls.spliced_cons (thn (name0 (pos := yp) I hN hv e1 hdy hcy) fun u s1 ⟨es, r1, _⟩ => Calls.spliced_nil ⟨?_, ?_⟩)
  · subst es; exact I.kIn
  subst es
  have hb' := hb s1 [u] I.kIn (by have := F.len _ _ _ _ h'; simpa using this)
  rw [List.append_nil] at hb'
  refine wpAny_call (codeAny_mono (F.run X.A X.stack s1 H ⟨[u], []⟩ [u] [v] _ E hr I.env0 hb' (.cons r1 .nil) trivial h') fun r s' ⟨hq, hpos⟩ => ?_)
  cases r with
  | error e => exact False.elim hq
  | ok fl =>
    cases fl with
    | ret u =>
      obtain ⟨x, H1, I1, rx, l, rfl, q⟩ := I.after hq
      obtain ⟨t, rfl⟩ := rx
      refine wpAny_pyIter_strU ?_
      refine ⟨s'.heap.objs.size, [s'.heap.objs.size], _, _, H1, rfl, I1.kept (t' := s'.toks) fun b o e => Heap.get?_push_of_some _ e, turn_strT _ l t, ⟨_, Heap.get?_push_size _ rfl, rfl, rfl⟩, fun b hb => ?_, q, hpos⟩
      have e : b = s'.heap.objs.size := by simpa using hb
      subst e
      exact I1.fpOk (Nat.le_refl _) (I1.hok.fresh (Nat.le_refl _))
    | next => exact False.elim hq
    | brk => exact False.elim hq
    | cont => exact False.elim hq
def PSsP (X : Cx) (st : List Stmt) (t : TS) : Prop :=
  ∀ (pins : List (Addr × Obj)) (s : Shared) (σ : St) (H : Hp) (D : Ends), Inv X pins σ H s → t D σ H → wpAny (model X.prog X.w) X.A (execs st X.env) (fun fl s' => SP X pins D fl s' ∧ 0 < s'.toks) X.xe s
/-- return 'text'.m(e, ..): a token is made -/
theorem posRet {x : Str} (l : List Nat) (hx : x = S l) {kk : Nat} {sq apos cpos pos : Pos} {e : Expr} {es : List Expr} {t : TA} {name : Str} {id : String} {r : V → List V → Hp → VK → Prop} (slot : Slot "str" name id) (hty : typeOf (.builtin id) = pure (.type "method_descriptor")) (hm : MtR X id r)
    (ha : PA X (e :: es) t) (hfew : ((backTo cpos (starEach (e :: es) X.env)).all (fun x => !x.1) && (backToKw cpos (keywordEach [] X.env)).all (fun x => x.1.isSome)
      && decide ((e :: es).length + ([] : List Keyword).length + (if ([] : List Keyword).isEmpty then 0 else 1) < 30)) = true := by rfl)
    (hline : (apos.endLine == cpos.line) = true := by rfl) (hs : starEach (e :: es) X.env = (false, eval e X.env) :: starEach es X.env := by rfl) (hplain : (backTo cpos (starEach es X.env)).any (·.1) = false := by rfl) :
    PSsP X [.Return (some (.Call (.Attribute (.Constant (.str x) kk sq) name apos) (e :: es) [] cpos)) pos] (tRet (tBM X.K "str" r (tC (.str (S l))) t)) := by
  intro pins s σ H D I h
  subst hx
  obtain ⟨ty, q⟩ := h
  refine wpAny_execs_cons (wpAny_Return_some ?_)
  refine wpAny_Call_method_late rfl hfew hline rfl (Calls.Constant_str (k := kk) (pos := sq) ?_)
  have I1 : Inv X pins σ H { s with toks := s.toks + 1 } := I.tok _
  have hty' := tyV_is (T := "str") (x := .str (S l)) (v := .str (S l) s.toks) I1 ⟨_, rfl⟩ ty
  refine ⟨"str", id, PySem.F.plainAttrs_str, slot, hty, hty'.1, hty'.2, ?_⟩
  have hA := ha cpos pins _ σ H _ I1 q
  rw [hs] at hA ⊢
  refine wpAny_mono (wpAny_toks_of (n := 1) (Nat.succ_le_succ (Nat.zero_le _)) (Calls.callWith_builtin (by show (false || (backTo cpos (starEach es X.env)).any (·.1)) = false; rw [hplain] <;> rfl) (Calls.evalArgs_plain
    (thn hA fun us s2 ⟨vs, H2, I2, r2, q2⟩ => hm pins s2 σ H2 (.str (S l)) vs (.str (S l) s.toks) us D.rt I2 ⟨_, rfl⟩ r2 q2)))) (fun u s' ⟨hp, v, H', I', rv, qq⟩ => ?_) fun _ _ z => z.2
  exact ⟨⟨v, σ, H', I', rv, qq⟩, hp⟩
end
end L2
set_option maxHeartbeats 1000000
/-! ### list(reversed(list)) -/
namespace L2.F3
open PySem PySem.Spec PyProof.Rows
theorem slot_lri_hint : Slot "list_reverseiterator" "__length_hint__" "list_reverseiterator.__length_hint__" :=
  .of (owner := "list_reverseiterator") (n := "__length_hint__") (by rw [typeLookup_type, builtinLookup_eq_fast]; kernel_rfl) (by decide +kernel) (by decide +kernel) (by decide +kernel)
    (by first | exact .inl (by decide +kernel) | exact .inr (by decide +kernel)) (by rw [isSubtype_type]; kernel_rfl)
theorem lri_no_len : typeLookup (.type "list_reverseiterator") "__len__" = pure none := by rw [typeLookup_type, builtinLookup_eq_fast]; kernel_rfl
end L2.F3
namespace L2
open PySem PySem.Spec PyProof.Rows
section
variable {prog : Program} {w : World} {A : Around} {E : Value → Shared → Prop} {s : Shared}
theorem ext_lri {R : Result → Shared → Prop} (hh : A.handled = none) (l it S : Addr) (items : Array Value) (res : Value) (c₀ : Nat) (hS : s.heap.get? S = some { cls := .type "list", data := .seq #[] c₀ }) (hit : s.heap.IsRevIter it l ((items.size : Int) - 1)) (hl : s.heap.IsList l items)
    (hlS : l ≠ S) (h0 : 0 < items.size) (hz : items.size ≤ sizeLine)
    (hR : ∀ h' tk acc' c', (∀ b o, b ≠ S → b ≠ it → s.heap.get? b = some o → h'.get? b = some o) → h'.get? S = some { cls := .type "list", dict := none, data := .seq acc' c', slots := #[] } →
      ItemsOf (fun i v => items[items.size - 1 - i]? = some v) acc' items.size → R (.ok (.ret res)) { s with heap := h', toks := tk }) :
    wpAny (model prog w) A.in1 (Builtin.List.listExtendWith (.ref S) (.ref it) res)
      (fun fin s' => match fin with | .done f => R (.ok f) s' | .again c' => c'.quiet = true ∧ codeAny (model prog w) A c' R s') (fun e s' => R (.error e) s') s := by
  have hSI : S ≠ it := fun z => by
    obtain ⟨o, ho, hc, hd⟩ := hit
    rw [← z, hS] at ho
    cases ho
    cases hd
  have hlI : l ≠ it := fun z => by
    obtain ⟨o, ho, hc, hd⟩ := hit
    obtain ⟨ol, hol, hcl, nl, hdl⟩ := hl
    rw [z, ho] at hol
    cases hol
    rw [hd] at hdl
    cases hdl
  have hSf : S ∉ [it, l] := fun hm => by
    rcases List.mem_cons.mp hm with z | z
    · exact hSI z
    · exact hlS (List.mem_singleton.mp z).symm
  have hn := line63
  unfold Builtin.List.listExtendWith
  refine wpAny_bind (wpAny_typeOf hit.typeIs ?_)
  have h1 : Builtin.List.listSameRef (.ref S) (.ref it) = false := by simp [Builtin.List.listSameRef, hSI]
  rw [if_neg (by rw [h1]; decide)]
  refine wpAny_bind (wpAny_pyIter_revIter hit ?_)
  refine wpAny_bind (wpAny_holding ?_)
  unfold Builtin.List.listLengthHint
  refine wpAny_bind (wpAny_specialOf hit.typeIs F3.lri_no_len ?_)
  show wpAny _ A.in1 (specialOf (Value.ref it) (Str.ofString "__length_hint__") >>= _) _ _ _
  refine wpAny_bind (wpAny_specialOf hit.typeIs F3.slot_lri_hint.lookup ?_)
  (generalize hid : ("list_reverseiterator.__length_hint__" : String) = id0; (fail_if_success (clear hid id0)); wp_delta; rw [show splitId id0 = some ("list_reverseiterator", "__length_hint__") from by subst hid; decide +kernel]; subst hid)
  refine wpAny_bind (wpAny_isInstance (b := true) hit.typeIs (by rw [isSubtype_type]; kernel_rfl) ?_)
  rw [if_neg (by decide)]
  try dsimp only
  rw [if_pos (by first | rfl | decide +kernel)]
  try dsimp only
  rw [if_neg (by first | decide +kernel | simp)]
  refine wpAny_pure ?_
  rw [if_neg (by first | decide +kernel | simp)]
  have hit2 : s.heap.IsRevIter it l ((items.size : Int) - 1 - ((0 : Nat) : Int)) := by
    rw [show (items.size : Int) - 1 - ((0 : Nat) : Int) = (items.size : Int) - 1 by omega]
    exact hit
  refine wpAny_pure ⟨plainId_quiet PySem.F.plain_extend_loop _, codeAny_extend_loopS (Walks.listRev (A := A.in1) hh it l hlI items).toS hz _ hSf _ items.size 0 _ _ _ rfl (Nat.zero_le _) ⟨Nat.zero_le _, hit2, hl⟩ hS (ItemsOf.nil _) fun s' acc' c' hm hS' hacc => ?_⟩
  rw [Moved.eq_with hm]
  refine hR s'.heap s'.toks acc' c' (fun b ob hb hbi e => hm.heap b ob (fun hmem => ?_) e) hS' hacc
  rcases List.mem_cons.mp hmem with e' | hmem
  · exact hb e'
  · exact hbi (List.mem_singleton.mp hmem)
theorem call_list_lri {Q : Value → Shared → Prop} (hh : A.handled = none) (l it : Addr) (items : Array Value) (hit : s.heap.IsRevIter it l ((items.size : Int) - 1)) (hl : s.heap.IsList l items) (h0 : 0 < items.size) (hz : items.size ≤ sizeLine)
    (hQ : ∀ h' tk acc' c', (∀ b o, b ≠ it → s.heap.get? b = some o → h'.get? b = some o) →
      h'.get? s.heap.objs.size = some { cls := .type "list", dict := none, data := .seq acc' c', slots := #[] } → ItemsOf (fun i v => items[items.size - 1 - i]? = some v) acc' items.size → Q (.ref s.heap.objs.size) { s with heap := h', toks := tk }) :
    wpAny (model prog w) A (call (.type "list") [.ref it]) Q E s := by
  refine callType_codes (Q₁ := fun obj s₁ => obj = .ref s.heap.objs.size ∧ s₁ = { s with heap := s.heap.push { cls := .type "list", data := .seq #[] } }) PySem.F.called_list (PySem.F.typeCall_list_1 _) PySem.F.entry_list_init
    (code_list_new _ ⟨rfl, rfl⟩) fun obj s₁ h₁ => ?_
  obtain ⟨rfl, rfl⟩ := h₁
  have hS : (s.heap.push { cls := .type "list", data := .seq #[] }).get? s.heap.objs.size = some { cls := .type "list", data := .seq #[] } := Heap.get?_push_size _ rfl
  refine ⟨⟨_, hS, rfl⟩, PySem.F.args_list_init_2 _ _, ?_⟩
  show wpAny _ _ (do let old ← Builtin.List.listItems (.ref s.heap.objs.size); Builtin.List.listUpdate (.ref s.heap.objs.size) (fun _ => #[]); letGo old.toList.reverse; Builtin.List.listExtendWith (.ref s.heap.objs.size) (.ref it) .none) _ _ _
  refine wpAny_bind ?_
  unfold Builtin.List.listItems
  refine wpAny_bind (wpAny_seqItems hS rfl (wpAny_pure ?_))
  show wpAny _ _ (updateSeq s.heap.objs.size (fun _ => #[]) >>= fun _ => letGo (#[] : Array Value).toList.reverse >>= fun _ => Builtin.List.listExtendWith (.ref s.heap.objs.size) (.ref it) .none) _ _ _
  refine wpAny_bind (wpAny_updateSeq hS rfl ?_)
  have hS₂ := Heap.get?_update_self (Obj.mapSeq (fun _ => (#[] : Array Value))) hS rfl
  have oth : ∀ b o, b ≠ s.heap.objs.size → s.heap.get? b = some o → ((s.heap.push { cls := .type "list", data := .seq #[] }).update s.heap.objs.size (Obj.mapSeq (fun _ => (#[] : Array Value)))).get? b = some o :=
    fun b o hb e => (Heap.get?_update_other _ _ (Ne.symm hb)).trans (Heap.get?_push_of_some _ e)
  refine wpAny_bind (wpAny_letGo ?_)
  have hit2 : ((s.heap.push { cls := .type "list", data := .seq #[] }).update s.heap.objs.size (Obj.mapSeq (fun _ => (#[] : Array Value)))).IsRevIter it l ((items.size : Int) - 1) := by
    obtain ⟨o, ho, r⟩ := hit
    exact ⟨o, oth it o (Nat.ne_of_lt (Heap.lt_size ho)) ho, r⟩
  have hlS : l ≠ s.heap.objs.size := by obtain ⟨o, ho, r⟩ := hl; exact Nat.ne_of_lt (Heap.lt_size ho)
  have hl2 : ((s.heap.push { cls := .type "list", data := .seq #[] }).update s.heap.objs.size (Obj.mapSeq (fun _ => (#[] : Array Value)))).IsList l items := by
    obtain ⟨o, ho, r⟩ := hl
    exact ⟨o, oth l o hlS ho, r⟩
  refine ext_lri (A := A.in1) hh l it _ items .none _ hS₂ hit2 hl2 hlS h0 hz fun h' tk acc' c' hk hS' hacc => ?_
  exact ⟨rfl, hQ h' tk acc' c' (fun b o hb e => hk b o (Nat.ne_of_lt (Heap.lt_size e)) hb (oth b o (Nat.ne_of_lt (Heap.lt_size e)) e)) hS' hacc⟩
end
section
variable {X : Cx}
def tListRevL (K : PySem.W.Frag) (ta : TA) : TE := fun σ H Q => ta σ H fun vs H1 => ∃ p xs, vs = [.ref p] ∧ SqL K H1 p xs ∧ 0 < xs.length ∧ ∀ q, H1 q = none → Q (.ref q) (upd H1 q (.lst xs.reverse))
theorem pe_listRevL {a : Expr} {ta : TA} {p p2 pos pos2 : Pos} (K : PySem.W.Frag) (hK : X.K = K) (hc : X.calm = true) (hgl : Gl X "list") (hml : X.mg "list" = none) (hg : Gl X "reversed") (hm : X.mg "reversed" = none) (ha : PA X [a] ta)
    (hs : starEach [a] X.env = [(false, eval a X.env)] := by rfl) (hs2 : starEach [.Call (.Name "reversed" p2) [a] [] pos2] X.env = [(false, eval (.Call (.Name "reversed" p2) [a] [] pos2) X.env)] := by rfl) :
    PE X (.Call (.Name "list" p) [.Call (.Name "reversed" p2) [a] [] pos2] [] pos) (tListRevL K ta) := by
  subst hK
  intro pins s σ H Q I h
  refine Call_ (ld_blt I hgl hml boot_list (PyProof.Rows.callWith_type1 ?_ hs2 rfl))
  rw [hs2]
  refine Calls.spliced_cons ?_
  refine Call_ (ld_blt I hg hm boot_reversed (PyProof.Rows.callWith_type1 (thn (ha pos2 pins s σ H _ I h) fun us s1 ⟨vs, H1, I1, r1, q1⟩ => ?_) hs rfl))
  obtain ⟨l, xs, rfl, hsq, h0, q⟩ := q1
  obtain ⟨u, rfl, ru⟩ := vals1 r1
  cases ru
  obtain ⟨its, rv, pl, hz⟩ := I1.list hsq
  have hl : s1.heap.IsList l its.toArray := pl.isList
  have hlen := rv.length
  refine call_reversed_list hl ?_
  refine Calls.spliced_nil ?_
  have hsz : (s1.heap.push (revObj l ((its.toArray.size : Int) - 1))).objs.size = s1.heap.objs.size + 1 := Heap.size_push _ _
  have hit : (s1.heap.push (revObj l ((its.toArray.size : Int) - 1))).IsRevIter s1.heap.objs.size l ((its.toArray.size : Int) - 1) := ⟨_, Heap.get?_push_size _ rfl, rfl, rfl⟩
  have hl2 : (s1.heap.push (revObj l ((its.toArray.size : Int) - 1))).IsList l its.toArray := hl.at fun o e => Heap.get?_push_of_some _ e
  refine call_list_lri (I.ok.hd hc) l _ its.toArray hit hl2 (by simpa [← hlen] using h0) (by simpa [← hlen] using hz) fun h' tk' acc' c' hk e hacc => ?_
  obtain ⟨ha1, ha2⟩ := hacc
  refine ⟨.ref _, _, I1.laid (t' := tk') (o := .lst xs.reverse) (fun b o hb => hk b o (Nat.ne_of_lt (Heap.lt_size hb)) (Heap.get?_push_of_some _ hb)) (Nat.le_of_lt (by show s1.heap.objs.size < _; rw [hsz]; exact Nat.lt_succ_self _)) ?_, rfl, q _ (I1.hok.fresh (Nat.le_of_lt (by show s1.heap.objs.size < _; rw [hsz]; exact Nat.lt_succ_self _)))⟩
  refine ⟨by rw [List.length_reverse]; exact hz, acc'.toList, c', ?_, by simpa using e⟩
  have hrev : its.reverse = acc'.toList := by
    refine List.ext_getElem? fun j => ?_
    by_cases hj : j < its.length
    · have hj2 : j < acc'.toList.length := by simp at ha1 ⊢; omega
      have e1 : acc'.toList[j]? = some acc'.toList[j] := List.getElem?_eq_getElem hj2
      have := ha2 j acc'.toList[j] (by simpa using e1)
      rw [e1, List.getElem?_reverse hj]
      simpa using this
    · rw [List.getElem?_eq_none (by rw [List.length_reverse]; omega), List.getElem?_eq_none (by simp at ha1 ⊢; omega)]
  rw [← hrev]
  exact rv.reverse
end
/-- the second argument's token is old at the entry -/
theorem tok_of {X : Cx} {s s1 : Shared} {L : Addr} {scope : Scope} {ps : List Str} {us : List Value} {x : Str} (hL : X.env.locals = L) (hpre : preT us s) (hle : s.toks ≤ s1.toks) (hh : Held s1.heap L scope ps us) (hp : ps[1]? = some x) (hx : scope.names.lookup x = some .local) : TokIn X x s1 := by
  obtain ⟨z, t, e, h0, hlt⟩ := hpre
  obtain ⟨m, hn, hm⟩ := hh
  subst hL
  exact ⟨m, z, t, hn, hm 1 x _ hp e hx, h0, Nat.lt_of_lt_of_le hlt hle⟩
section
variable {P : Program} {w : World} {K : PySem.W.Frag} {mg : Str → Option Value} {base : Heap}
theorem Fun.okT {y qual : Str} {st : Stmt} {f : Addr} {fd : FuncData} {N ps : List Str} {k : Nat} {sp : Sp} (x : Str) (F : Fun K y qual st f fd) (S : FnScope N ps (defScope st)) (hp : ps[1]? = some x) (hx : (defScope st).names.lookup x = some .local) (len : ∀ vs H Q E, sp vs H Q E → vs.length = ps.length)
    (hbody : ∀ (cdv : Value) (A : Around) (outer : List Env) (s : Shared) (H : Hp) (vs : List V) (Q : VK) (E : XK), Room k (A.deeper (envOfC qual (defScope st) s.heap.objs.size f cdv)) → sp vs H Q E →
      ∃ t : TS, PSsT (cxOf CX0 P w K mg base N qual (defScope st) f cdv A outer s H E).nox x (defBody st) t ∧ t { nx := fun _ H' => Q .non H', rt := Q } (start N vs) H) : FnOkG P w K mg base (k + 1) f fd ps sp preT (fun _ => True) := by
  refine F.okG S len fun cdv A outer s H vs Q E hr h => ?_
  obtain ⟨t, ht, hq⟩ := hbody cdv A outer s H vs Q E hr h
  exact ⟨t, fun s1 us D I hpre hle hheld hq => wpAny_mono (ht [] s1 _ H D I (tok_of rfl hpre hle hheld hp hx) hq) (fun _ _ z => ⟨z, trivial⟩) fun _ _ z => z, hq⟩
theorem Fun.okP {y qual : Str} {st : Stmt} {f : Addr} {fd : FuncData} {N ps : List Str} {k : Nat} {sp : Sp} (F : Fun K y qual st f fd) (S : FnScope N ps (defScope st)) (len : ∀ vs H Q E, sp vs H Q E → vs.length = ps.length)
    (hbody : ∀ (cdv : Value) (A : Around) (outer : List Env) (s : Shared) (H : Hp) (vs : List V) (Q : VK) (E : XK), Room k (A.deeper (envOfC qual (defScope st) s.heap.objs.size f cdv)) → sp vs H Q E →
      ∃ t : TS, PSsP (cxOf CX0 P w K mg base N qual (defScope st) f cdv A outer s H E).nox (defBody st) t ∧ t { nx := fun _ H' => Q .non H', rt := Q } (start N vs) H) : FnOkG P w K mg base (k + 1) f fd ps sp (fun _ _ => True) (fun s => 0 < s.toks) := by
  refine F.okG S len fun cdv A outer s H vs Q E hr h => ?_
  obtain ⟨t, ht, hq⟩ := hbody cdv A outer s H vs Q E hr h
  exact ⟨t, fun s1 us D I _ _ _ hq => ht [] s1 _ H D I hq, hq⟩
end
end L2
set_option maxHeartbeats 4000000
namespace My
open PySem PySem.Spec PyProof.Rows L2
/-! letters, contraries -/
def smalls : List Nat := [97, 98, 99, 100, 101, 102, 103, 104, 105, 106, 107, 108, 109, 110, 111, 112, 113, 114, 115, 116, 117, 118, 119, 120, 121, 122]
def caps : List Nat := [65, 66, 67, 68, 69, 70, 71, 72, 73, 74, 75, 76, 77, 78, 79, 80, 81, 82, 83, 84, 85, 86, 87, 88, 89, 90]
def Lt (c : Nat) : Prop := c ∈ smalls ∨ c ∈ caps
instance (c : Nat) : Decidable (Lt c) := by unfold Lt; infer_instance
def ctr (c : Nat) : Nat := if isLow c = true then PyProof.Rows.up1 c else PyProof.Rows.lo1 c
theorem lt_all : ∀ c ∈ smalls ++ caps, c < 128 ∧ ctr c ∈ smalls ++ caps ∧ ctr (ctr c) = c ∧ ctr c ≠ c := by decide +kernel
theorem Lt.mem {c : Nat} (h : Lt c) : c ∈ smalls ++ caps := List.mem_append.mpr h
theorem Lt.lt {c : Nat} (h : Lt c) : c < 128 := (lt_all c h.mem).1
theorem Lt.ctr {c : Nat} (h : Lt c) : Lt (ctr c) := List.mem_append.mp (lt_all c h.mem).2.1
theorem ctr_ctr {c : Nat} (h : Lt c) : ctr (ctr c) = c := (lt_all c h.mem).2.2.1
theorem ctr_ne {c : Nat} (h : Lt c) : ctr c ≠ c := (lt_all c h.mem).2.2.2
theorem ctr_inj {a b : Nat} (ha : Lt a) (hb : Lt b) (e : My.ctr a = My.ctr b) : a = b := by rw [← ctr_ctr ha, e, ctr_ctr hb]
theorem other_small : ∀ c ∈ smalls, atI caps ((smalls.idxOf c : Nat) : Int) = some (ctr c) := by decide +kernel
theorem other_cap : ∀ c ∈ caps, atI smalls ((caps.idxOf c : Nat) : Int) = some (ctr c) := by decide +kernel
/-- but for b all stays -/
def SameB (b : Addr) (H H' : Hp) : Prop := ∀ c o, H c = some o → c ≠ b → H' c = some o
theorem SameB.refl (b : Addr) (H : Hp) : SameB b H H := fun _ _ h _ => h
theorem SameB.trans {b : Addr} {H H1 H2 : Hp} (x : SameB b H H1) (y : SameB b H1 H2) : SameB b H H2 := fun c o h n => y c o (x c o h n) n
theorem SameB.of {b : Addr} {H H' : Hp} (x : Same H H') : SameB b H H' := fun c o h _ => x c o h
theorem SameB.upd (b : Addr) (H : Hp) (o : HO) : SameB b H (upd H b o) := fun c o h n => by rw [upd_ne n]; exact h
theorem Same.upd {H : Hp} {p : Addr} {o : HO} (h : H p = none) : Same H (L2.upd H p o) := fun c u e => by rw [upd_ne (ne_of_none e h)]; exact e
/-- the box of draws -/
def BoxAt (H : Hp) (b : Addr) : Prop := ∃ x y : Int, H b = some (.lst [.int x, .int y])
theorem BoxAt.same {H H' : Hp} {b : Addr} (h : BoxAt H b) (s : Same H H') : BoxAt H' b := let ⟨x, y, e⟩ := h; ⟨x, y, s _ _ e⟩
/-- a yard's ends -/
structure Yd (y : List Nat) : Prop where
  nd : y.Nodup
  lt : ∀ c ∈ y, Lt c
  cl : ∀ c ∈ y, ctr c ∈ y
def sp_contrary (_ : PySem.W.Frag) : Sp := fun vs H Q _ => ∃ c, vs = [.str (S [c])] ∧ c < 128 ∧ Q (.str (S [ctr c])) H
theorem len_contrary {K : PySem.W.Frag} {vs : List V} {H : Hp} {Q : VK} {E : XK} (h : sp_contrary K vs H Q E) : vs.length = 1 := by obtain ⟨c, rfl, _⟩ := h; rfl
def sp_Lother (_ : PySem.W.Frag) : Sp := fun vs H Q _ => ∃ c, vs = [.str (S [c])] ∧ Lt c ∧ Q (.str (S [ctr c])) H
theorem len_Lother {K : PySem.W.Frag} {vs : List V} {H : Hp} {Q : VK} {E : XK} (h : sp_Lother K vs H Q E) : vs.length = 1 := by obtain ⟨c, rfl, _⟩ := h; rfl
def sp_Lbox (K : PySem.W.Frag) : Sp := fun vs H Q _ => ∃ (a : Addr) (ns : List Int) (k : Nat), vs = [.ref a, .int k] ∧ SqL K H a (ns.map V.int) ∧ k ≤ 1000 ∧ ∀ b H', H b = none → BoxAt H' b → Same H H' → Q (.ref b) H'
theorem len_Lbox {K : PySem.W.Frag} {vs : List V} {H : Hp} {Q : VK} {E : XK} (h : sp_Lbox K vs H Q E) : vs.length = 2 := by obtain ⟨a, ns, k, rfl, _⟩ := h; rfl
def sp_Ltake (_ : PySem.W.Frag) : Sp := fun vs H Q _ => ∃ (b : Addr) (m : Int), vs = [.ref b, .int m] ∧ BoxAt H b ∧ 1 ≤ m ∧ m < 1000000 ∧ ∀ (r : Nat) H', (r : Int) < m → BoxAt H' b → SameB b H H' → Q (.int r) H'
theorem len_Ltake {K : PySem.W.Frag} {vs : List V} {H : Hp} {Q : VK} {E : XK} (h : sp_Ltake K vs H Q E) : vs.length = 2 := by obtain ⟨b, m, rfl, _⟩ := h; rfl
def sp_Lyard (_ : PySem.W.Frag) : Sp := fun vs H Q _ => ∃ (b : Addr) (few top : Nat), vs = [.ref b, .int few, .int top] ∧ BoxAt H b ∧ 1 ≤ few ∧ few ≤ top ∧ top ≤ 8 ∧ ∀ (y : List Nat) H', Yd y → 2 * few ≤ y.length → y.length ≤ 2 * top → BoxAt H' b → SameB b H H' → Q (.str (S y)) H'
theorem len_Lyard {K : PySem.W.Frag} {vs : List V} {H : Hp} {Q : VK} {E : XK} (h : sp_Lyard K vs H Q E) : vs.length = 3 := by obtain ⟨b, m, t, rfl, _⟩ := h; rfl
def sp_law (K : PySem.W.Frag) : Sp := fun vs H Q _ => ∃ (a : Addr) (ns : List Int), vs = [.ref a] ∧ SqL K H a (ns.map V.int) ∧ ns.length ≤ 63 ∧ ∀ H', Q (.bl true) H'
theorem len_law {K : PySem.W.Frag} {vs : List V} {H : Hp} {Q : VK} {E : XK} (h : sp_law K vs H Q E) : vs.length = 1 := by obtain ⟨b, m, rfl, _⟩ := h; rfl
theorem flat1 : ∀ l : List Nat, (l.map fun c => [c]).flatten = l
  | [] => rfl
  | c :: l => by rw [List.map_cons, List.flatten_cons, flat1 l]; rfl
theorem sum1 : ∀ l : List Nat, ((l.map fun c => [c]).map List.length).sum = l.length
  | [] => rfl
  | c :: l => by
    rw [List.map_cons, List.map_cons, List.sum_cons, sum1 l]
    show 1 + l.length = l.length + 1
    omega
theorem sgs_lists (l : List Nat) : sgs l = (l.map fun c => [c]).map fun l => V.str (S l) := by unfold sgs; rw [List.map_map]; rfl
theorem sgs_rev (l : List Nat) : (sgs l).reverse = sgs l.reverse := by unfold sgs; rw [List.map_reverse]
theorem sgs_snoc (l : List Nat) (c : Nat) : sgs l ++ [V.str (S [c])] = sgs (l ++ [c]) := by unfold sgs; rw [List.map_append]; rfl
theorem take_snoc {α : Type} {l : List α} {i : Nat} {x : α} (h : l[i]? = some x) : l.take i ++ [x] = l.take (i + 1) := by rw [List.take_add_one, h]; rfl
theorem ints_at {ns : List Int} {i : Nat} (h : i < ns.length) : ∃ z, (ns.map V.int)[i]? = some (V.int z) := ⟨ns[i], by rw [List.getElem?_map, List.getElem?_eq_getElem h]; rfl⟩
theorem yes_ite {σ : L2.St} {H : Hp} {A B : Hp → Prop} (h : A H) : tYes σ H fun b H3 => if b = true then A H3 else B H3 := by
  show (if true = true then A H else B H)
  rw [if_pos rfl]
  exact h
theorem box_at (b : Bool) (z : Int) : ∃ y, atI [V.int 0, V.int z] (if b = true then 1 else 0) = some (V.int y) := by
  cases b
  · exact ⟨0, rfl⟩
  · exact ⟨z, rfl⟩
theorem erase_perm {α : Type} : ∀ {l : List α} {i : Nat} {x : α}, l[i]? = some x → (x :: l.eraseIdx i).Perm l
  | [], i, x, h => by simp at h
  | a :: l, 0, x, h => by
    have : a = x := by simpa using h
    subst this
    exact List.Perm.refl _
  | a :: l, i + 1, x, h => by
    have ih := erase_perm (l := l) (i := i) (x := x) (by simpa using h)
    rw [List.eraseIdx_cons_succ]
    exact (List.Perm.swap a x _).trans (List.Perm.cons a ih)
theorem sgs_erase (l : List Nat) (i : Nat) : (sgs l).eraseIdx i = sgs (l.eraseIdx i) := by
  unfold sgs
  induction l generalizing i with
  | nil => rfl
  | cons a l ih =>
    cases i with
    | zero => rfl
    | succ i => rw [List.map_cons, List.eraseIdx_cons_succ, ih, List.eraseIdx_cons_succ, List.map_cons]
theorem sgs_at {l : List Nat} {i : Nat} (h : i < l.length) : (sgs l)[i]? = some (V.str (S [l[i]])) := by unfold sgs; rw [List.getElem?_map, List.getElem?_eq_getElem h]; rfl
theorem sgs_app (a b : List Nat) : sgs a ++ sgs b = sgs (a ++ b) := by unfold sgs; rw [List.map_append]
theorem small_ctr : ∀ c ∈ smalls, ctr c ∉ smalls := by decide +kernel
theorem smalls_nd : smalls.Nodup := by decide +kernel
theorem Yd.perm {a b : List Nat} (h : Yd a) (p : a.Perm b) : Yd b :=
  ⟨p.nodup_iff.mp h.nd, fun c hc => h.lt c (p.mem_iff.mpr hc), fun c hc => p.mem_iff.mp (h.cl c (p.mem_iff.mpr hc))⟩
/-- the letters that are left, and the ends so far -/
structure YdW (i : Nat) (L E : List Nat) : Prop where
  yd : Yd E
  nd : L.Nodup
  sm : ∀ c ∈ L, c ∈ smalls
  ap : ∀ c ∈ L, c ∉ E
  ll : L.length = 26 - i
  el : E.length = 2 * i
theorem YdW.start : YdW 0 smalls [] := ⟨⟨List.nodup_nil, fun _ h => absurd h List.not_mem_nil, fun _ h => absurd h List.not_mem_nil⟩, smalls_nd, fun _ h => h, fun _ _ h => absurd h List.not_mem_nil, rfl, rfl⟩
theorem YdW.turn {i r : Nat} {L E : List Nat} (w : YdW i L E) (hi : i < 26) (hr : r < L.length) : YdW (i + 1) (L.eraseIdx r) (E ++ [L[r], ctr L[r]]) := by
  have hp := erase_perm (l := L) (List.getElem?_eq_getElem hr)
  have hm : L[r] ∈ L := List.getElem_mem hr
  have hs := w.sm _ hm
  have hl : Lt L[r] := .inl hs
  have nd2 := hp.nodup_iff.mpr w.nd
  have sub : ∀ c ∈ L.eraseIdx r, c ∈ L := fun c hc => hp.mem_iff.mp (List.mem_cons_of_mem _ hc)
  have ap1 := w.ap _ hm
  have ap2 : ctr L[r] ∉ E := fun z => ap1 (by have := w.yd.cl _ z; rwa [ctr_ctr hl] at this)
  refine ⟨⟨?_, fun c hc => ?_, fun c hc => ?_⟩, (List.nodup_cons.mp nd2).2, fun c hc => w.sm c (sub c hc), fun c hc hE => ?_, ?_, ?_⟩
  · rw [List.nodup_append]
    refine ⟨w.yd.nd, ?_, fun a ha b hb z => ?_⟩
    · rw [List.nodup_cons]
      refine ⟨fun z => (ctr_ne hl) (List.mem_singleton.mp z).symm, List.nodup_cons.mpr ⟨List.not_mem_nil, List.nodup_nil⟩⟩
    · subst z
      rcases List.mem_cons.mp hb with z | z
      · exact ap1 (z ▸ ha)
      · exact ap2 (List.mem_singleton.mp z ▸ ha)
  · rcases List.mem_append.mp hc with z | z
    · exact w.yd.lt c z
    · rcases List.mem_cons.mp z with z | z
      · rw [z]; exact hl
      · rw [List.mem_singleton.mp z]; exact hl.ctr
  · rcases List.mem_append.mp hc with z | z
    · exact List.mem_append_left _ (w.yd.cl c z)
    · refine List.mem_append_right _ ?_
      rcases List.mem_cons.mp z with z | z
      · rw [z]; exact List.mem_cons_of_mem _ (List.mem_singleton.mpr rfl)
      · rw [List.mem_singleton.mp z, ctr_ctr hl]; exact List.mem_cons_self
  · rcases List.mem_append.mp hE with z | z
    · exact w.ap c (sub c hc) z
    · rcases List.mem_cons.mp z with z | z
      · exact (List.nodup_cons.mp nd2).1 (z ▸ hc)
      · have e : c = ctr L[r] := List.mem_singleton.mp z
        exact small_ctr _ hs (e ▸ w.sm c (sub c hc))
  · have := hp.length_eq
    rw [List.length_cons, w.ll] at this
    omega
  · rw [List.length_append, w.el]
    show 2 * i + 2 = _
    omega
theorem SameB.updN {b p : Addr} {H H' : Hp} {o : HO} (h : SameB b H H') (n : H p = none) : SameB b H (L2.upd H' p o) := fun c u e z => by rw [upd_ne (ne_of_none e n)]; exact h c u e z
theorem BoxAt.updN {b p : Addr} {H : Hp} {o : HO} (h : BoxAt H b) (n : p ≠ b) : BoxAt (L2.upd H p o) b := let ⟨x, y, e⟩ := h; ⟨x, y, by rw [upd_ne (Ne.symm n)]; exact e⟩
theorem SameB.none {b p : Addr} {H H' : Hp} (h : SameB b H H') (n : H' p = none) (z : p ≠ b) : H p = none := by
  cases q : H p with
  | none => rfl
  | some o => rw [h p o q z] at n; cases n
theorem BoxAt.ne {b p : Addr} {H : Hp} (h : BoxAt H b) (n : H p = none) : p ≠ b := fun z => by obtain ⟨x, y, e⟩ := h; rw [← z, n] at e; cases e
theorem iteN {c : Bool} {A B : Prop} (h : c = false) (hB : B) : if c = true then A else B := by rw [h]; exact iteF hB
theorem iteY {c : Bool} {A B : Prop} (h : c = true) (hA : A) : if c = true then A else B := by rw [h]; exact iteT hA
theorem lt128 {l : List Nat} (h : ∀ c ∈ l, Lt c) : ∀ c ∈ l, c < 128 := fun c hc => (h c hc).lt
theorem sgs_take (a : List Nat) : a.take (sgs a).length = a := by rw [sgs_len]; exact List.take_of_length_le (Nat.le_refl _)
theorem all_rep (n : Nat) : (List.replicate n true).all id = true := by rw [List.all_eq_true]; intro b hb; rw [List.eq_of_mem_replicate hb]; rfl
theorem rep_snoc (n : Nat) : (List.replicate n true).map V.bl ++ [V.bl true] = (List.replicate (n + 1) true).map V.bl := by rw [List.replicate_succ', List.map_append]; rfl
theorem seqB {K : PySem.W.Frag} {H H' : Hp} {a p : Addr} {xs : List V} (h : SqL K H a xs) (n : H p = none) (s : SameB p H H') : SqL K H' a xs := by
  rcases h with (h | ⟨o, h⟩) | h
  · exact .inl (.inl (s _ _ h (ne_of_none h n)))
  · exact .inl (.inr ⟨o, s _ _ h (ne_of_none h n)⟩)
  · exact .inr h
/-- between two bounds -/
theorem cnt {lo hi : Int} {m : Nat} (h : lo ≤ hi) : lo ≤ (if (if (m : Int) < hi then (m : Int) else hi) > lo then (if (m : Int) < hi then (m : Int) else hi) else lo) ∧ (if (if (m : Int) < hi then (m : Int) else hi) > lo then (if (m : Int) < hi then (m : Int) else hi) else lo) ≤ hi := by
  split <;> split <;> (try split) <;> omega
theorem SameB.same {b : Addr} {H H2 H3 : Hp} (n : H b = Option.none) (s : Same H H2) (t : SameB b H2 H3) : Same H H3 := fun c o e => t c o (s c o e) (ne_of_none e n)
theorem SameB.after {p : Addr} {H H1 H2 : Hp} (s : SameB p H H1) (t : Same H1 H2) : SameB p H H2 := fun c o e z => t c o (s c o e z)
/-- texts as values -/
def txs (ws : List (List Nat)) : List V := ws.map fun l => V.str (S l)
theorem txs_len (ws : List (List Nat)) : (txs ws).length = ws.length := by unfold txs; rw [List.length_map]
theorem txs_snoc (ws : List (List Nat)) (l : List Nat) : txs ws ++ [V.str (S l)] = txs (ws ++ [l]) := by unfold txs; rw [List.map_append]; rfl
/-! words made shorter -/
def rstep (st : List Nat) (c : Nat) : List Nat := if st.getLast? = some (ctr c) then st.dropLast else st ++ [c]
def red (l : List Nat) : List Nat := l.foldl rstep []
/-- no letter beside its contrary -/
def Rdd : List Nat → Prop
  | [] => True
  | [_] => True
  | a :: b :: r => a ≠ ctr b ∧ Rdd (b :: r)
theorem Rdd.tail : ∀ {a : Nat} {r : List Nat}, Rdd (a :: r) → Rdd r
  | _, [], _ => trivial
  | _, _ :: _, h => h.2
theorem Rdd.snoc : ∀ {l : List Nat} {c : Nat}, Rdd l → l.getLast? ≠ some (ctr c) → Rdd (l ++ [c])
  | [], _, _, _ => trivial
  | [a], c, _, h => ⟨fun z => h (by rw [z]; rfl), trivial⟩
  | a :: b :: r, c, h, k => ⟨h.1, Rdd.snoc (l := b :: r) h.2 (by simpa using k)⟩
theorem Rdd.init : ∀ {l : List Nat} {c : Nat}, Rdd (l ++ [c]) → Rdd l ∧ l.getLast? ≠ some (ctr c)
  | [], _, _ => ⟨trivial, by simp⟩
  | [a], c, h => ⟨trivial, fun z => h.1 (by simpa using z)⟩
  | a :: b :: r, c, h => by
    have ih := Rdd.init (l := b :: r) (c := c) h.2
    exact ⟨⟨h.1, ih.1⟩, by simpa using ih.2⟩
theorem snoc_cases (l : List Nat) : l = [] ∨ ∃ m a, l = m ++ [a] := by
  by_cases h : l = []
  · exact .inl h
  · exact .inr ⟨l.dropLast, l.getLast h, (List.dropLast_concat_getLast h).symm⟩
theorem Rdd.left : ∀ {m l : List Nat}, Rdd (m ++ l) → Rdd m
  | [], _, _ => trivial
  | [_], _, _ => trivial
  | a :: b :: r, l, h => ⟨h.1, Rdd.left (m := b :: r) (l := l) h.2⟩
theorem last_snoc {l : List Nat} {c : Nat} (h : l.getLast? = some c) : ∃ m, l = m ++ [c] := by
  rcases snoc_cases l with rfl | ⟨m, a, rfl⟩
  · simp at h
  · refine ⟨m, ?_⟩
    have : a = c := by simpa using h
    rw [this]
theorem rstep_rdd {st : List Nat} {c : Nat} (h : Rdd st) : Rdd (rstep st c) := by
  unfold rstep
  by_cases e : st.getLast? = some (ctr c)
  · rw [if_pos e]
    obtain ⟨m, rfl⟩ := last_snoc e
    rw [List.dropLast_concat]
    exact h.init.1
  · rw [if_neg e]
    exact h.snoc e
theorem rstep_mem {st : List Nat} {c d : Nat} (h : d ∈ rstep st c) : d ∈ st ∨ d = c := by
  unfold rstep at h
  by_cases e : st.getLast? = some (ctr c)
  · rw [if_pos e] at h
    exact .inl (List.dropLast_subset _ h)
  · rw [if_neg e] at h
    rcases List.mem_append.mp h with z | z
    · exact .inl z
    · exact .inr (List.mem_singleton.mp z)
theorem rstep_pair {st : List Nat} {x y : Nat} (h : Rdd st) (hy : Lt y) (e : x = ctr y) : rstep (rstep st x) y = st := by
  subst e
  unfold rstep
  by_cases z : st.getLast? = some (ctr (ctr y))
  · rw [if_pos z]
    obtain ⟨m, rfl⟩ := last_snoc z
    rw [List.dropLast_concat, ctr_ctr hy]
    have := h.init.2
    rw [ctr_ctr hy] at this
    rw [if_neg this]
  · rw [if_neg z, if_pos (by simp), List.dropLast_concat]
theorem fold_rdd : ∀ (l st : List Nat), Rdd st → Rdd (l.foldl rstep st)
  | [], _, h => h
  | _ :: l, _, h => fold_rdd l _ (rstep_rdd h)
theorem red_rdd (l : List Nat) : Rdd (red l) := fold_rdd l [] trivial
theorem red_pair {a b : List Nat} {x y : Nat} (hy : Lt y) (e : x = ctr y) : red (a ++ x :: y :: b) = red (a ++ b) := by
  unfold red
  rw [List.foldl_append, List.foldl_cons, List.foldl_cons, rstep_pair (fold_rdd a [] trivial) hy e, ← List.foldl_append]
theorem fold_same : ∀ (l st : List Nat), Rdd (st ++ l) → l.foldl rstep st = st ++ l
  | [], st, _ => by simp
  | c :: l, st, h => by
    have h' : Rdd ((st ++ [c]) ++ l) := by rw [List.append_assoc]; exact h
    have h2 := (Rdd.left h').init.2
    rw [List.foldl_cons]
    have : rstep st c = st ++ [c] := by unfold rstep; rw [if_neg h2]
    rw [this, fold_same l (st ++ [c]) h', List.append_assoc]
    rfl
theorem red_same {l : List Nat} (h : Rdd l) : red l = l := by
  exact fold_same l [] h
theorem fold_lt : ∀ (l st : List Nat), (∀ c ∈ l, Lt c) → (∀ c ∈ st, Lt c) → ∀ c ∈ l.foldl rstep st, Lt c
  | [], _, _, h => h
  | a :: l, st, h1, h2 => fold_lt l _ (fun c hc => h1 c (List.mem_cons_of_mem _ hc)) fun c hc => (rstep_mem hc).elim (h2 c) fun z => z ▸ h1 a List.mem_cons_self
theorem red_lt {l : List Nat} (h : ∀ c ∈ l, Lt c) : ∀ c ∈ red l, Lt c := fold_lt l [] h fun _ h => absurd h List.not_mem_nil
theorem rstep_len (st : List Nat) (c : Nat) : (rstep st c).length ≤ st.length + 1 := by
  unfold rstep
  by_cases e : st.getLast? = some (ctr c)
  · rw [if_pos e, List.length_dropLast]; omega
  · rw [if_neg e, List.length_append]; exact Nat.le_refl _
theorem fold_len : ∀ (l st : List Nat), (l.foldl rstep st).length ≤ st.length + l.length
  | [], _ => Nat.le_refl _
  | c :: l, st => by
    have := fold_len l (rstep st c)
    have h2 := rstep_len st c
    rw [List.foldl_cons, List.length_cons]
    omega
theorem red_len (l : List Nat) : (red l).length ≤ l.length := by
  have := fold_len l []
  rw [List.length_nil, Nat.zero_add] at this
  exact this
theorem red_take {l : List Nat} {i c : Nat} (h : l[i]? = some c) : red (l.take (i + 1)) = rstep (red (l.take i)) c := by
  unfold red
  rw [← take_snoc h, List.foldl_append]
  rfl
theorem rdd_of : ∀ {l : List Nat}, (∀ k a b, l[k]? = some a → l[k + 1]? = some b → a ≠ ctr b) → Rdd l
  | [], _ => trivial
  | [_], _ => trivial
  | a :: b :: r, h => ⟨h 0 a b rfl rfl, rdd_of (l := b :: r) fun k x y h1 h2 => h (k + 1) x y (by simpa using h1) (by simpa using h2)⟩
/-- the window from s to e -/
def win (l : List Nat) (s e : Nat) : List Nat := (l.drop s).take (e - s)
/-- ends that are contraries fall off -/
def strip : Nat → List Nat → List Nat
  | 0, l => l
  | n + 1, l => match l with
    | [] => []
    | [a] => [a]
    | a :: b :: r => if a = ctr ((b :: r).getLast (by simp)) then strip n (b :: r).dropLast else a :: b :: r
theorem strip_short : ∀ (n : Nat) {l : List Nat}, l.length < 2 → strip n l = l
  | 0, _, _ => rfl
  | _ + 1, [], _ => rfl
  | _ + 1, [_], _ => rfl
  | _ + 1, _ :: _ :: _, h => by simp at h; omega
theorem getLast_snoc (l : List Nat) (y : Nat) : (l ++ [y]).getLast (by simp) = y := by simp
theorem strip_go (n : Nat) {a y : Nat} {m : List Nat} (h : a = ctr y) : strip (n + 1) (a :: (m ++ [y])) = strip n m := by
  cases m with
  | nil =>
    show (if a = ctr (([y] : List Nat).getLast (by simp)) then strip n ([y] : List Nat).dropLast else _) = strip n []
    rw [if_pos (by simpa using h)]
    rfl
  | cons b r =>
    show (if a = ctr ((b :: (r ++ [y])).getLast (by simp)) then strip n (b :: (r ++ [y])).dropLast else _) = strip n (b :: r)
    have e1 : (b :: (r ++ [y])).getLast (by simp) = y := getLast_snoc (b :: r) y
    have e2 : (b :: (r ++ [y])).dropLast = b :: r := by
      have : b :: (r ++ [y]) = (b :: r) ++ [y] := rfl
      rw [this, List.dropLast_concat]
    rw [if_pos (by rw [e1]; exact h), e2]
theorem strip_stop (n : Nat) {a y : Nat} {m : List Nat} (h : a ≠ ctr y) : strip n (a :: (m ++ [y])) = a :: (m ++ [y]) := by
  cases n with
  | zero => rfl
  | succ n =>
    cases m with
    | nil =>
      show (if a = ctr (([y] : List Nat).getLast (by simp)) then _ else _) = _
      rw [if_neg (by simpa using h)]
      rfl
    | cons b r =>
      show (if a = ctr ((b :: (r ++ [y])).getLast (by simp)) then _ else _) = _
      have e1 : (b :: (r ++ [y])).getLast (by simp) = y := getLast_snoc (b :: r) y
      rw [if_neg (by rw [e1]; exact h)]
      rfl
/-- two letters at least: the first, the middle, the last -/
theorem ends2 {l : List Nat} (h : 2 ≤ l.length) : ∃ a m y, l = a :: (m ++ [y]) := by
  cases l with
  | nil => simp at h
  | cons a r =>
    rcases snoc_cases r with rfl | ⟨m, y, rfl⟩
    · simp at h
    · exact ⟨a, m, y, rfl⟩
theorem strip_more : ∀ (n : Nat) (l : List Nat) (k : Nat), l.length ≤ n → strip (n + k) l = strip n l
  | 0, l, k, h => by rw [strip_short _ (by omega), strip_short _ (by omega)]
  | n + 1, l, k, h => by
    by_cases h2 : l.length < 2
    · rw [strip_short _ h2, strip_short _ h2]
    · obtain ⟨a, m, y, rfl⟩ := ends2 (l := l) (by omega)
      have hm : m.length ≤ n := by simp at h; omega
      by_cases e : a = ctr y
      · have : n + 1 + k = (n + k) + 1 := by omega
        rw [this, strip_go _ e, strip_go _ e, strip_more n m k hm]
      · rw [strip_stop _ e, strip_stop _ e]
/-- the shortest -/
def core (l : List Nat) : List Nat := strip l.length l
theorem core_go {a y : Nat} {m : List Nat} (h : a = ctr y) : core (a :: (m ++ [y])) = core m := by
  unfold core
  have : (a :: (m ++ [y])).length = (m.length + 1) + 1 := by simp
  rw [this, strip_go _ h, strip_more _ _ _ (Nat.le_refl _)]
theorem core_stop {a y : Nat} {m : List Nat} (h : a ≠ ctr y) : core (a :: (m ++ [y])) = a :: (m ++ [y]) := strip_stop _ h
theorem core_short {l : List Nat} (h : l.length < 2) : core l = l := strip_short _ h
theorem core_ind {P : List Nat → List Nat → Prop} (h1 : ∀ l, l.length < 2 → P l l) (h2 : ∀ a m y, a ≠ ctr y → P (a :: (m ++ [y])) (a :: (m ++ [y]))) (h3 : ∀ a m y r, a = ctr y → P m r → P (a :: (m ++ [y])) r) : ∀ (n : Nat) (l : List Nat), l.length ≤ n → P l (core l)
  | 0, l, h => by rw [core_short (by omega)]; exact h1 l (by omega)
  | n + 1, l, h => by
    by_cases hl : l.length < 2
    · rw [core_short hl]; exact h1 l hl
    · obtain ⟨a, m, y, rfl⟩ := ends2 (l := l) (by omega)
      by_cases e : a = ctr y
      · rw [core_go e]
        exact h3 a m y _ e (core_ind h1 h2 h3 n m (by simp at h; omega))
      · rw [core_stop e]; exact h2 a m y e
theorem core_mem {l : List Nat} {c : Nat} : c ∈ core l → c ∈ l :=
  core_ind (P := fun l r => c ∈ r → c ∈ l) (fun _ _ h => h) (fun _ _ _ _ h => h) (fun a m y r _ k h => List.mem_cons_of_mem _ (List.mem_append_left _ (k h))) l.length l (Nat.le_refl _)
theorem core_len (l : List Nat) : (core l).length ≤ l.length :=
  core_ind (P := fun l r => r.length ≤ l.length) (fun _ _ => Nat.le_refl _) (fun _ _ _ _ => Nat.le_refl _) (fun a m y r _ k => by simp; omega) l.length l (Nat.le_refl _)
theorem win_go {l : List Nat} {s e : Nat} (h1 : s + 2 ≤ e) (h2 : e ≤ l.length) : win l s e = l[s] :: (win l (s + 1) (e - 1) ++ [l[e - 1]]) := by
  unfold win
  rw [List.drop_eq_getElem_cons (by omega)]
  have e1 : e - s = (e - 1 - (s + 1)) + 1 + 1 := by omega
  rw [e1, List.take_succ_cons, List.take_add_one, List.getElem?_drop]
  have e2 : s + 1 + (e - 1 - (s + 1)) = e - 1 := by omega
  rw [e2, List.getElem?_eq_getElem (by omega)]
  rfl
theorem win_len {l : List Nat} {s e : Nat} (h2 : e ≤ l.length) : (win l s e).length = e - s := by unfold win; rw [List.length_take, List.length_drop]; omega
theorem win_all (l : List Nat) : win l 0 l.length = l := by unfold win; simp
def sp_shortened (_ : PySem.W.Frag) : Sp := fun vs H Q _ => ∃ l : List Nat, vs = [.str (S l)] ∧ (∀ c ∈ l, Lt c) ∧ l.length ≤ 1000 ∧ ∀ H', Same H H' → Q (.str (S (red l))) H'
theorem len_shortened {K : PySem.W.Frag} {vs : List V} {H : Hp} {Q : VK} {E : XK} (h : sp_shortened K vs H Q E) : vs.length = 1 := by obtain ⟨c, rfl, _⟩ := h; rfl
def sp_shortest (_ : PySem.W.Frag) : Sp := fun vs H Q _ => ∃ l : List Nat, vs = [.str (S l)] ∧ (∀ c ∈ l, Lt c) ∧ l.length ≤ 1000 ∧ ∀ H', Same H H' → Q (.str (S (core (red l)))) H'
theorem len_shortest {K : PySem.W.Frag} {vs : List V} {H : Hp} {Q : VK} {E : XK} (h : sp_shortest K vs H Q E) : vs.length = 1 := by obtain ⟨c, rfl, _⟩ := h; rfl
theorem cut_to {α : Type} (l : List α) (k : Nat) : cut l none (some (k : Int)) = l.take k := by
  unfold cut
  rw [HT.sIx_none, HT.sIx_nat, List.drop_zero, Nat.sub_zero]
  by_cases h : k ≤ l.length
  · rw [Nat.min_eq_left h]
  · rw [Nat.min_eq_right (by omega), List.take_of_length_le (Nat.le_refl _), List.take_of_length_le (by omega)]
theorem cut_from {α : Type} (l : List α) (k : Nat) : cut l (some (k : Int)) none = l.drop k := by
  unfold cut
  rw [HT.sIx_none, HT.sIx_nat]
  by_cases h : k ≤ l.length
  · rw [Nat.min_eq_left h, List.take_of_length_le (by rw [List.length_drop]; exact Nat.le_refl _)]
  · rw [Nat.min_eq_right (by omega), List.drop_of_length_le (Nat.le_refl _), List.drop_of_length_le (by omega)]
    simp
def tds (ws : List (List Nat)) : List PyData := ws.map fun l => PyData.str (S l)
theorem rdds_txs {K : PySem.W.Frag} {H : Hp} : ∀ ws : List (List Nat), RdDs K H (txs ws) (tds ws)
  | [] => .nil
  | w :: ws => .cons (.str _) (rdds_txs ws)
theorem str_ok {l : List Nat} (h : ∀ c ∈ l, c < 128) : PyData.strOk (S l) = true := by
  unfold PyData.strOk
  rw [Array.all_eq_true_iff_forall_mem]
  intro c hc
  have : c ∈ l := by simpa [S] using hc
  have := h c this
  simp; omega
theorem lay_txs : ∀ {ws : List (List Nat)}, (∀ l ∈ ws, ∀ c ∈ l, c < 128) → PyData.canLayAll0 (tds ws) = true
  | [], _ => rfl
  | w :: ws, h => by
    show (PyData.strOk (S w) && PyData.canLayAll0 (tds ws)) = true
    rw [str_ok (h w List.mem_cons_self), lay_txs fun l hl => h l (List.mem_cons_of_mem _ hl)]
    rfl
theorem depth_txs : ∀ ws : List (List Nat), PyData.depthAll (tds ws) = 0
  | [] => rfl
  | k :: ks => by show max (PyData.depth (.str _)) (PyData.depthAll (tds ks)) = 0; rw [depth_txs ks]; rfl
mutual
theorem eqv_refl : ∀ d : PyData, d.hasDict = false → PyData.eqv d d = true
  | .none, _ => rfl
  | .bool b, _ => by simp [PyData.eqv]
  | .int i, _ => by simp [PyData.eqv]
  | .str x, _ => by simp [PyData.eqv]
  | .list xs, h => by show PyData.eqvAll xs xs = true; exact eqvAll_refl xs (by simpa [PyData.hasDict] using h)
  | .tuple xs, h => by show PyData.eqvAll xs xs = true; exact eqvAll_refl xs (by simpa [PyData.hasDict] using h)
  | .dict kvs, h => by simp [PyData.hasDict] at h
theorem eqvAll_refl : ∀ ds : List PyData, PyData.hasDictAll ds = false → PyData.eqvAll ds ds = true
  | [], _ => rfl
  | d :: ds, h => by
    simp [PyData.hasDictAll] at h
    show (PyData.eqv d d && PyData.eqvAll ds ds) = true
    rw [eqv_refl d h.1, eqvAll_refl ds h.2]
    rfl
end
/-! rings -/
def rot (c : List Nat) (k : Nat) : List Nat := c.drop k ++ c.take k
def rots (c : List Nat) (n : Nat) : List (List Nat) := (List.range n).map fun k => rot c (k + 1)
def ringC (c : List Nat) : List Nat := leastOf c (rots c (c.length - 1))
@[irreducible] def ringM (w : List Nat) : List Nat := ringC (core (red w))
theorem ringM_eq (w : List Nat) : ringM w = ringC (core (red w)) := by unfold ringM; rfl
theorem rots_snoc (c : List Nat) (n : Nat) : rots c (n + 1) = rots c n ++ [rot c (n + 1)] := by unfold rots; rw [List.range_succ, List.map_append]; rfl
theorem leastOf_snoc : ∀ (r : List (List Nat)) (a b : List Nat), leastOf a (r ++ [b]) = lesser (leastOf a r) b
  | [], _, _ => rfl
  | _ :: r, _, _ => leastOf_snoc r _ _
theorem rot_len (c : List Nat) (k : Nat) : (rot c k).length = c.length := by unfold rot; rw [List.length_append, List.length_drop, List.length_take]; omega
theorem rot_mem {c : List Nat} {k x : Nat} (h : x ∈ rot c k) : x ∈ c := (List.mem_append.mp h).elim List.mem_of_mem_drop List.mem_of_mem_take
theorem leastOf_in : ∀ (r : List (List Nat)) (a : List Nat), leastOf a r = a ∨ leastOf a r ∈ r
  | [], a => .inl rfl
  | b :: r, a => by
    rcases leastOf_in r (lesser a b) with h | h
    · have hl : lesser a b = a ∨ lesser a b = b := by unfold lesser; split <;> simp
      rcases hl with e | e
      · left; show leastOf (lesser a b) r = a; rw [h, e]
      · right; show leastOf (lesser a b) r ∈ b :: r; rw [h, e]; exact List.mem_cons_self
    · right; exact List.mem_cons_of_mem _ h
theorem ringC_rot (c : List Nat) : ∃ k, ringC c = rot c k := by
  rcases leastOf_in (rots c (c.length - 1)) c with h | h
  · exact ⟨0, by show leastOf _ _ = _; rw [h]; unfold rot; simp⟩
  · unfold rots at h
    obtain ⟨k, _, e⟩ := List.mem_map.mp h
    exact ⟨k + 1, e.symm⟩
theorem core_lt {w : List Nat} (h : ∀ c ∈ w, Lt c) : ∀ c ∈ core (red w), Lt c := fun c hc => red_lt h c (core_mem hc)
theorem ringM_lt {w : List Nat} (h : ∀ c ∈ w, Lt c) : ∀ c ∈ ringM w, Lt c := fun c hc => by
  obtain ⟨k, e⟩ := ringC_rot (core (red w))
  unfold ringM at hc
  rw [e] at hc
  exact core_lt h c (rot_mem hc)
theorem ringM_len (w : List Nat) : (ringM w).length ≤ w.length := by
  obtain ⟨k, e⟩ := ringC_rot (core (red w))
  unfold ringM
  rw [e, rot_len]
  exact Nat.le_trans (core_len _) (red_len w)
def sp_ring (_ : PySem.W.Frag) : Sp := fun vs H Q _ => ∃ l : List Nat, vs = [.str (S l)] ∧ (∀ c ∈ l, Lt c) ∧ l.length ≤ 1000 ∧ ∀ H', Same H H' → Q (.str (S (ringM l))) H'
theorem len_ring {K : PySem.W.Frag} {vs : List V} {H : Hp} {Q : VK} {E : XK} (h : sp_ring K vs H Q E) : vs.length = 1 := by obtain ⟨c, rfl, _⟩ := h; rfl
/-! words begun elsewhere -/
def AllLt (l : List Nat) : Prop := ∀ c ∈ l, Lt c
theorem AllLt.app {a b : List Nat} (h : AllLt a) (g : AllLt b) : AllLt (a ++ b) := fun c hc => (List.mem_append.mp hc).elim (h c) (g c)
theorem AllLt.left {a b : List Nat} (h : AllLt (a ++ b)) : AllLt a := fun c hc => h c (List.mem_append_left _ hc)
theorem AllLt.right {a b : List Nat} (h : AllLt (a ++ b)) : AllLt b := fun c hc => h c (List.mem_append_right _ hc)
/-- made shorter within -/
theorem red_ctx_go : ∀ (t st x y : List Nat), AllLt t → red (x ++ (st ++ t) ++ y) = red (x ++ t.foldl rstep st ++ y)
  | [], st, x, y, _ => by rw [List.append_nil]; rfl
  | c :: t, st, x, y, h => by
    have hc : Lt c := h c List.mem_cons_self
    have ht : AllLt t := fun d hd => h d (List.mem_cons_of_mem _ hd)
    rw [List.foldl_cons, ← red_ctx_go t (rstep st c) x y ht]
    unfold rstep
    by_cases e : st.getLast? = some (ctr c)
    · rw [if_pos e]
      obtain ⟨m, rfl⟩ := last_snoc e
      rw [List.dropLast_concat]
      have := red_pair (a := x ++ m) (b := t ++ y) hc rfl
      simpa [List.append_assoc] using this
    · rw [if_neg e]
      simp [List.append_assoc]
theorem red_ctx {t : List Nat} (x y : List Nat) (h : AllLt t) : red (x ++ t ++ y) = red (x ++ red t ++ y) := by
  have : red (x ++ ([] ++ t) ++ y) = red (x ++ red t ++ y) := red_ctx_go t [] x y h
  simpa using this
theorem red_left {t : List Nat} (y : List Nat) (h : AllLt t) : red (t ++ y) = red (red t ++ y) := by simpa using red_ctx [] y h
theorem red_right {t : List Nat} (x : List Nat) (h : AllLt t) : red (x ++ t) = red (x ++ red t) := by simpa using red_ctx x [] h
/-! the least of the words begun elsewhere -/
theorem lesser_le_left (a b : List Nat) : ¬ a < lesser a b := by
  unfold lesser
  split
  · rename_i h; exact fun g => List.lt_irrefl a (List.lt_trans g h)
  · exact List.lt_irrefl a
theorem lesser_le_right (a b : List Nat) : ¬ b < lesser a b := by
  unfold lesser
  split
  · exact List.lt_irrefl b
  · rename_i h; exact h
theorem le_tr {a b c : List Nat} (h : ¬ b < a) (g : ¬ c < b) : ¬ c < a := List.le_trans (show a ≤ b from h) (show b ≤ c from g)
theorem le_asym {a b : List Nat} (h : ¬ b < a) (g : ¬ a < b) : a = b := List.le_antisymm (show a ≤ b from h) (show b ≤ a from g)
theorem leastOf_le : ∀ (r : List (List Nat)) (a : List Nat), ∀ x ∈ a :: r, ¬ x < leastOf a r
  | [], a, x, hx => by rw [List.mem_singleton.mp hx]; exact List.lt_irrefl a
  | b :: r, a, x, hx => by
    show ¬ x < leastOf (lesser a b) r
    have h0 := leastOf_le r (lesser a b) (lesser a b) List.mem_cons_self
    rcases List.mem_cons.mp hx with e | hx
    · rw [e]; exact le_tr h0 (lesser_le_left a b)
    · rcases List.mem_cons.mp hx with e | hx
      · rw [e]; exact le_tr h0 (lesser_le_right a b)
      · exact leastOf_le r (lesser a b) x (List.mem_cons_of_mem _ hx)
theorem rot_zero (c : List Nat) : rot c 0 = c := by unfold rot; simp
theorem rot_all (c : List Nat) : rot c c.length = c := by unfold rot; simp
theorem ringC_le (c : List Nat) (k : Nat) (hk : k ≤ c.length) : ¬ rot c k < ringC c := by
  have h := leastOf_le (rots c (c.length - 1)) c
  by_cases z : k = 0
  · rw [z, rot_zero]; exact h c List.mem_cons_self
  · by_cases z2 : k = c.length
    · rw [z2, rot_all]; exact h c List.mem_cons_self
    · refine h _ (List.mem_cons_of_mem _ ?_)
      unfold rots
      exact List.mem_map.mpr ⟨k - 1, List.mem_range.mpr (by omega), by rw [show k - 1 + 1 = k by omega]⟩
theorem ringC_some (c : List Nat) : ∃ k, k ≤ c.length ∧ ringC c = rot c k := by
  rcases leastOf_in (rots c (c.length - 1)) c with h | h
  · exact ⟨0, Nat.zero_le _, by show leastOf _ _ = _; rw [h, rot_zero]⟩
  · unfold rots at h
    obtain ⟨k, hk, e⟩ := List.mem_map.mp h
    have := List.mem_range.mp hk
    exact ⟨k + 1, by omega, e.symm⟩
theorem ringC_is {c m : List Nat} (h1 : ∃ k, k ≤ c.length ∧ m = rot c k) (h2 : ∀ k, k ≤ c.length → ¬ rot c k < m) : ringC c = m := by
  obtain ⟨k, hk, e⟩ := h1
  obtain ⟨j, hj, e2⟩ := ringC_some c
  refine le_asym ?_ ?_
  · rw [e]; exact ringC_le c k hk
  · rw [e2]; exact h2 j hj
theorem rot_app (a b : List Nat) : rot (a ++ b) a.length = b ++ a := by unfold rot; rw [List.drop_left, List.take_left]
theorem rot_rot {c : List Nat} {k j : Nat} (hk : k ≤ c.length) (hj : j ≤ c.length) : ∃ i, i ≤ c.length ∧ rot (rot c k) j = rot c i := by
  by_cases z : j ≤ c.length - k
  · refine ⟨k + j, by omega, ?_⟩
    unfold rot
    rw [List.drop_append_of_le_length (by rw [List.length_drop]; omega), List.take_append_of_le_length (by rw [List.length_drop]; omega), List.drop_drop, List.append_assoc, ← List.take_add]
  · refine ⟨j - (c.length - k), by omega, ?_⟩
    unfold rot
    have e1 : (c.drop k).length = c.length - k := List.length_drop
    rw [List.drop_append, List.take_append, e1, List.drop_of_length_le (by rw [e1]; omega), List.take_of_length_le (l := c.drop k) (by rw [e1]; omega), List.nil_append, List.drop_take, List.take_take]
    have e2 : min (j - (c.length - k)) k = j - (c.length - k) := by omega
    rw [e2]
    have e3 : c.drop (j - (c.length - k)) = (c.drop (j - (c.length - k))).take (k - (j - (c.length - k))) ++ c.drop k := by
      have := List.take_append_drop (k - (j - (c.length - k))) (c.drop (j - (c.length - k)))
      rw [List.drop_drop] at this
      have e : j - (c.length - k) + (k - (j - (c.length - k))) = k := by omega
      rw [e] at this
      exact this.symm
    rw [e3, List.append_assoc]
    congr 2
    exact e3.symm
theorem ringC_rotd {c : List Nat} {k : Nat} (hk : k ≤ c.length) : ringC (rot c k) = ringC c := by
  refine (ringC_is (c := c) ?_ fun j hj => ?_).symm
  · obtain ⟨j, hj, e⟩ := ringC_some (rot c k)
    rw [rot_len] at hj
    rw [e]
    exact rot_rot hk hj
  · have hb : c = rot (rot c k) (c.length - k) := by
      have e : rot c k = c.drop k ++ c.take k := rfl
      have := rot_app (c.drop k) (c.take k)
      rw [List.length_drop, ← e] at this
      rw [this, List.take_append_drop]
    obtain ⟨i, hi, e⟩ := rot_rot (c := rot c k) (k := c.length - k) (j := j) (by rw [rot_len]; omega) (by rw [rot_len]; exact hj)
    rw [← hb] at e
    rw [e]
    exact ringC_le _ i hi
theorem ringC_swap (a b : List Nat) : ringC (a ++ b) = ringC (b ++ a) := by
  rw [← rot_app a b]
  exact (ringC_rotd (by rw [List.length_append]; omega)).symm
/-- one letter goes from the beginning to the end -/
theorem ne_sym {a b : Nat} (ha : Lt a) (hb : Lt b) (h : a ≠ ctr b) : b ≠ ctr a := fun z => h (by rw [z, ctr_ctr ha])
theorem core_same {l : List Nat} (h : ∀ a m y, l = a :: (m ++ [y]) → a ≠ ctr y) : core l = l := by
  by_cases z : l.length < 2
  · exact core_short z
  · obtain ⟨a, m, y, rfl⟩ := ends2 (l := l) (by omega)
    exact core_stop (h a m y rfl)
theorem rdd_cons {c d : Nat} {r : List Nat} (h : Rdd (d :: r)) (hc : c ≠ ctr d) : Rdd (c :: d :: r) := ⟨hc, h⟩
theorem one_on {c : Nat} {t : List Nat} (hc : Lt c) (ht : AllLt t) : ringC (core (red (c :: t))) = ringC (core (red (t ++ [c]))) := by
  have e1 : red (c :: t) = red (c :: red t) := red_right [c] ht
  have e2 : red (t ++ [c]) = red (red t ++ [c]) := red_left [c] ht
  rw [e1, e2]
  have hr : Rdd (red t) := red_rdd t
  have hrl : AllLt (red t) := red_lt ht
  generalize red t = r at hr hrl
  cases r with
  | nil => rfl
  | cons d s =>
    have hd : Lt d := hrl d List.mem_cons_self
    have hsl : AllLt s := fun x hx => hrl x (List.mem_cons_of_mem _ hx)
    obtain ⟨m, e, hme⟩ : ∃ m e, d :: s = m ++ [e] := by
      rcases snoc_cases (d :: s) with z | ⟨m, e, z⟩
      · cases z
      · exact ⟨m, e, z⟩
    have hel : Lt e := hrl e (by rw [hme]; simp)
    have last : (d :: s).getLast? = some e := by rw [hme]; simp
    by_cases hcd : c = ctr d
    · have f1 : red (c :: d :: s) = s := by
        have := red_pair (a := []) (b := s) hd hcd
        rw [List.nil_append, List.nil_append] at this
        rw [this, red_same hr.tail]
      rw [f1]
      by_cases hec : e = ctr c
      · have f2 : red (d :: s ++ [c]) = m := by
          rw [hme, List.append_assoc]
          have := red_pair (a := m) (b := []) hc hec
          rw [List.append_nil] at this
          show red (m ++ e :: c :: []) = m
          rw [this, red_same]
          rw [hme] at hr
          exact hr.init.1
        rw [f2]
        have hed : e = d := by rw [hec, hcd, ctr_ctr hd]
        subst hed
        cases m with
        | nil =>
          have : s = [] := by cases hme; rfl
          rw [this]
        | cons x m' =>
          have hx : x = e ∧ s = m' ++ [e] := by
            have := hme
            rw [List.cons_append] at this
            injection this with h1 h2
            exact ⟨h1.symm, h2⟩
          obtain ⟨rfl, rfl⟩ := hx
          have k1 : core (m' ++ [x]) = m' ++ [x] := core_same fun a mm y z => by
            cases m' with
            | nil => simp at z
            | cons a' m'' =>
              rw [List.cons_append] at z
              injection z with z1 z2
              have z3 : y = x := by
                have := congrArg List.getLast? z2
                simpa using this.symm
              rw [← z1, z3]
              exact ne_sym hd (hsl a' (by simp)) hr.1
          have k2 : core (x :: m') = x :: m' := core_same fun a mm y z => by
            injection z with z1 z2
            rw [← z1]
            subst z2
            have := hr.tail
            rw [List.append_assoc] at this
            have h4 : Rdd ((mm ++ [y]) ++ [x]) := by rw [List.append_assoc]; exact this
            have h5 := h4.init.2
            intro z
            exact h5 (by rw [z, List.getLast?_concat, ctr_ctr (hsl y (by simp))])
          rw [k1, k2]
          exact ringC_swap m' [x]
      · have f2 : red (d :: s ++ [c]) = d :: s ++ [c] := red_same (hr.snoc (by rw [last]; intro z; exact hec (by injection z)))
        rw [f2]
        have : core (d :: (s ++ [c])) = core s := core_go (by rw [hcd, ctr_ctr hd])
        rw [List.cons_append, this]
    · have f1 : red (c :: d :: s) = c :: d :: s := red_same (rdd_cons hr hcd)
      rw [f1]
      by_cases hec : e = ctr c
      · have f2 : red (d :: s ++ [c]) = m := by
          rw [hme, List.append_assoc]
          have := red_pair (a := m) (b := []) hc hec
          rw [List.append_nil] at this
          show red (m ++ e :: c :: []) = m
          rw [this, red_same]
          rw [hme] at hr
          exact hr.init.1
        rw [f2, hme, core_go (by rw [hec, ctr_ctr hc])]
      · have f2 : red (d :: s ++ [c]) = d :: s ++ [c] := red_same (hr.snoc (by rw [last]; intro z; exact hec (by injection z)))
        rw [f2]
        have k1 : core (c :: d :: s) = c :: d :: s := by
          rw [hme]
          exact core_stop (ne_sym hel hc hec)
        have k2 : core (d :: s ++ [c]) = d :: s ++ [c] := by
          rw [List.cons_append]
          exact core_stop (ne_sym hc hd hcd)
        rw [k1, k2]
        exact ringC_swap [c] (d :: s)
theorem ring_swap : ∀ {u v : List Nat}, AllLt u → AllLt v → ringM (u ++ v) = ringM (v ++ u)
  | [], v, _, _ => by rw [List.append_nil]; rfl
  | c :: u, v, hu, hv => by
    have hc : Lt c := hu c List.mem_cons_self
    have hu' : AllLt u := fun x hx => hu x (List.mem_cons_of_mem _ hx)
    have e1 : ringM (c :: u ++ v) = ringM (u ++ v ++ [c]) := by
      rw [ringM_eq, ringM_eq]
      exact one_on hc (hu'.app hv)
    have e2 := ring_swap (u := u) (v := v ++ [c]) hu' (hv.app fun x hx => by rw [List.mem_singleton.mp hx]; exact hc)
    rw [e1, List.append_assoc, e2, List.append_assoc]
    rfl
/-! yards: letters, bands, what goes round -/
def letters : List Nat := [97, 98, 99, 100, 101, 102, 103, 104, 105, 106, 107, 108, 109, 110, 111, 112, 113, 114, 115, 116, 117, 118, 119, 120, 121, 122, 65, 66, 67, 68, 69, 70, 71, 72, 73, 74, 75, 76, 77, 78, 79, 80, 81, 82, 83, 84, 85, 86, 87, 88, 89, 90]
theorem nd_ix {l : List Nat} (h : l.Nodup) {i j : Nat} (hi : i < l.length) (hj : j < l.length) (e : l[i] = l[j]) : i = j := by
  have hp := List.pairwise_iff_getElem.mp h
  rcases Nat.lt_trichotomy i j with z | z | z
  · exact absurd e (hp i j hi hj z)
  · exact z
  · exact absurd e.symm (hp j i hj hi z)
theorem Lt.letters {c : Nat} (h : Lt c) : c ∈ letters := h.mem
theorem low_of_small : ∀ c ∈ smalls, isLow c = true ∧ PyProof.Rows.lo1 c = c ∧ ctr c ∈ caps := by decide +kernel
theorem low_of_cap : ∀ c ∈ caps, isLow c = false ∧ PyProof.Rows.lo1 c = ctr c ∧ c ∉ smalls ∧ ctr c ∈ smalls := by decide +kernel
theorem cap_small : ∀ c ∈ caps, c ∉ smalls := by decide +kernel
theorem isLow_iff {c : Nat} (h : Lt c) : isLow c = decide (c ∈ smalls) := by
  rcases h with h | h
  · rw [(low_of_small c h).1, decide_eq_true h]
  · rw [(low_of_cap c h).1, decide_eq_false (low_of_cap c h).2.2.1]
/-- the ends of some bands -/
def kept (sm : List Nat) (c : Nat) : Bool := decide (PyProof.Rows.lo1 c ∈ sm)
theorem kept_or {sm : List Nat} {c : Nat} (hs : ∀ d ∈ sm, d ∈ smalls) (h : Lt c) : kept sm c = (decide (c ∈ sm) || decide (ctr c ∈ sm)) := by
  unfold kept
  rcases h with h | h
  · obtain ⟨_, e, e2⟩ := low_of_small c h
    have : ctr c ∉ sm := fun z => cap_small _ e2 (hs _ z)
    rw [e, decide_eq_false this, Bool.or_false]
  · obtain ⟨_, e, e2, _⟩ := low_of_cap c h
    have : c ∉ sm := fun z => e2 (hs _ z)
    rw [e, decide_eq_false this, Bool.false_or]
theorem kept_ctr {sm : List Nat} {c : Nat} (hs : ∀ d ∈ sm, d ∈ smalls) (h : Lt c) : kept sm (ctr c) = kept sm c := by
  rw [kept_or hs h, kept_or hs h.ctr, ctr_ctr h, Bool.or_comm]
theorem Yd.within {y sm : List Nat} (h : Yd y) (hs : ∀ d ∈ sm, d ∈ smalls) : Yd (y.filter (kept sm)) :=
  ⟨h.nd.filter _, fun c hc => h.lt c (List.mem_filter.mp hc).1, fun c hc => by
    obtain ⟨h1, h2⟩ := List.mem_filter.mp hc
    exact List.mem_filter.mpr ⟨h.cl c h1, by rw [kept_ctr hs (h.lt c h1)]; exact h2⟩⟩
def cyc (i j k : Nat) : Prop := (i < j ∧ j < k) ∨ (j < k ∧ k < i) ∨ (k < i ∧ i < j)
instance (i j k : Nat) : Decidable (cyc i j k) := by unfold cyc; infer_instance
/-- of just as many, sorted, the same -/
theorem sorted_eq {a b : List Nat} (h : a.Perm b) (ha : a.Pairwise (· ≤ ·)) (hb : b.Pairwise (· ≤ ·)) : a = b :=
  List.Perm.eq_of_pairwise (le := fun x y => x ≤ y) (fun _ _ _ _ h1 h2 => Nat.le_antisymm h1 h2) ha hb h
theorem within_bands {y sm : List Nat} (h : Yd y) (hs : ∀ d ∈ sm, d ∈ smalls) (hn : sm.Nodup) (hy : ∀ d ∈ sm, d ∈ y) : ((y.filter (kept sm)).filter isLow).Perm sm := by
  refine (List.perm_ext_iff_of_nodup ((h.nd.filter _).filter _) hn).mpr fun c => ?_
  rw [List.mem_filter, List.mem_filter]
  constructor
  · rintro ⟨⟨h1, h2⟩, h3⟩
    rw [isLow_iff (h.lt c h1)] at h3
    have hc : c ∈ smalls := of_decide_eq_true h3
    unfold kept at h2
    rw [(low_of_small c hc).2.1] at h2
    exact of_decide_eq_true h2
  · intro hc
    have h1 := hs c hc
    refine ⟨⟨hy c hc, ?_⟩, (low_of_small c h1).1⟩
    unfold kept
    rw [(low_of_small c h1).2.1]
    exact decide_eq_true hc
/-! specs of the yards' own -/
def sp_bands (_ : PySem.W.Frag) : Sp := fun vs H Q _ => ∃ l : List Nat, vs = [.str (S l)] ∧ (∀ c ∈ l, c < 128) ∧ l.length < 64 ∧ ∀ l' H', l'.Perm (l.filter isLow) → l'.Pairwise (· ≤ ·) → Same H H' → Q (.str (S l')) H'
theorem len_bands {K : PySem.W.Frag} {vs : List V} {H : Hp} {Q : VK} {E : XK} (h : sp_bands K vs H Q E) : vs.length = 1 := by obtain ⟨c, rfl, _⟩ := h; rfl
def sp_within (_ : PySem.W.Frag) : Sp := fun vs H Q _ => ∃ (y sm : List Nat), vs = [.str (S y), .str (S sm)] ∧ (∀ c ∈ y, c < 128) ∧ y.length ≤ 1000 ∧ ∀ H', Same H H' → Q (.str (S (y.filter (kept sm)))) H'
theorem len_within {K : PySem.W.Frag} {vs : List V} {H : Hp} {Q : VK} {E : XK} (h : sp_within K vs H Q E) : vs.length = 2 := by obtain ⟨c, _, rfl, _⟩ := h; rfl
theorem filter_take {p : Nat → Bool} {l : List Nat} {i c : Nat} (h : l[i]? = some c) : (l.take (i + 1)).filter p = (l.take i).filter p ++ if p c = true then [c] else [] := by
  rw [← take_snoc h, List.filter_append]
  congr 1
  by_cases z : p c = true
  · rw [if_pos z, List.filter_cons_of_pos z]; rfl
  · rw [if_neg z, List.filter_cons_of_neg z]; rfl
def ones (l : List Nat) : List (List Nat) := l.map fun c => [c]
theorem sgs_ones (l : List Nat) : sgs l = txs (ones l) := sgs_lists l
theorem dict_txs : ∀ ws : List (List Nat), PyData.hasDictAll (tds ws) = false
  | [] => rfl
  | w :: ws => by show (PyData.hasDict (.str (S w)) || PyData.hasDictAll (tds ws)) = false; rw [dict_txs ws]; rfl
theorem ones_lt {l : List Nat} (h : ∀ c ∈ l, c < 128) : ∀ x ∈ ones l, ∀ c ∈ x, c < 128 := fun x hx c hc => by
  obtain ⟨d, hd, rfl⟩ := List.mem_map.mp hx
  rw [List.mem_singleton.mp hc]; exact h d hd
/-- half of the ends are small -/
theorem half_low {y : List Nat} (h : Yd y) : 2 * (y.filter isLow).length = y.length := by
  have key : ∀ p q : Nat → Bool, (∀ c ∈ y, p c = true → q (ctr c) = true) → (y.filter p).length ≤ (y.filter q).length := fun p q hpq => by
    have hn : ((y.filter p).map ctr).Nodup := by
      show ((y.filter p).map ctr).Pairwise (· ≠ ·)
      rw [List.pairwise_map]
      refine (h.nd.filter p).imp_of_mem fun {a b} ha hb z e => z ?_
      exact ctr_inj (h.lt a (List.mem_filter.mp ha).1) (h.lt b (List.mem_filter.mp hb).1) e
    have := hn.length_le_of_subset (l₂ := y.filter q) fun c hc => by
      obtain ⟨d, hd, rfl⟩ := List.mem_map.mp hc
      obtain ⟨d1, d2⟩ := List.mem_filter.mp hd
      exact List.mem_filter.mpr ⟨h.cl d d1, hpq d d1 d2⟩
    rwa [List.length_map] at this
  have k1 := key isLow (fun c => !isLow c) fun c hc z => by
    rw [isLow_iff (h.lt c hc)] at z
    have hs := of_decide_eq_true z
    rw [(low_of_cap _ (low_of_small c hs).2.2).1]; rfl
  have k2 := key (fun c => !isLow c) isLow fun c hc z => by
    rcases h.lt c hc with q | q
    · rw [(low_of_small c q).1] at z; cases z
    · exact (low_of_small _ (low_of_cap c q).2.2.2).1
  have k3 : (y.filter isLow).length + (y.filter fun c => !isLow c).length = y.length := by
    clear k1 k2 key h
    induction y with
    | nil => rfl
    | cons a r ih =>
      cases hq : isLow a
      · rw [List.filter_cons_of_neg (by simp [hq]), List.filter_cons_of_pos (by simp [hq]), List.length_cons, List.length_cons]; omega
      · rw [List.filter_cons_of_pos hq, List.filter_cons_of_neg (by simp [hq]), List.length_cons, List.length_cons]; omega
  omega
/-! rims: the cycles of a yard's ends -/
theorem step_mod {i n : Nat} (h : i < n) : (i + 1) % n = if i + 1 = n then 0 else i + 1 := by
  by_cases z : i + 1 = n
  · rw [if_pos z, z, Nat.mod_self]
  · rw [if_neg z]; exact Nat.mod_eq_of_lt (by omega)
/-- the next end, going on round the rim -/
def nxt (y : List Nat) (e : Nat) : Nat := y.getD ((y.idxOf e + 1) % y.length) 0
theorem nxt_at {y : List Nat} {e : Nat} (h : e ∈ y) : ∃ hk : (y.idxOf e + 1) % y.length < y.length, nxt y e = y[(y.idxOf e + 1) % y.length] := by
  have hp := List.length_pos_of_mem h
  have hk : (y.idxOf e + 1) % y.length < y.length := Nat.mod_lt _ hp
  exact ⟨hk, by unfold nxt; rw [List.getD_eq_getElem?_getD, List.getElem?_eq_getElem hk]; rfl⟩
theorem nxt_mem {y : List Nat} {e : Nat} (h : e ∈ y) : nxt y e ∈ y := by
  obtain ⟨hk, e2⟩ := nxt_at h
  rw [e2]; exact List.getElem_mem hk
theorem nxt_inj {y : List Nat} {a b : Nat} (hn : y.Nodup) (ha : a ∈ y) (hb : b ∈ y) (e : nxt y a = nxt y b) : a = b := by
  obtain ⟨k1, e1⟩ := nxt_at ha
  obtain ⟨k2, e2⟩ := nxt_at hb
  rw [e1, e2] at e
  have ix := nd_ix hn k1 k2 e
  have ia := List.idxOf_lt_length_of_mem ha
  have ib := List.idxOf_lt_length_of_mem hb
  rw [step_mod ia, step_mod ib] at ix
  have : y.idxOf a = y.idxOf b := by split at ix <;> split at ix <;> omega
  have g1 := List.getElem_idxOf ia
  have g2 := List.getElem_idxOf ib
  rw [← g1, ← g2]
  congr 1
theorem nxt_ne {y : List Nat} {a : Nat} (hn : y.Nodup) (ha : a ∈ y) (h2 : 2 ≤ y.length) : nxt y a ≠ a := by
  obtain ⟨k1, e1⟩ := nxt_at ha
  have ia := List.idxOf_lt_length_of_mem ha
  intro z
  rw [e1] at z
  have g1 := List.getElem_idxOf ia
  have ix := nd_ix hn k1 ia (z.trans g1.symm)
  rw [step_mod ia] at ix
  split at ix <;> omega
/-- where a rim goes on from a letter -/
def tau (y : List Nat) (e : Nat) : Nat := nxt y (ctr e)
theorem tau_mem {y : List Nat} (h : Yd y) {e : Nat} (he : e ∈ y) : tau y e ∈ y := nxt_mem (h.cl e he)
theorem tau_inj {y : List Nat} (h : Yd y) {a b : Nat} (ha : a ∈ y) (hb : b ∈ y) (e : tau y a = tau y b) : a = b :=
  ctr_inj (h.lt a ha) (h.lt b hb) (nxt_inj h.nd (h.cl a ha) (h.cl b hb) e)
/-- step by step by f, and behind the last comes z -/
def Path (f : Nat → Nat) : List Nat → Nat → Prop
  | [], _ => True
  | a :: r, z => f a = r.headD z ∧ Path f r z
theorem head_app (a b : List Nat) (z : Nat) : (a ++ b).headD z = a.headD (b.headD z) := by cases a <;> rfl
theorem path_app {f : Nat → Nat} : ∀ {a b : List Nat} {z : Nat}, Path f (a ++ b) z ↔ Path f a (b.headD z) ∧ Path f b z
  | [], b, z => ⟨fun h => ⟨trivial, h⟩, fun h => h.2⟩
  | c :: a, b, z => by
    show (f c = (a ++ b).headD z ∧ Path f (a ++ b) z) ↔ (f c = a.headD (b.headD z) ∧ Path f a (b.headD z)) ∧ Path f b z
    rw [head_app, path_app (a := a), and_assoc]
theorem path_at {f : Nat → Nat} : ∀ {w : List Nat} {z k a b : Nat}, Path f w z → w[k]? = some a → w[k + 1]? = some b → b = f a
  | [], z, k, a, b, _, h, _ => by cases h
  | c :: r, z, 0, a, b, h, h1, h2 => by
    have e1 : c = a := by simpa using h1
    have e2 : r[0]? = some b := by simpa using h2
    cases r with
    | nil => cases e2
    | cons d r =>
      have e3 : d = b := by simpa using e2
      have := h.1
      rw [← e3, ← e1]
      exact this.symm
  | c :: r, z, k + 1, a, b, h, h1, h2 => path_at h.2 (by simpa using h1) (by simpa using h2)
theorem path_mem {f : Nat → Nat} : ∀ {w : List Nat} {z c : Nat}, Path f w z → c ∈ w → f c ∈ w ∨ f c = z
  | [], z, c, _, h => absurd h List.not_mem_nil
  | a :: r, z, c, h, hc => by
    rcases List.mem_cons.mp hc with e | e
    · subst e
      rw [h.1]
      cases r with
      | nil => exact .inr rfl
      | cons d r => exact .inl (List.mem_cons_of_mem _ List.mem_cons_self)
    · rcases path_mem h.2 e with z | z
      · exact .inl (List.mem_cons_of_mem _ z)
      · exact .inr z
/-- a whole cycle -/
structure Orb (f : Nat → Nat) (w : List Nat) : Prop where
  ne : w ≠ []
  nd : w.Nodup
  pa : Path f w (w.headD 0)
theorem Orb.closed {f : Nat → Nat} {w : List Nat} (h : Orb f w) {c : Nat} (hc : c ∈ w) : f c ∈ w := by
  rcases path_mem h.pa hc with z | z
  · exact z
  · rw [z]
    cases w with
    | nil => exact absurd hc List.not_mem_nil
    | cons a r => exact List.mem_cons_self
theorem path_same {f : Nat → Nat} {c : Nat} : ∀ {r s : List Nat}, Path f r c → Path f s c → c ∉ r → c ∉ s → r.headD c = s.headD c → r = s
  | [], [], _, _, _, _, _ => rfl
  | [], b :: s, _, _, _, hs, e => absurd (show c = b from e) fun z => hs (z ▸ List.mem_cons_self)
  | a :: r, [], _, _, hr, _, e => absurd (show a = c from e) fun z => hr (z ▸ List.mem_cons_self)
  | a :: r, b :: s, h1, h2, hr, hs, e => by
    have e' : a = b := e
    subst e'
    rw [path_same h1.2 h2.2 (fun z => hr (List.mem_cons_of_mem _ z)) (fun z => hs (List.mem_cons_of_mem _ z)) (h1.1.symm.trans h2.1)]
/-- begun at one of its letters -/
theorem Orb.begun {f : Nat → Nat} {a b : List Nat} {c : Nat} (h : Orb f (a ++ c :: b)) : Orb f (c :: b ++ a) := by
  refine ⟨by simp, (List.perm_append_comm.nodup_iff).mp h.nd, ?_⟩
  have hp := h.pa
  rw [head_app] at hp
  rw [path_app] at hp
  show Path f (c :: b ++ a) c
  rw [path_app]
  exact ⟨hp.2, hp.1⟩
theorem Orb.one {f : Nat → Nat} {c : Nat} {r s : List Nat} (h : Orb f (c :: r)) (g : Orb f (c :: s)) : r = s :=
  path_same h.pa.2 g.pa.2 (List.nodup_cons.mp h.nd).1 (List.nodup_cons.mp g.nd).1 (h.pa.1.symm.trans g.pa.1)
theorem Orb.ring {f : Nat → Nat} {u v : List Nat} {c : Nat} (h : Orb f u) (g : Orb f v) (hu : c ∈ u) (hv : c ∈ v) (lu : AllLt u) (lv : AllLt v) : ringM u = ringM v ∧ ∀ d, d ∈ u ↔ d ∈ v := by
  obtain ⟨a, b, rfl⟩ := List.append_of_mem hu
  obtain ⟨a2, b2, rfl⟩ := List.append_of_mem hv
  have e : b ++ a = b2 ++ a2 := h.begun.one g.begun
  constructor
  · rw [ring_swap lu.left lu.right, ring_swap lv.left lv.right]
    show ringM (c :: (b ++ a)) = ringM (c :: (b2 ++ a2))
    rw [e]
  · intro d
    have m1 : d ∈ a ++ c :: b ↔ d = c ∨ d ∈ b ++ a := by simp only [List.mem_append, List.mem_cons]; constructor <;> (intro z; rcases z with z | z | z <;> simp [z])
    have m2 : d ∈ a2 ++ c :: b2 ↔ d = c ∨ d ∈ b2 ++ a2 := by simp only [List.mem_append, List.mem_cons]; constructor <;> (intro z; rcases z with z | z | z <;> simp [z])
    rw [m1, m2, e]
/-- a cycle of letters of a yard is a shortest word -/
theorem Orb.shortest {y w : List Nat} (h : Yd y) (h2 : 2 ≤ y.length) (o : Orb (tau y) w) (hw : ∀ c ∈ w, c ∈ y) : core (red w) = w := by
  have key : ∀ {a b : Nat}, a ∈ w → b = tau y a → a ≠ ctr b := fun {a b} ha e z => by
    have hy := hw a ha
    have e2 : ctr a = b := by rw [z, ctr_ctr (by rw [e]; exact h.lt _ (tau_mem h hy))]
    exact nxt_ne h.nd (h.cl a hy) h2 (show tau y a = ctr a by rw [e2, e])
  have hr : red w = w := red_same (rdd_of fun k a b e1 e2 => key (List.mem_of_getElem? e1) (path_at o.pa e1 e2))
  rw [hr]
  refine core_same fun a m z e => ?_
  have hp := o.pa
  rw [e] at hp
  have hp2 : Path (tau y) ((a :: m) ++ [z]) a := hp
  rw [path_app] at hp2
  have e3 : tau y z = a := hp2.2.1
  have hz : z ∈ w := by rw [e]; simp
  intro q
  have hzy := hw z hz
  exact nxt_ne h.nd (h.cl z hzy) h2 (by show tau y z = ctr z; rw [e3, q])
theorem Orb.ringC {y w : List Nat} (h : Yd y) (h2 : 2 ≤ y.length) (o : Orb (tau y) w) (hw : ∀ c ∈ w, c ∈ y) : ringM w = ringC w := by rw [ringM_eq, o.shortest h h2 hw]
theorem ringC_mem (w : List Nat) (c : Nat) : c ∈ ringC w ↔ c ∈ w := by
  obtain ⟨k, e⟩ := ringC_rot w
  rw [e]
  unfold rot
  constructor
  · intro z; exact (List.mem_append.mp z).elim List.mem_of_mem_drop List.mem_of_mem_take
  · intro z
    rw [← List.take_append_drop k w] at z
    exact (List.mem_append.mp z).elim (List.mem_append_right _) (List.mem_append_left _)
/-- all the cycles -/
structure Parts (y : List Nat) (ws : List (List Nat)) : Prop where
  orb : ∀ w ∈ ws, Orb (tau y) w ∧ ∀ c ∈ w, c ∈ y
  dis : ws.Pairwise fun u v => ∀ c, c ∈ u → c ∉ v
  all : ∀ c ∈ y, ∃ w ∈ ws, c ∈ w
theorem Parts.ringNd {y : List Nat} {ws : List (List Nat)} (h : Yd y) (h2 : 2 ≤ y.length) (orb : ∀ w ∈ ws, Orb (tau y) w ∧ ∀ c ∈ w, c ∈ y) (dis : ws.Pairwise fun u v => ∀ c, c ∈ u → c ∉ v) : (ws.map ringM).Nodup := by
  show (ws.map ringM).Pairwise (· ≠ ·)
  rw [List.pairwise_map]
  refine dis.imp_of_mem fun {u v} hu hv d e => ?_
  obtain ⟨ou, uy⟩ := orb u hu
  obtain ⟨ov, vy⟩ := orb v hv
  cases hq : u with
  | nil => exact ou.ne hq
  | cons c r =>
    have hc : c ∈ u := by rw [hq]; exact List.mem_cons_self
    rw [ou.ringC h h2 uy, ov.ringC h h2 vy] at e
    have := (ringC_mem u c).mpr hc
    rw [e, ringC_mem] at this
    exact d c hc this
theorem Parts.perm {y : List Nat} {ws us : List (List Nat)} (h : Yd y) (h2 : 2 ≤ y.length) (a : Parts y ws) (b : Parts y us) : (ws.map ringM).Perm (us.map ringM) := by
  have lt : ∀ {w : List Nat}, (∀ c ∈ w, c ∈ y) → AllLt w := fun {w} hw c hc => h.lt c (hw c hc)
  have one : ∀ {ws us : List (List Nat)}, Parts y ws → Parts y us → ∀ x ∈ ws.map ringM, x ∈ us.map ringM := fun {ws us} a b x hx => by
    obtain ⟨w, hw, rfl⟩ := List.mem_map.mp hx
    obtain ⟨ow, wy⟩ := a.orb w hw
    cases hq : w with
    | nil => exact absurd hq ow.ne
    | cons c r =>
      have hc : c ∈ w := by rw [hq]; exact List.mem_cons_self
      obtain ⟨u, hu, cu⟩ := b.all c (wy c hc)
      obtain ⟨ou, uy⟩ := b.orb u hu
      rw [← hq, (ow.ring ou hc cu (lt wy) (lt uy)).1]
      exact List.mem_map.mpr ⟨u, hu, rfl⟩
  exact (List.perm_ext_iff_of_nodup (Parts.ringNd h h2 a.orb a.dis) (Parts.ringNd h h2 b.orb b.dis)).mpr fun x => ⟨one a b x, one b a x⟩
/-- a way that has not come back yet -/
structure Way (y w : List Nat) : Prop where
  nd : w.Nodup
  iny : ∀ c ∈ w, c ∈ y
  pa : ∀ z, w ≠ [] → tau y (w.getLastD 0) = z → Path (tau y) w z
theorem getLastD_snoc (w : List Nat) (c d : Nat) : (w ++ [c]).getLastD d = c := by simp [List.getLastD_eq_getLast?]
theorem Way.more {y w : List Nat} (h : Yd y) (o : Way y w) (hne : w ≠ []) (hb : tau y (w.getLastD 0) ≠ w.headD 0) : Way y (w ++ [tau y (w.getLastD 0)]) := by
  obtain ⟨m, l, e⟩ : ∃ m l, w = m ++ [l] := by
    rcases snoc_cases w with z | z
    · exact absurd z hne
    · exact z
  have hl : w.getLastD 0 = l := by rw [e, getLastD_snoc]
  rw [hl] at hb ⊢
  have hlw : l ∈ w := by rw [e]; simp
  have hly := o.iny l hlw
  have hP := o.pa (tau y l) hne (by rw [hl])
  have hnew : tau y l ∉ w := fun z => by
    -- what comes there a second time comes from the same one
    obtain ⟨i, hi, ei⟩ := List.mem_iff_getElem.mp z
    cases i with
    | zero =>
      apply hb
      cases w with
      | nil => exact absurd rfl hne
      | cons a r => exact ei.symm
    | succ i =>
      have e1 : w[i]? = some w[i] := List.getElem?_eq_getElem (by omega)
      have e2 : w[i + 1]? = some w[i + 1] := List.getElem?_eq_getElem hi
      have e3 := path_at hP e1 e2
      rw [ei] at e3
      have e4 := tau_inj h hly (o.iny _ (List.getElem_mem _)) e3
      have hlen : w.length = m.length + 1 := by rw [e]; simp
      have e5 : w[m.length]'(by omega) = l := by simp [e]
      have := nd_ix o.nd (by omega) (by omega) (e5.trans e4)
      omega
  refine ⟨?_, fun c hc => ?_, fun z _ hz => ?_⟩
  · rw [List.nodup_append]
    refine ⟨o.nd, List.nodup_cons.mpr ⟨List.not_mem_nil, List.nodup_nil⟩, fun a ha b hb2 q => ?_⟩
    rw [List.mem_singleton.mp hb2] at q
    exact hnew (q ▸ ha)
  · rcases List.mem_append.mp hc with q | q
    · exact o.iny c q
    · rw [List.mem_singleton.mp q]; exact tau_mem h hly
  · rw [path_app]
    rw [getLastD_snoc] at hz
    exact ⟨hP, hz, trivial⟩
theorem Way.one {y : List Nat} {c : Nat} (hc : c ∈ y) : Way y [c] := ⟨List.nodup_cons.mpr ⟨List.not_mem_nil, List.nodup_nil⟩, fun d hd => by rw [List.mem_singleton.mp hd]; exact hc, fun z _ hz => ⟨hz, trivial⟩⟩
theorem Way.back {y w : List Nat} (o : Way y w) (hne : w ≠ []) (hb : tau y (w.getLastD 0) = w.headD 0) : Orb (tau y) w := ⟨hne, o.nd, o.pa _ hne hb⟩
theorem Way.len {y w : List Nat} (o : Way y w) : w.length ≤ y.length := o.nd.length_le_of_subset fun c hc => o.iny c hc
/-! paths and cycles -/
theorem path_of {f : Nat → Nat} : ∀ {w : List Nat} {z : Nat}, (∀ i a, w[i]? = some a → f a = (w[i + 1]?).getD z) → Path f w z
  | [], _, _ => trivial
  | a :: r, z, h => by
    refine ⟨?_, path_of fun i b hb => h (i + 1) b (by simpa using hb)⟩
    have := h 0 a rfl
    rw [this]
    cases r with
    | nil => rfl
    | cons b r => rfl
theorem path_fun {f g : Nat → Nat} : ∀ {w : List Nat} {z : Nat}, Path f w z → Path g w z → ∀ c ∈ w, f c = g c
  | [], _, _, _, _, h => absurd h List.not_mem_nil
  | a :: r, z, h1, h2, c, hc => by
    rcases List.mem_cons.mp hc with e | e
    · rw [e, h1.1, h2.1]
    · exact path_fun h1.2 h2.2 c e
theorem path_congr {f g : Nat → Nat} : ∀ {w : List Nat} {z : Nat}, Path f w z → (∀ c ∈ w, g c = f c) → Path g w z
  | [], _, _, _ => trivial
  | a :: r, z, h, e => ⟨by rw [e a List.mem_cons_self]; exact h.1, path_congr h.2 fun c hc => e c (List.mem_cons_of_mem _ hc)⟩
theorem orb_nxt {y : List Nat} (hn : y.Nodup) (hy : y ≠ []) : Orb (nxt y) y := by
  refine ⟨hy, hn, path_of fun i a h => ?_⟩
  obtain ⟨hi, e⟩ := List.getElem?_eq_some_iff.mp h
  have ha : a ∈ y := List.mem_of_getElem? h
  obtain ⟨hk, e2⟩ := nxt_at ha
  have hx : y.idxOf a = i := nd_ix hn (List.idxOf_lt_length_of_mem ha) hi ((List.getElem_idxOf _).trans e.symm)
  have e3 : nxt y a = y[(i + 1) % y.length]'(Nat.mod_lt _ (by omega)) := by rw [e2]; congr 2; rw [hx]
  rw [e3]
  by_cases z : i + 1 < y.length
  · rw [List.getElem?_eq_getElem z]
    show _ = y[i + 1]
    congr 1
    exact Nat.mod_eq_of_lt z
  · rw [List.getElem?_eq_none (by omega)]
    have e4 : (i + 1) % y.length = 0 := by rw [show i + 1 = y.length by omega, Nat.mod_self]
    cases y with
    | nil => exact absurd rfl hy
    | cons b r =>
      show (b :: r)[(i + 1) % (b :: r).length]'_ = b
      simp only [e4]
      rfl
/-! k10's own -/
theorem S_inj {a b : List Nat} (h : S a = S b) : a = b := by rw [← S_list a, h, S_list]
def tk (e : Nat) : Key := Sum.inr (S [e])
theorem tk_inj {a b : Nat} (h : tk a = tk b) : a = b := by
  have := S_inj (Sum.inr.inj h)
  simpa using this
def sp_next_end (_ : PySem.W.Frag) : Sp := fun vs H Q _ => ∃ (y : List Nat) (e : Nat), vs = [.str (S y), .str (S [e])] ∧ e ∈ y ∧ y.length ≤ 1000 ∧ Q (.str (S [nxt y e])) H
theorem len_next_end {K : PySem.W.Frag} {vs : List V} {H : Hp} {Q : VK} {E : XK} (h : sp_next_end K vs H Q E) : vs.length = 2 := by obtain ⟨c, _, rfl, _⟩ := h; rfl
def sp_rim_behind (_ : PySem.W.Frag) : Sp := fun vs H Q _ => ∃ (y : List Nat) (e : Nat), vs = [.str (S y), .str (S [e])] ∧ Yd y ∧ e ∈ y ∧ y.length ≤ 100 ∧ ∀ w, Orb (tau y) w → (∀ c ∈ w, c ∈ y) → ctr e ∈ w → Q (.str (S w)) H
theorem len_rim_behind {K : PySem.W.Frag} {vs : List V} {H : Hp} {Q : VK} {E : XK} (h : sp_rim_behind K vs H Q E) : vs.length = 2 := by obtain ⟨c, _, rfl, _⟩ := h; rfl
def RimsAre (y : List Nat) (L : List (List Nat)) : Prop := ∃ ws, Parts y ws ∧ L.Perm (ws.map ringM) ∧ L.Pairwise fun a b => ¬ b < a
theorem RimsAre.same {y : List Nat} {L M : List (List Nat)} (h : Yd y) (h2 : 2 ≤ y.length) (a : RimsAre y L) (b : RimsAre y M) : L = M := by
  obtain ⟨ws, p1, q1, r1⟩ := a
  obtain ⟨us, p2, q2, r2⟩ := b
  exact List.Perm.eq_of_pairwise (le := fun a b => ¬ b < a) (fun _ _ _ _ h1 h2 => le_asym h1 h2) r1 r2 ((q1.trans (p1.perm h h2 p2)).trans q2.symm)
theorem RimsAre.lt {y : List Nat} {L : List (List Nat)} (h : Yd y) (a : RimsAre y L) : ∀ l ∈ L, ∀ c ∈ l, c < 128 := fun l hl c hc => by
  obtain ⟨ws, p, q, r⟩ := a
  obtain ⟨w, hw, rfl⟩ := List.mem_map.mp (q.mem_iff.mp hl)
  exact (ringM_lt (fun d hd => h.lt d ((p.orb w hw).2 d hd)) c hc).lt
theorem RimsAre.few {y : List Nat} {L : List (List Nat)} (a : RimsAre y L) : L.length ≤ y.length ∧ ∀ l ∈ L, l.length ≤ y.length := by
  obtain ⟨ws, p, q, r⟩ := a
  constructor
  · rw [q.length_eq, List.length_map]
    have key : ∀ (ws : List (List Nat)), (∀ w ∈ ws, w ≠ [] ∧ w.Nodup ∧ ∀ c ∈ w, c ∈ y) → (ws.Pairwise fun u v => ∀ c, c ∈ u → c ∉ v) → ws.flatten.Nodup ∧ (∀ c ∈ ws.flatten, c ∈ y) ∧ ws.length ≤ ws.flatten.length := by
      intro ws
      induction ws with
      | nil => intro _ _; exact ⟨List.nodup_nil, fun _ h => absurd h List.not_mem_nil, Nat.le_refl _⟩
      | cons w ws ih =>
        intro h d
        obtain ⟨h1, h2⟩ := List.pairwise_cons.mp d
        obtain ⟨i1, i2, i3⟩ := ih (fun u hu => h u (List.mem_cons_of_mem _ hu)) h2
        obtain ⟨g1, g2, g3⟩ := h w List.mem_cons_self
        refine ⟨?_, fun c hc => ?_, ?_⟩
        · rw [List.flatten_cons, List.nodup_append]
          refine ⟨g2, i1, fun a ha b hb z => ?_⟩
          subst z
          obtain ⟨u, hu, hau⟩ := List.mem_flatten.mp hb
          exact h1 u hu a ha hau
        · rw [List.flatten_cons] at hc
          exact (List.mem_append.mp hc).elim (g3 c) (i2 c)
        · rw [List.flatten_cons, List.length_append, List.length_cons]
          have := List.length_pos_iff.mpr g1
          omega
    obtain ⟨k1, k2, k3⟩ := key ws (fun w hw => ⟨(p.orb w hw).1.ne, (p.orb w hw).1.nd, (p.orb w hw).2⟩) p.dis
    exact Nat.le_trans k3 (k1.length_le_of_subset fun c hc => k2 c hc)
  · intro l hl
    obtain ⟨w, hw, rfl⟩ := List.mem_map.mp (q.mem_iff.mp hl)
    exact Nat.le_trans (ringM_len w) ((p.orb w hw).1.nd.length_le_of_subset fun c hc => (p.orb w hw).2 c hc)
def sp_rims (_ : PySem.W.Frag) : Sp := fun vs H Q _ => ∃ y : List Nat, vs = [.str (S y)] ∧ Yd y ∧ 2 ≤ y.length ∧ y.length ≤ 8 ∧ ∀ (q : Addr) (L : List (List Nat)) (H' : Hp), RimsAre y L → H q = none → H' q = some (.lst (txs L)) → Same H H' → Q (.ref q) H'
theorem len_rims {K : PySem.W.Frag} {vs : List V} {H : Hp} {Q : VK} {E : XK} (h : sp_rims K vs H Q E) : vs.length = 1 := by obtain ⟨c, rfl, _⟩ := h; rfl
def sp_handles (_ : PySem.W.Frag) : Sp := fun vs H Q _ => ∃ y : List Nat, vs = [.str (S y)] ∧ Yd y ∧ 2 ≤ y.length ∧ y.length ≤ 8 ∧ ∀ (L : List (List Nat)) (H' : Hp), RimsAre y L → Same H H' → Q (.int ((((y.length : Int) / 2) + 1 - (L.length : Int)) / 2)) H'
theorem len_handles {K : PySem.W.Frag} {vs : List V} {H : Hp} {Q : VK} {E : XK} (h : sp_handles K vs H Q E) : vs.length = 1 := by obtain ⟨c, rfl, _⟩ := h; rfl
/-- on the way along a rim -/
structure RimW (y : List Nat) (e : Nat) (w : List Nat) (pl : Nat) : Prop where
  way : Way y w
  ply : pl ∈ y
  no : w = [] → pl = e
  hd : w ≠ [] → w.headD 0 = nxt y e ∧ pl = ctr (w.getLastD 0)
theorem Way.nil (y : List Nat) : Way y [] := ⟨List.nodup_nil, fun _ h => absurd h List.not_mem_nil, fun _ h _ => absurd rfl h⟩
theorem RimW.start {y : List Nat} {e : Nat} (he : e ∈ y) : RimW y e [] e := ⟨Way.nil y, he, fun _ => rfl, fun h => absurd rfl h⟩
theorem head_snoc {w : List Nat} {c d : Nat} (h : w ≠ []) : (w ++ [c]).headD d = w.headD d := by cases w with
  | nil => exact absurd rfl h
  | cons a r => rfl
theorem RimW.turn {y w : List Nat} {e pl : Nat} (h : Yd y) (he : e ∈ y) (r : RimW y e w pl) (go : w = [] ∨ pl ≠ e) : RimW y e (w ++ [nxt y pl]) (ctr (nxt y pl)) := by
  have hm := nxt_mem r.ply
  by_cases z : w = []
  · have e1 := r.no z
    subst z
    exact ⟨Way.one hm, h.cl _ hm, fun q => absurd q (by simp), fun _ => ⟨by rw [← e1]; rfl, rfl⟩⟩
  · obtain ⟨h1, h2⟩ := r.hd z
    have hne := go.resolve_left z
    have e1 : nxt y pl = tau y (w.getLastD 0) := by rw [h2]; rfl
    have hb : tau y (w.getLastD 0) ≠ w.headD 0 := fun q => hne (nxt_inj h.nd r.ply he (by rw [e1, q, h1]))
    rw [e1]
    refine ⟨r.way.more h z hb, h.cl _ (by rw [← e1]; exact hm), fun q => absurd q (by simp), fun _ => ⟨by rw [head_snoc z, h1], by rw [getLastD_snoc]⟩⟩
theorem RimW.stop {y w : List Nat} {e : Nat} (h : Yd y) (r : RimW y e w e) (hne : w ≠ []) : Orb (tau y) w ∧ ctr e ∈ w := by
  obtain ⟨h1, h2⟩ := r.hd hne
  have hl : w.getLastD 0 ∈ w := by
    rcases snoc_cases w with z | ⟨m, a, z⟩
    · exact absurd z hne
    · rw [z, getLastD_snoc]; simp
  refine ⟨r.way.back hne ?_, ?_⟩
  · rw [h1]; unfold tau; rw [← h2]
  · rw [h2, ctr_ctr (h.lt _ (r.way.iny _ hl))]; exact hl
/-- some of the rims -/
structure RimsW (y : List Nat) (i : Nat) (ws : List (List Nat)) : Prop where
  orb : ∀ w ∈ ws, Orb (tau y) w ∧ ∀ c ∈ w, c ∈ y
  dis : ws.Pairwise fun u v => ∀ c, c ∈ u → c ∉ v
  cov : ∀ e ∈ y.take i, ∃ w ∈ ws, ctr e ∈ w
  few : ws.length ≤ i
theorem RimsW.start (y : List Nat) : RimsW y 0 [] := ⟨fun _ h => absurd h List.not_mem_nil, List.Pairwise.nil, fun _ h => absurd h (by simp), Nat.le_refl _⟩
theorem RimsW.skip {y : List Nat} {i e : Nat} {ws : List (List Nat)} (r : RimsW y i ws) (he : y[i]? = some e) (z : ∃ w ∈ ws, ctr e ∈ w) : RimsW y (i + 1) ws :=
  ⟨r.orb, r.dis, fun d hd => by
    rw [← take_snoc he] at hd
    rcases List.mem_append.mp hd with q | q
    · exact r.cov d q
    · rw [List.mem_singleton.mp q]; exact z, Nat.le_succ_of_le r.few⟩
theorem dis_snoc {y c : List Nat} {ws : List (List Nat)} {e : Nat} (h : Yd y) (orb : ∀ w ∈ ws, Orb (tau y) w ∧ ∀ c ∈ w, c ∈ y) (dis : ws.Pairwise fun u v => ∀ c, c ∈ u → c ∉ v) (o : Orb (tau y) c) (hc : ∀ d ∈ c, d ∈ y) (he : e ∈ c) (no : ∀ w ∈ ws, e ∉ w) : (ws ++ [c]).Pairwise fun u v => ∀ c, c ∈ u → c ∉ v := by
  rw [List.pairwise_append]
  refine ⟨dis, List.pairwise_singleton _ _, fun u hu v hv d du dv => ?_⟩
  rw [List.mem_singleton.mp hv] at dv
  obtain ⟨ou, uy⟩ := orb u hu
  exact no u hu (((ou.ring o du dv (fun d hd => h.lt d (uy d hd)) (fun d hd => h.lt d (hc d hd))).2 e).mpr he)
theorem RimsW.turn {y w : List Nat} {i e : Nat} {ws : List (List Nat)} (h : Yd y) (r : RimsW y i ws) (he : y[i]? = some e) (no : ¬ ∃ w ∈ ws, ctr e ∈ w) (o : Orb (tau y) w) (hw : ∀ c ∈ w, c ∈ y) (hc : ctr e ∈ w) : RimsW y (i + 1) (ws ++ [w]) := by
  refine ⟨fun u hu => ?_, dis_snoc h r.orb r.dis o hw hc fun u hu z => no ⟨u, hu, z⟩, fun d hd => ?_, by rw [List.length_append]; exact Nat.succ_le_succ r.few⟩
  · rcases List.mem_append.mp hu with q | q
    · exact r.orb u q
    · rw [List.mem_singleton.mp q]; exact ⟨o, hw⟩
  · rw [← take_snoc he] at hd
    rcases List.mem_append.mp hd with q | q
    · obtain ⟨u, hu, z⟩ := r.cov d q
      exact ⟨u, List.mem_append_left _ hu, z⟩
    · rw [List.mem_singleton.mp q]; exact ⟨w, by simp, hc⟩
theorem RimsW.done {y : List Nat} {ws : List (List Nat)} (h : Yd y) (r : RimsW y y.length ws) : Parts y ws := ⟨r.orb, r.dis, fun c hc => by
  obtain ⟨w, hw, z⟩ := r.cov (ctr c) (by rw [List.take_length]; exact h.cl c hc)
  rw [ctr_ctr (h.lt c hc)] at z
  exact ⟨w, hw, z⟩⟩
/-- by the law: what is left, and the words so far -/
structure LeftW (y l : List Nat) (ws : List (List Nat)) : Prop where
  orb : ∀ w ∈ ws, Orb (tau y) w ∧ ∀ c ∈ w, c ∈ y
  dis : ws.Pairwise fun u v => ∀ c, c ∈ u → c ∉ v
  lft : ∀ c, c ∈ l ↔ c ∈ y ∧ ∀ w ∈ ws, c ∉ w
  few : ws.length + l.length ≤ y.length
theorem LeftW.start (y : List Nat) : LeftW y y [] := ⟨fun _ h => absurd h List.not_mem_nil, List.Pairwise.nil, fun c => ⟨fun h => ⟨h, fun _ h => absurd h List.not_mem_nil⟩, fun h => h.1⟩, by simp⟩
theorem LeftW.turn {y l w : List Nat} {c : Nat} {ws : List (List Nat)} (h : Yd y) (r : LeftW y (c :: l) ws) (o : Orb (tau y) w) (hw : ∀ d ∈ w, d ∈ y) (hc : c ∈ w) : LeftW y ((c :: l).filter fun d => !decide (d ∈ w)) (ws ++ [w]) ∧ ((c :: l).filter fun d => !decide (d ∈ w)).length ≤ l.length := by
  have hlen : ((c :: l).filter fun d => !decide (d ∈ w)).length ≤ l.length := by
    rw [List.filter_cons_of_neg (by simp [hc])]
    exact List.length_filter_le _ _
  refine ⟨⟨fun u hu => ?_, dis_snoc h r.orb r.dis o hw hc ((r.lft c).mp List.mem_cons_self).2, fun d => ?_, ?_⟩, hlen⟩
  · rcases List.mem_append.mp hu with q | q
    · exact r.orb u q
    · rw [List.mem_singleton.mp q]; exact ⟨o, hw⟩
  · rw [List.mem_filter, r.lft]
    constructor
    · rintro ⟨⟨h1, h2⟩, h3⟩
      refine ⟨h1, fun u hu => ?_⟩
      rcases List.mem_append.mp hu with q | q
      · exact h2 u q
      · rw [List.mem_singleton.mp q]; simpa using h3
    · rintro ⟨h1, h2⟩
      exact ⟨⟨h1, fun u hu => h2 u (List.mem_append_left _ hu)⟩, by have := h2 w (by simp); simpa using this⟩
  · have := r.few
    rw [List.length_append]
    rw [List.length_cons] at this
    show ws.length + 1 + _ ≤ _
    omega
theorem LeftW.done {y : List Nat} {ws : List (List Nat)} (r : LeftW y [] ws) : Parts y ws := ⟨r.orb, r.dis, fun c hc => by
  by_cases z : ∃ w ∈ ws, c ∈ w
  · exact z
  · exact absurd ((r.lft c).mpr ⟨hc, fun w hw q => z ⟨w, hw, q⟩⟩) List.not_mem_nil⟩
/-! a yard told otherwise: begun elsewhere, called otherwise, turned over -/
theorem Orb.congr {f g : Nat → Nat} {w : List Nat} (h : Orb f w) (e : ∀ c ∈ w, g c = f c) : Orb g w := ⟨h.ne, h.nd, path_congr h.pa e⟩
theorem Yd.rot {a b : List Nat} (h : Yd (a ++ b)) : Yd (b ++ a) := h.perm List.perm_append_comm
/-- of a ring's word -/
theorem orb_ring {y w : List Nat} (h : Yd y) (h2 : 2 ≤ y.length) (o : Orb (tau y) w) (hw : ∀ c ∈ w, c ∈ y) : Orb (tau y) (ringM w) ∧ ∀ c, c ∈ ringM w ↔ c ∈ w := by
  rw [o.ringC h h2 hw]
  refine ⟨?_, ringC_mem w⟩
  obtain ⟨k, e⟩ := ringC_rot w
  rw [e]
  unfold rot
  have o2 := o
  rw [← List.take_append_drop k w] at o2
  cases q : w.drop k with
  | nil =>
    rw [q, List.append_nil] at o2
    rw [List.nil_append]
    exact o2
  | cons d b =>
    rw [q] at o2
    exact o2.begun
/-- called otherwise -/
structure Call (y : List Nat) (f : Nat → Nat) : Prop where
  inj : ∀ a ∈ y, ∀ b ∈ y, f a = f b → a = b
  ctr : ∀ a ∈ y, f (ctr a) = ctr (f a)
  lt : ∀ a ∈ y, Lt (f a)
theorem Call.yd {y : List Nat} {f : Nat → Nat} (h : Yd y) (c : Call y f) : Yd (y.map f) := by
  refine ⟨?_, fun d hd => ?_, fun d hd => ?_⟩
  · show (y.map f).Pairwise (· ≠ ·)
    rw [List.pairwise_map]
    exact h.nd.imp_of_mem fun {a b} ha hb z e => z (c.inj a ha b hb e)
  · obtain ⟨e, he, rfl⟩ := List.mem_map.mp hd
    exact c.lt e he
  · obtain ⟨e, he, rfl⟩ := List.mem_map.mp hd
    exact List.mem_map.mpr ⟨My.ctr e, h.cl e he, c.ctr e he⟩
theorem Yd.over {y : List Nat} (h : Yd y) : Yd y.reverse := h.perm (List.reverse_perm y).symm
/-! a band taken out of a yard: its rims are one more or one fewer -/
/-- what is left out is stepped over -/
def over (f : Nat → Nat) (a c : Nat) : Nat := if f c = a then f a else f c
theorem path_over {f : Nat → Nat} {a : Nat} : ∀ {w : List Nat} {z : Nat}, Path f w z → a ∉ w → Path (over f a) w (if z = a then f a else z)
  | [], _, _, _ => trivial
  | c :: r, z, h, n => by
    refine ⟨?_, path_over h.2 fun g => n (List.mem_cons_of_mem _ g)⟩
    unfold over
    rw [h.1]
    cases r with
    | nil => rfl
    | cons d r =>
      show (if d = a then f a else d) = d
      rw [if_neg fun g => n (by rw [g]; exact List.mem_cons_of_mem _ List.mem_cons_self)]
theorem orb_over {f : Nat → Nat} {l1 l2 : List Nat} {a : Nat} (h : Orb f (l1 ++ a :: l2)) (hne : l1 ++ l2 ≠ []) : Orb (over f a) (l1 ++ l2) := by
  have hnd := h.nd
  rw [List.nodup_append] at hnd
  obtain ⟨g1, g2, g3⟩ := hnd
  obtain ⟨g4, g5⟩ := List.nodup_cons.mp g2
  have n1 : a ∉ l1 := fun z => g3 a z a List.mem_cons_self rfl
  have hp := h.pa
  rw [head_app] at hp
  have hz : ∀ d, l1.headD ((a :: l2).headD d) = l1.headD a := fun d => rfl
  rw [hz, path_app] at hp
  obtain ⟨p1, p2, p3⟩ := hp
  have q1 := path_over p1 n1
  have q2 := path_over p3 g4
  have e1 : ((a :: l2).headD (l1.headD a)) = a := rfl
  rw [e1, if_pos rfl] at q1
  refine ⟨hne, by rw [List.nodup_append]; exact ⟨g1, g5, fun x hx y hy => g3 x hx y (List.mem_cons_of_mem _ hy)⟩, ?_⟩
  have e2 : (l1 ++ l2).headD 0 = if l1.headD a = a then f a else l1.headD a := by
    cases l1 with
    | nil =>
      show l2.headD 0 = if a = a then f a else a
      rw [if_pos rfl, p2]
      cases l2 with
      | nil => exact absurd rfl hne
      | cons b r => rfl
    | cons c r =>
      show c = if c = a then f a else c
      rw [if_neg fun g => n1 (by rw [g]; exact List.mem_cons_self)]
  rw [e2, path_app]
  refine ⟨?_, q2⟩
  have e3 : l2.headD (if l1.headD a = a then f a else l1.headD a) = f a := by
    rw [p2]
    cases l2 with
    | nil =>
      show (if l1.headD a = a then l1.headD a else l1.headD a) = l1.headD a
      split <;> rfl
    | cons b r => rfl
  rw [e3]
  exact q1
theorem nxt_over {y : List Nat} {a c : Nat} (hn : y.Nodup) (ha : a ∈ y) (hc : c ∈ y) (hca : c ≠ a) : nxt (y.filter fun d => decide (d ≠ a)) c = over (nxt y) a c := by
  obtain ⟨l1, l2, rfl⟩ := List.append_of_mem ha
  have hnd := hn
  rw [List.nodup_append] at hnd
  obtain ⟨g1, g2, g3⟩ := hnd
  obtain ⟨g4, g5⟩ := List.nodup_cons.mp g2
  have n1 : a ∉ l1 := fun z => g3 a z a List.mem_cons_self rfl
  have hf : ((l1 ++ a :: l2).filter fun d => decide (d ≠ a)) = l1 ++ l2 := by
    rw [List.filter_append, List.filter_cons_of_neg (by simp)]
    congr 1
    · exact List.filter_eq_self.mpr fun d hd => decide_eq_true fun g => n1 (g ▸ hd)
    · exact List.filter_eq_self.mpr fun d hd => decide_eq_true fun g => g4 (g ▸ hd)
  have hm : c ∈ l1 ++ l2 := by
    rcases List.mem_append.mp hc with z | z
    · exact List.mem_append_left _ z
    · exact List.mem_append_right _ ((List.mem_cons.mp z).resolve_left hca)
  have hne : l1 ++ l2 ≠ [] := List.ne_nil_of_mem hm
  rw [hf]
  have o1 := orb_over (orb_nxt hn (List.ne_nil_of_mem ha)) hne
  have o2 := orb_nxt o1.nd hne
  exact path_fun o2.pa o1.pa c hm
/-- the yard without the band of a -/
def less (y : List Nat) (a : Nat) : List Nat := (y.filter fun d => decide (d ≠ a)).filter fun d => decide (d ≠ ctr a)
theorem less_mem {y : List Nat} {a c : Nat} : c ∈ less y a ↔ c ∈ y ∧ c ≠ a ∧ c ≠ ctr a := by
  unfold less
  rw [List.mem_filter, List.mem_filter]
  simp [and_assoc]
theorem less_yd {y : List Nat} {a : Nat} (h : Yd y) (ha : a ∈ y) : Yd (less y a) := by
  refine ⟨(h.nd.filter _).filter _, fun c hc => h.lt c (less_mem.mp hc).1, fun c hc => ?_⟩
  obtain ⟨h1, h2, h3⟩ := less_mem.mp hc
  refine less_mem.mpr ⟨h.cl c h1, fun z => h3 ?_, fun z => h2 (ctr_inj (h.lt c h1) (h.lt a ha) z)⟩
  rw [← z, ctr_ctr (h.lt c h1)]
theorem tau_less {y : List Nat} {a e : Nat} (h : Yd y) (ha : a ∈ y) (he : e ∈ less y a) : tau (less y a) e = (let g := if tau y e = a then tau y (ctr a) else tau y e; if g = ctr a then (if tau y a = a then tau y (ctr a) else tau y a) else g) := by
  have hel := less_mem.mp ((less_yd h ha).cl e he)
  have hA := h.cl a ha
  have hAa : ctr a ≠ a := ctr_ne (h.lt a ha)
  have hcA : ctr e ∈ y.filter fun d => decide (d ≠ a) := List.mem_filter.mpr ⟨hel.1, decide_eq_true hel.2.1⟩
  have hAm : ctr a ∈ y.filter fun d => decide (d ≠ a) := List.mem_filter.mpr ⟨hA, decide_eq_true hAa⟩
  have k1 : ∀ c ∈ y.filter (fun d => decide (d ≠ a)), nxt (y.filter fun d => decide (d ≠ a)) c = over (nxt y) a c := fun c hc => by
    obtain ⟨m1, m2⟩ := List.mem_filter.mp hc
    exact nxt_over h.nd ha m1 (of_decide_eq_true m2)
  have t1 : nxt y a = tau y (ctr a) := by unfold tau; rw [ctr_ctr (h.lt a ha)]
  show nxt (less y a) (ctr e) = _
  unfold less
  rw [nxt_over (h.nd.filter _) hAm hcA hel.2.2]
  unfold over
  rw [k1 _ hcA, k1 _ hAm]
  unfold over
  rw [t1]
  rfl
theorem Orb.same {f g : Nat → Nat} {w : List Nat} (o : Orb f w) (e : ∀ c ∈ w, g c = f c) : Orb g w := ⟨o.ne, o.nd, path_congr o.pa e⟩
/-- the steps of a way by which neither a nor its contrary is come to stay -/
theorem tau_stay {y : List Nat} {a e : Nat} (h : Yd y) (ha : a ∈ y) (he : e ∈ less y a) (h1 : tau y e ≠ a) (h2 : tau y e ≠ ctr a) : tau (less y a) e = tau y e := by
  rw [tau_less h ha he]
  simp only [if_neg h1, if_neg h2]
theorem path_stay {y : List Nat} {a : Nat} (h : Yd y) (ha : a ∈ y) : ∀ {w : List Nat} {z z' : Nat}, Path (tau y) w z → (∀ c ∈ w, c ∈ less y a) → (∀ c ∈ w, tau y c = z → (∀ d ∈ w, d ≠ z) → tau (less y a) c = z') → (∀ d ∈ w, d ≠ z) → Path (tau (less y a)) w z'
  | [], _, _, _, _, _, _ => trivial
  | c :: r, z, z', hp, hw, hl, hn => by
    refine ⟨?_, ?_⟩
    · cases r with
      | nil => exact hl c List.mem_cons_self hp.1 hn
      | cons d r =>
        have hd := less_mem.mp (hw d (List.mem_cons_of_mem _ List.mem_cons_self))
        have e1 : tau y c = d := hp.1
        show tau (less y a) c = d
        rw [tau_stay h ha (hw c List.mem_cons_self) (by rw [e1]; exact hd.2.1) (by rw [e1]; exact hd.2.2), e1]
    · exact path_stay h ha hp.2 (fun d hd => hw d (List.mem_cons_of_mem _ hd)) (fun d hd e _ => hl d (List.mem_cons_of_mem _ hd) e hn) fun d hd => hn d (List.mem_cons_of_mem _ hd)
theorem band_out {y : List Nat} {a : Nat} {ws : List (List Nat)} (h : Yd y) (h4 : 3 ≤ y.length) (ha : a ∈ y) (P : Parts y ws) : ∃ us, Parts (less y a) us ∧ (us.length = ws.length + 1 ∨ us.length + 1 = ws.length) := by
  have hA := h.cl a ha
  have hlA := h.lt a ha
  have hAa : ctr a ≠ a := ctr_ne hlA
  have h2 : 2 ≤ y.length := by omega
  have hta : tau y a ≠ ctr a := nxt_ne h.nd hA h2
  have htA : tau y (ctr a) ≠ a := by
    have := nxt_ne h.nd ha h2
    unfold tau
    rw [ctr_ctr hlA]
    exact this
  obtain ⟨w, hw, haw⟩ := P.all a ha
  obtain ⟨r1, r2, er⟩ := List.append_of_mem hw
  have hperm : ws.Perm (w :: (r1 ++ r2)) := by rw [er]; exact List.perm_middle
  have dis : (w :: (r1 ++ r2)).Pairwise fun u v => ∀ c, c ∈ u → c ∉ v := hperm.pairwise P.dis (fun {u v} g c hc hd => g c hd hc)
  obtain ⟨dw, dr⟩ := List.pairwise_cons.mp dis
  have horb : ∀ u ∈ w :: (r1 ++ r2), Orb (tau y) u ∧ ∀ c ∈ u, c ∈ y := fun u hu => P.orb u (hperm.mem_iff.mpr hu)
  have hall : ∀ c ∈ y, ∃ u ∈ w :: (r1 ++ r2), c ∈ u := fun c hc => by
    obtain ⟨u, hu, hcu⟩ := P.all c hc
    exact ⟨u, hperm.mem_iff.mp hu, hcu⟩
  have hlen : ws.length = (r1 ++ r2).length + 1 := by rw [hperm.length_eq]; rfl
  generalize r1 ++ r2 = rs at dw dr horb hall hlen
  obtain ⟨ow, wy⟩ := horb w List.mem_cons_self
  -- w begun at a
  obtain ⟨x1, x2, ew⟩ := List.append_of_mem haw
  rw [ew] at ow
  have oa := ow.begun
  have mw : ∀ d, d ∈ w ↔ d ∈ a :: (x2 ++ x1) := fun d => by
    rw [ew]
    simp only [List.mem_append, List.mem_cons]
    constructor <;> (intro z; rcases z with z | z | z <;> simp [z])
  have oa' : Orb (tau y) (a :: (x2 ++ x1)) := oa
  generalize x2 ++ x1 = t at mw oa'
  clear oa ow ew
  -- a cycle without a and its contrary stays
  have stay : ∀ u ∈ rs, ctr a ∉ u → Orb (tau (less y a)) u ∧ ∀ c ∈ u, c ∈ less y a := fun u hu nA => by
    obtain ⟨ou, uy⟩ := horb u (List.mem_cons_of_mem _ hu)
    have na : a ∉ u := fun z => dw u hu a haw z
    have ul : ∀ c ∈ u, c ∈ less y a := fun c hc => less_mem.mpr ⟨uy c hc, fun z => na (z ▸ hc), fun z => nA (z ▸ hc)⟩
    exact ⟨ou.same fun c hc => tau_stay h ha (ul c hc) (fun z => na (z ▸ ou.closed hc)) (fun z => nA (z ▸ ou.closed hc)), ul⟩
  have nta := List.nodup_cons.mp oa'.nd
  by_cases hAt : ctr a ∈ t
  · -- of one cycle two
    obtain ⟨u, v, et⟩ := List.append_of_mem hAt
    subst et
    have hp := oa'.pa
    obtain ⟨p1, p2⟩ := (show tau y a = (u ++ ctr a :: v).headD a ∧ Path (tau y) (u ++ ctr a :: v) a from hp)
    rw [path_app] at p2
    obtain ⟨p3, p4, p5⟩ := p2
    have nd2 := nta.2
    rw [List.nodup_append] at nd2
    obtain ⟨nu, nv0, nuv⟩ := nd2
    obtain ⟨nAv, nv⟩ := List.nodup_cons.mp nv0
    have nAu : ctr a ∉ u := fun z => nuv _ z _ List.mem_cons_self rfl
    have nau : a ∉ u := fun z => nta.1 (List.mem_append_left _ z)
    have nav : a ∉ v := fun z => nta.1 (List.mem_append_right _ (List.mem_cons_of_mem _ z))
    have hune : u ≠ [] := fun z => hta (by rw [p1, z]; rfl)
    have hvne : v ≠ [] := fun z => htA (by rw [p4, z]; rfl)
    have uw : ∀ c ∈ u, c ∈ w := fun c hc => (mw c).mpr (List.mem_cons_of_mem _ (List.mem_append_left _ hc))
    have vw : ∀ c ∈ v, c ∈ w := fun c hc => (mw c).mpr (List.mem_cons_of_mem _ (List.mem_append_right _ (List.mem_cons_of_mem _ hc)))
    have ul : ∀ c ∈ u, c ∈ less y a := fun c hc => less_mem.mpr ⟨wy c (uw c hc), fun z => nau (z ▸ hc), fun z => nAu (z ▸ hc)⟩
    have vl : ∀ c ∈ v, c ∈ less y a := fun c hc => less_mem.mpr ⟨wy c (vw c hc), fun z => nav (z ▸ hc), fun z => nAv (z ▸ hc)⟩
    have ea : tau y a = u.headD 0 := by rw [p1]; cases u with
      | nil => exact absurd rfl hune
      | cons b r => rfl
    have eA : tau y (ctr a) = v.headD 0 := by rw [p4]; cases v with
      | nil => exact absurd rfl hvne
      | cons b r => rfl
    have hu0 : u.headD 0 ∈ u := by cases u with
      | nil => exact absurd rfl hune
      | cons b r => exact List.mem_cons_self
    have hv0 : v.headD 0 ∈ v := by cases v with
      | nil => exact absurd rfl hvne
      | cons b r => exact List.mem_cons_self
    have ou : Orb (tau (less y a)) u := ⟨hune, nu, path_stay h ha p3 ul (fun c hc e _ => by
      have e' : tau y c = ctr a := e
      rw [tau_less h ha (ul c hc)]
      simp only [e', if_neg hAa, if_true]
      rw [if_neg (by rw [ea]; exact fun z => nau (z ▸ hu0)), ea]) fun d hd z => nAu (by rw [show ctr a = d from z.symm]; exact hd)⟩
    have ov : Orb (tau (less y a)) v := ⟨hvne, nv, path_stay h ha p5 vl (fun c hc e _ => by
      have e' : tau y c = a := e
      rw [tau_less h ha (vl c hc)]
      simp only [e', if_true]
      rw [if_neg (by rw [eA]; exact fun z => nAv (z ▸ hv0)), eA]) fun d hd z => nav (z ▸ hd)⟩
    refine ⟨u :: v :: rs, ⟨fun x hx => ?_, ?_, fun c hc => ?_⟩, .inl (by rw [hlen]; rfl)⟩
    · rcases List.mem_cons.mp hx with rfl | hx
      · exact ⟨ou, ul⟩
      · rcases List.mem_cons.mp hx with rfl | hx
        · exact ⟨ov, vl⟩
        · exact stay x hx fun z => dw x hx _ ((mw _).mpr (List.mem_cons_of_mem _ hAt)) z
    · refine List.pairwise_cons.mpr ⟨fun x hx c hc => ?_, List.pairwise_cons.mpr ⟨fun x hx c hc => dw x hx c (vw c hc), dr⟩⟩
      rcases List.mem_cons.mp hx with rfl | hx
      · exact fun z => nuv c hc c (List.mem_cons_of_mem _ z) rfl
      · exact dw x hx c (uw c hc)
    · obtain ⟨c1, c2, c3⟩ := less_mem.mp hc
      obtain ⟨x, hx, hcx⟩ := hall c c1
      rcases List.mem_cons.mp hx with rfl | hx
      · have := (mw c).mp hcx
        rcases List.mem_append.mp ((List.mem_cons.mp this).resolve_left c2) with z | z
        · exact ⟨u, List.mem_cons_self, z⟩
        · exact ⟨v, List.mem_cons_of_mem _ List.mem_cons_self, (List.mem_cons.mp z).resolve_left c3⟩
      · exact ⟨x, List.mem_cons_of_mem _ (List.mem_cons_of_mem _ hx), hcx⟩
  · -- of two cycles one
    obtain ⟨x, hx, hAx⟩ := hall _ hA
    have hx : x ∈ rs := (List.mem_cons.mp hx).resolve_left fun z => by
      rw [z, mw] at hAx
      exact hAt ((List.mem_cons.mp hAx).resolve_left hAa)
    obtain ⟨q1, q2, eq⟩ := List.append_of_mem hx
    have pq : rs.Perm (x :: (q1 ++ q2)) := by rw [eq]; exact List.perm_middle
    have dq : (x :: (q1 ++ q2)).Pairwise fun u v => ∀ c, c ∈ u → c ∉ v := pq.pairwise dr (fun {u v} g c hc hd => g c hd hc)
    obtain ⟨dx, dqs⟩ := List.pairwise_cons.mp dq
    have hql : rs.length = (q1 ++ q2).length + 1 := by rw [pq.length_eq]; rfl
    have qrs : ∀ u ∈ q1 ++ q2, u ∈ rs := fun u hu => pq.mem_iff.mpr (List.mem_cons_of_mem _ hu)
    have qall : ∀ u ∈ rs, u = x ∨ u ∈ q1 ++ q2 := fun u hu => List.mem_cons.mp (pq.mem_iff.mp hu)
    generalize q1 ++ q2 = qs at dx dqs hql qrs qall
    obtain ⟨ox, xy⟩ := horb x (List.mem_cons_of_mem _ hx)
    obtain ⟨y1, y2, ex⟩ := List.append_of_mem hAx
    have mx : ∀ d, d ∈ x ↔ d ∈ ctr a :: (y2 ++ y1) := fun d => by
      rw [ex]
      simp only [List.mem_append, List.mem_cons]
      constructor <;> (intro z; rcases z with z | z | z <;> simp [z])
    have oA : Orb (tau y) (ctr a :: (y2 ++ y1)) := by
      rw [ex] at ox
      exact ox.begun
    generalize y2 ++ y1 = v at mx oA
    have nvA := List.nodup_cons.mp oA.nd
    have tw : ∀ c ∈ t, c ∈ w := fun c hc => (mw c).mpr (List.mem_cons_of_mem _ hc)
    have vx : ∀ c ∈ v, c ∈ x := fun c hc => (mx c).mpr (List.mem_cons_of_mem _ hc)
    have nav : a ∉ v := fun z => dw x hx a haw (vx a z)
    have tl : ∀ c ∈ t, c ∈ less y a := fun c hc => less_mem.mpr ⟨wy c (tw c hc), fun z => nta.1 (z ▸ hc), fun z => hAt (z ▸ hc)⟩
    have vl : ∀ c ∈ v, c ∈ less y a := fun c hc => less_mem.mpr ⟨xy c (vx c hc), fun z => nav (z ▸ hc), fun z => nvA.1 (z ▸ hc)⟩
    have ea : tau y a = t.headD a := oa'.pa.1
    have eA : tau y (ctr a) = v.headD (ctr a) := oA.pa.1
    have pt : Path (tau y) t a := oa'.pa.2
    have pv : Path (tau y) v (ctr a) := oA.pa.2
    have hne : t ++ v ≠ [] := fun z => by
      obtain ⟨zt, zv⟩ := List.append_eq_nil_iff.mp z
      have e1 : nxt y (ctr a) = a := by have := ea; rw [zt] at this; exact this
      have e2 : nxt y a = ctr a := by
        have := eA
        rw [zv] at this
        unfold tau at this
        rw [ctr_ctr hlA] at this
        exact this
      have o2 : Orb (nxt y) [a, ctr a] := ⟨by simp, by simp [Ne.symm hAa], ⟨e2, e1, trivial⟩⟩
      have o1 := orb_nxt h.nd (List.ne_nil_of_mem ha)
      have mm := (o1.ring o2 ha List.mem_cons_self h.lt (fun c hc => by
        rcases List.mem_cons.mp hc with g | g
        · rw [g]; exact hlA
        · rw [List.mem_singleton.mp g]; exact h.lt _ hA)).2
      have := h.nd.length_le_of_subset (l₂ := [a, ctr a]) fun c hc => (mm c).mp hc
      simp at this
      omega
    have h1 : t.headD (v.headD 0) = (t ++ v).headD 0 := (head_app t v 0).symm
    -- behind t comes v, or t again; behind v comes t, or v again
    have oo : Orb (tau (less y a)) (t ++ v) := by
      refine ⟨hne, ?_, ?_⟩
      · rw [List.nodup_append]
        exact ⟨nta.2, nvA.2, fun c hc d hd z => by subst z; exact dw x hx c (tw c hc) (vx c hd)⟩
      · rw [path_app]
        constructor
        · refine path_stay h ha pt tl (fun c hc e _ => ?_) fun d hd z => nta.1 (z ▸ hd)
          rw [tau_less h ha (tl c hc)]
          simp only [e, if_true]
          rw [eA, ea]
          cases v with
          | nil =>
            cases t with
            | nil => exact absurd hc List.not_mem_nil
            | cons b r =>
              show (if ctr a = ctr a then (if b = a then ctr a else b) else ctr a) = b
              rw [if_pos rfl, if_neg (fun (z : b = a) => nta.1 (by rw [← z]; exact List.mem_cons_self))]
          | cons b r =>
            show (if b = ctr a then _ else b) = b
            rw [if_neg (fun (z : b = ctr a) => nvA.1 (by rw [← z]; exact List.mem_cons_self))]
        · refine path_stay h ha pv vl (fun c hc e _ => ?_) fun d hd z => nvA.1 (z ▸ hd)
          rw [tau_less h ha (vl c hc)]
          simp only [e, if_neg hAa, if_true]
          rw [ea, eA]
          cases t with
          | nil =>
            cases v with
            | nil => exact absurd hc List.not_mem_nil
            | cons b r =>
              show (if a = a then b else a) = b
              rw [if_pos rfl]
          | cons b r =>
            show (if b = a then _ else b) = b
            rw [if_neg (fun (z : b = a) => nta.1 (by rw [← z]; exact List.mem_cons_self))]
    refine ⟨(t ++ v) :: qs, ⟨fun u hu => ?_, ?_, fun c hc => ?_⟩, .inr (by rw [hlen, hql]; rfl)⟩
    · rcases List.mem_cons.mp hu with rfl | hu
      · exact ⟨oo, fun c hc => (List.mem_append.mp hc).elim (tl c) (vl c)⟩
      · exact stay u (qrs u hu) fun z => dx u hu _ hAx z
    · refine List.pairwise_cons.mpr ⟨fun u hu c hc => ?_, dqs⟩
      rcases List.mem_append.mp hc with g | g
      · exact dw u (qrs u hu) c (tw c g)
      · exact dx u hu c (vx c g)
    · obtain ⟨c1, c2, c3⟩ := less_mem.mp hc
      obtain ⟨u, hu, hcu⟩ := hall c c1
      rcases List.mem_cons.mp hu with rfl | hu
      · exact ⟨t ++ v, List.mem_cons_self, List.mem_append_left _ ((List.mem_cons.mp ((mw c).mp hcu)).resolve_left c2)⟩
      · rcases qall u hu with rfl | hu
        · exact ⟨t ++ v, List.mem_cons_self, List.mem_append_right _ ((List.mem_cons.mp ((mx c).mp hcu)).resolve_left c3)⟩
        · exact ⟨u, List.mem_cons_of_mem _ hu, hcu⟩
theorem less_len {y : List Nat} {a : Nat} (h : Yd y) (ha : a ∈ y) : (less y a).length + 2 = y.length := by
  have one : ∀ {l : List Nat} {b : Nat}, l.Nodup → b ∈ l → (l.filter fun d => decide (d ≠ b)).length + 1 = l.length := fun {l b} hn hb => by
    obtain ⟨l1, l2, rfl⟩ := List.append_of_mem hb
    rw [List.nodup_append] at hn
    obtain ⟨g1, g2, g3⟩ := hn
    obtain ⟨g4, g5⟩ := List.nodup_cons.mp g2
    have n1 : b ∉ l1 := fun z => g3 b z b List.mem_cons_self rfl
    have hf : ((l1 ++ b :: l2).filter fun d => decide (d ≠ b)) = l1 ++ l2 := by
      rw [List.filter_append, List.filter_cons_of_neg (by simp)]
      congr 1
      · exact List.filter_eq_self.mpr fun d hd => decide_eq_true fun g => n1 (g ▸ hd)
      · exact List.filter_eq_self.mpr fun d hd => decide_eq_true fun g => g4 (g ▸ hd)
    rw [hf]
    simp
    omega
  have h1 := one h.nd ha
  have h2 := one (h.nd.filter fun d => decide (d ≠ a)) (List.mem_filter.mpr ⟨h.cl a ha, decide_eq_true (ctr_ne (h.lt a ha))⟩)
  unfold less
  omega
/-- bands, one and rims are even together -/
theorem rims_even : ∀ (n : Nat) {y : List Nat} {ws : List (List Nat)}, Yd y → y.length = 2 * (n + 1) → Parts y ws → (ws.length + n) % 2 = 0
  | 0, y, ws, h, hl, P => by
    cases hy : y with
    | nil => rw [hy] at hl; simp at hl
    | cons a r =>
      have ha : a ∈ y := by rw [hy]; exact List.mem_cons_self
      have hA := h.cl a ha
      have hAa := ctr_ne (h.lt a ha)
      have h2 : 2 ≤ y.length := by omega
      have two : ∀ c ∈ y, c = a ∨ c = ctr a := fun c hc => by
        have hn : less y a = [] := by
          have := less_len h ha
          exact List.eq_nil_of_length_eq_zero (by omega)
        by_cases z1 : c = a
        · exact .inl z1
        · by_cases z2 : c = ctr a
          · exact .inr z2
          · have := less_mem.mpr ⟨hc, z1, z2⟩
            rw [hn] at this
            cases this
      have t1 : tau y a = a := (two _ (tau_mem h ha)).resolve_right (nxt_ne h.nd hA h2)
      have t2 : tau y (ctr a) = ctr a := (two _ (tau_mem h hA)).resolve_left (by
        have := nxt_ne h.nd ha h2
        unfold tau
        rw [ctr_ctr (h.lt a ha)]
        exact this)
      have Q : Parts y [[a], [ctr a]] := by
        refine ⟨fun w hw => ?_, by simp [Ne.symm hAa], fun c hc => ?_⟩
        · rcases List.mem_cons.mp hw with rfl | hw
          · exact ⟨⟨by simp, by simp, ⟨t1, trivial⟩⟩, fun c hc => by rw [List.mem_singleton.mp hc]; exact ha⟩
          · rw [List.mem_singleton.mp hw]
            exact ⟨⟨by simp, by simp, ⟨t2, trivial⟩⟩, fun c hc => by rw [List.mem_singleton.mp hc]; exact hA⟩
        · rcases two c hc with z | z
          · exact ⟨[a], List.mem_cons_self, by rw [z]; exact List.mem_singleton.mpr rfl⟩
          · exact ⟨[ctr a], List.mem_cons_of_mem _ List.mem_cons_self, by rw [z]; exact List.mem_singleton.mpr rfl⟩
      have := (P.perm h h2 Q).length_eq
      rw [List.length_map, List.length_map] at this
      rw [this]
      simp
  | n + 1, y, ws, h, hl, P => by
    cases hy : y with
    | nil => rw [hy] at hl; simp at hl
    | cons a r =>
      have ha : a ∈ y := by rw [hy]; exact List.mem_cons_self
      obtain ⟨us, Pu, hc⟩ := band_out h (by omega) ha P
      have hll := less_len h ha
      have := rims_even n (less_yd h ha) (by omega) Pu
      omega
/-! k12's own -/
def sp_Lorder (K : PySem.W.Frag) : Sp := fun vs H Q _ => ∃ (b p : Addr) (l : List Nat), vs = [.ref b, .ref p] ∧ BoxAt H b ∧ SqL K H p (sgs l) ∧ l.length ≤ 1000 ∧ ∀ q l' H', H q = none → q ≠ b → H' q = some (.lst (sgs l')) → l'.Perm l → BoxAt H' b → SameB b H H' → Q (.ref q) H'
theorem len_Lorder {K : PySem.W.Frag} {vs : List V} {H : Hp} {Q : VK} {E : XK} (h : sp_Lorder K vs H Q E) : vs.length = 2 := by obtain ⟨c, _, _, rfl, _⟩ := h; rfl
def sp_Lcounted (_ : PySem.W.Frag) : Sp := fun vs H Q _ => ∃ y : List Nat, vs = [.str (S y)] ∧ Yd y ∧ 2 ≤ y.length ∧ y.length ≤ 8 ∧ ∀ H', Same H H' → Q (.bl true) H'
theorem len_Lcounted {K : PySem.W.Frag} {vs : List V} {H : Hp} {Q : VK} {E : XK} (h : sp_Lcounted K vs H Q E) : vs.length = 1 := by obtain ⟨c, rfl, _⟩ := h; rfl
def sp_Lless (_ : PySem.W.Frag) : Sp := fun vs H Q _ => ∃ (y : List Nat) (c : Nat), vs = [.str (S y), .str (S [c])] ∧ Yd y ∧ 4 ≤ y.length ∧ y.length ≤ 8 ∧ c ∈ y ∧ isLow c = true ∧ ∀ H', Same H H' → Q (.bl true) H'
theorem len_Lless {K : PySem.W.Frag} {vs : List V} {H : Hp} {Q : VK} {E : XK} (h : sp_Lless K vs H Q E) : vs.length = 2 := by obtain ⟨c, _, rfl, _⟩ := h; rfl
def sp_Lright (_ : PySem.W.Frag) : Sp := fun vs H Q _ => ∃ (y l : List Nat) (p : Addr), vs = [.str (S y), .ref p] ∧ Yd y ∧ 4 ≤ y.length ∧ y.length ≤ 8 ∧ H p = some (.lst (sgs l)) ∧ l.Perm (y.filter isLow) ∧ ∀ H', Same H H' → Q (.bl true) H'
theorem len_Lright {K : PySem.W.Frag} {vs : List V} {H : Hp} {Q : VK} {E : XK} (h : sp_Lright K vs H Q E) : vs.length = 2 := by obtain ⟨c, _, _, rfl, _⟩ := h; rfl
theorem parts_flat {y : List Nat} : ∀ {ws : List (List Nat)}, (∀ w ∈ ws, w.Nodup ∧ ∀ c ∈ w, c ∈ y) → (ws.Pairwise fun u v => ∀ c, c ∈ u → c ∉ v) → ws.flatten.Nodup
  | [], _, _ => List.nodup_nil
  | w :: ws, h, d => by
    obtain ⟨h1, h2⟩ := List.pairwise_cons.mp d
    rw [List.flatten_cons, List.nodup_append]
    refine ⟨(h w List.mem_cons_self).1, parts_flat (fun u hu => h u (List.mem_cons_of_mem _ hu)) h2, fun a ha b hb z => ?_⟩
    subst z
    obtain ⟨u, hu, hau⟩ := List.mem_flatten.mp hb
    exact h1 u hu a ha hau
/-- each end stands once in all rims' words -/
theorem rims_flat {y : List Nat} {L : List (List Nat)} (h : Yd y) (h2 : 2 ≤ y.length) (r : RimsAre y L) : L.flatten.Perm y := by
  obtain ⟨ws, p, q, _⟩ := r
  refine q.flatten.trans ?_
  have mm : ∀ w ∈ ws, ∀ c, c ∈ ringM w ↔ c ∈ w := fun w hw c => by rw [(p.orb w hw).1.ringC h h2 (p.orb w hw).2]; exact ringC_mem w c
  have nd : ((ws.map ringM).flatten).Nodup := parts_flat (y := y) (fun v hv => by
      obtain ⟨w, hw, rfl⟩ := List.mem_map.mp hv
      exact ⟨(orb_ring h h2 (p.orb w hw).1 (p.orb w hw).2).1.nd, fun c hc => (p.orb w hw).2 c ((mm w hw c).mp hc)⟩) (by
      rw [List.pairwise_map]
      refine List.Pairwise.imp_of_mem (fun {u v} hu hv huv c hcu hcv => huv c ((mm u hu c).mp hcu) ((mm v hv c).mp hcv)) p.dis)
  refine (List.perm_ext_iff_of_nodup nd h.nd).mpr fun c => ⟨fun hc => ?_, fun hc => ?_⟩
  · obtain ⟨v, hv, hcv⟩ := List.mem_flatten.mp hc
    obtain ⟨w, hw, rfl⟩ := List.mem_map.mp hv
    exact (p.orb w hw).2 c ((mm w hw c).mp hcv)
  · obtain ⟨w, hw, hcw⟩ := p.all c hc
    exact List.mem_flatten.mpr ⟨ringM w, List.mem_map.mpr ⟨w, hw, rfl⟩, (mm w hw c).mpr hcw⟩
theorem Yd.even {y : List Nat} (h : Yd y) : y.length % 2 = 0 := by have := half_low h; omega
/-- bands, one and rims are even together; there is a rim -/
theorem rims_many {y : List Nat} {L : List (List Nat)} (h : Yd y) (h2 : 2 ≤ y.length) (r : RimsAre y L) : 1 ≤ L.length ∧ (L.length + y.length / 2 + 1) % 2 = 0 := by
  obtain ⟨ws, p, q, _⟩ := r
  have hl : L.length = ws.length := by rw [q.length_eq, List.length_map]
  have he := h.even
  have hev := rims_even (y.length / 2 - 1) h (by omega) p
  refine ⟨?_, by omega⟩
  cases y with
  | nil => simp at h2
  | cons a t =>
    obtain ⟨w, hw, _⟩ := p.all a List.mem_cons_self
    have := List.length_pos_of_mem hw
    omega
/-- without a band: one rim more or fewer -/
theorem rims_less {y : List Nat} {c : Nat} {L M : List (List Nat)} (h : Yd y) (h4 : 4 ≤ y.length) (hc : c ∈ y) (r : RimsAre y L) (m : RimsAre (less y c) M) : M.length = L.length + 1 ∨ M.length + 1 = L.length := by
  obtain ⟨ws, p, q, _⟩ := r
  obtain ⟨us, pu, e⟩ := band_out h (by omega) hc p
  obtain ⟨vs, pv, qv, _⟩ := m
  have hl := less_len h hc
  have ep := (pv.perm (less_yd h hc) (by omega) pu).length_eq
  have e1 := q.length_eq
  have e2 := qv.length_eq
  simp only [List.length_map] at ep e1 e2
  omega
theorem low_lt {c : Nat} (h : Lt c) (hl : isLow c = true) : c ∈ smalls := by rw [isLow_iff h] at hl; exact of_decide_eq_true hl
/-- the other bands' ends -/
theorem within_less {y l : List Nat} {c : Nat} (h : Yd y) (hc : c ∈ y) (hl : isLow c = true) (hp : l.Perm (y.filter isLow)) : y.filter (kept (l.filter fun d => decide (d ≠ c))) = less y c := by
  unfold less
  rw [List.filter_filter]
  refine List.filter_congr fun d hd => ?_
  have hs : ∀ e ∈ l.filter (fun d => decide (d ≠ c)), e ∈ smalls := fun e he => by
    have := hp.mem_iff.mp (List.mem_filter.mp he).1
    exact low_lt (h.lt e (List.mem_filter.mp this).1) (List.mem_filter.mp this).2
  rw [kept_or hs (h.lt d hd)]
  have ml : ∀ e, e ∈ l.filter (fun d => decide (d ≠ c)) ↔ (e ∈ y ∧ isLow e = true) ∧ e ≠ c := fun e => by
    rw [List.mem_filter, hp.mem_iff, List.mem_filter]; simp
  have hcs := low_lt (h.lt c hc) hl
  have hld := h.lt d hd
  have hdc : d = ctr c ↔ ctr d = c := ⟨fun e => by rw [e, ctr_ctr (h.lt c hc)], fun e => by rw [← e, ctr_ctr hld]⟩
  by_cases dl : isLow d = true
  · have ncd : ¬ isLow (ctr d) = true := fun z => by
      have := low_of_small d (low_lt hld dl)
      have := low_of_cap _ this.2.2
      rw [this.1] at z; cases z
    have e1 : decide (ctr d ∈ l.filter fun d => decide (d ≠ c)) = false := decide_eq_false fun z => ncd ((ml _).mp z).1.2
    have e2 : decide (d ≠ ctr c) = true := decide_eq_true fun z => by
      have := low_of_small c hcs
      have := low_of_cap _ this.2.2
      rw [← z, dl] at this; exact absurd this.1 (by decide)
    rw [e1, e2, Bool.or_false, Bool.true_and]
    exact decide_eq_decide.mpr ⟨fun z => ((ml d).mp z).2, fun z => (ml d).mpr ⟨⟨hd, dl⟩, z⟩⟩
  · have e1 : decide (d ∈ l.filter fun d => decide (d ≠ c)) = false := decide_eq_false fun z => dl ((ml _).mp z).1.2
    have e2 : decide (d ≠ c) = true := decide_eq_true fun z => by rw [z] at dl; exact dl hl
    have hcd : isLow (ctr d) = true := by
      rcases hld with z | z
      · exact absurd (low_of_small d z).1 dl
      · exact (low_of_small _ (low_of_cap d z).2.2.2).1
    rw [e1, e2, Bool.false_or, Bool.and_true]
    exact decide_eq_decide.mpr ⟨fun z => fun g => ((ml _).mp z).2 (hdc.mp g), fun z => (ml _).mpr ⟨⟨h.cl d hd, hcd⟩, fun g => z (hdc.mpr g)⟩⟩
/-- some of the bands -/
structure Some_ (y sm : List Nat) : Prop where
  nd : sm.Nodup
  sml : ∀ d ∈ sm, d ∈ smalls
  iny : ∀ d ∈ sm, d ∈ y
theorem Some_.of {y l : List Nat} (h : Yd y) (hp : l.Perm (y.filter isLow)) : Some_ y l :=
  ⟨hp.nodup_iff.mpr (h.nd.filter _), fun d hd => by
    have := List.mem_filter.mp (hp.mem_iff.mp hd)
    exact low_lt (h.lt d this.1) this.2, fun d hd => (List.mem_filter.mp (hp.mem_iff.mp hd)).1⟩
theorem Some_.tail {y l : List Nat} {c : Nat} (h : Some_ y (c :: l)) : Some_ y l := ⟨(List.nodup_cons.mp h.nd).2, fun d hd => h.sml d (List.mem_cons_of_mem _ hd), fun d hd => h.iny d (List.mem_cons_of_mem _ hd)⟩
theorem Some_.len {y l : List Nat} (h : Yd y) (s : Some_ y l) : (y.filter (kept l)).length = 2 * l.length := by
  rw [← half_low (h.within s.sml), (within_bands h s.sml s.nd s.iny).length_eq]
theorem kept_rev (y l : List Nat) : y.filter (kept l.reverse) = y.filter (kept l) := List.filter_congr fun d _ => by unfold kept; simp
/-- one band: two rims of one letter -/
theorem one_band {y : List Nat} {c : Nat} (h : Yd y) (hl : y.length = 2) (hc : c ∈ y) (hs : c ∈ smalls) : RimsAre y [[ctr c], [c]] := by
  have hA := h.cl c hc
  have hne := ctr_ne (h.lt c hc)
  have two : ∀ d ∈ y, d = c ∨ d = ctr c := fun d hd => by
    have hn : less y c = [] := by
      have := less_len h hc
      exact List.eq_nil_of_length_eq_zero (by omega)
    by_cases z1 : d = c
    · exact .inl z1
    · by_cases z2 : d = ctr c
      · exact .inr z2
      · have := less_mem.mpr ⟨hd, z1, z2⟩
        rw [hn] at this
        cases this
  have t1 : tau y c = c := (two _ (tau_mem h hc)).resolve_right (nxt_ne h.nd hA (by omega))
  have t2 : tau y (ctr c) = ctr c := (two _ (tau_mem h hA)).resolve_left (by
    have := nxt_ne h.nd hc (by omega)
    unfold tau
    rw [ctr_ctr (h.lt c hc)]
    exact this)
  have o1 : Orb (tau y) [c] := ⟨by simp, by simp, ⟨t1, trivial⟩⟩
  have o2 : Orb (tau y) [ctr c] := ⟨by simp, by simp, ⟨t2, trivial⟩⟩
  have i1 : ∀ d ∈ [c], d ∈ y := fun d hd => by rw [List.mem_singleton.mp hd]; exact hc
  have i2 : ∀ d ∈ [ctr c], d ∈ y := fun d hd => by rw [List.mem_singleton.mp hd]; exact hA
  refine ⟨[[ctr c], [c]], ⟨fun w hw => ?_, by simp [hne], fun d hd => ?_⟩, ?_, ?_⟩
  · rcases List.mem_cons.mp hw with rfl | hw
    · exact ⟨o2, i2⟩
    · rw [List.mem_singleton.mp hw]; exact ⟨o1, i1⟩
  · rcases two d hd with z | z
    · exact ⟨[c], by simp, by rw [z]; simp⟩
    · exact ⟨[ctr c], by simp, by rw [z]; simp⟩
  · rw [List.map_cons, List.map_cons, List.map_nil, o1.ringC h (by omega) i1, o2.ringC h (by omega) i2]
    have r1 : ∀ d, ringC [d] = [d] := fun d => by
      obtain ⟨k, hk, e⟩ := ringC_some [d]
      rw [e]
      have : k = 0 ∨ k = 1 := by simp at hk; omega
      rcases this with z | z <;> subst z <;> rfl
    rw [r1, r1]
  · have : ctr c < c := (show ∀ d ∈ smalls, ctr d < d by decide +kernel) c hs
    refine List.pairwise_cons.mpr ⟨fun w hw => ?_, List.pairwise_singleton _ _⟩
    rw [List.mem_singleton.mp hw]
    intro z
    rcases List.cons_lt_cons_iff.mp z with g | ⟨g, _⟩
    · omega
    · omega
structure Ask where
  t : Addr
  p : Addr
  y : List Nat
  l : List Nat
def akv (ks : List Ask) : List V := ks.map fun k => V.ref k.t
theorem akv_len (ks : List Ask) : (akv ks).length = ks.length := by unfold akv; rw [List.length_map]
theorem akv_snoc (ks : List Ask) (k : Ask) : akv ks ++ [V.ref k.t] = akv (ks ++ [k]) := by unfold akv; rw [List.map_append]; rfl
structure AskOk (H : Hp) (k : Ask) : Prop where
  tp : H k.t = some (.tup [.str (S k.y), .ref k.p])
  lp : H k.p = some (.lst (sgs k.l))
  yd : Yd k.y
  l4 : 4 ≤ k.y.length
  l8 : k.y.length ≤ 8
  pm : k.l.Perm (k.y.filter isLow)
theorem AskOk.same {H H' : Hp} {k : Ask} (h : AskOk H k) (s : Same H H') : AskOk H' k := ⟨s _ _ h.tp, s _ _ h.lp, h.yd, h.l4, h.l8, h.pm⟩
theorem AskOk.upd {H : Hp} {k : Ask} {p : Addr} {o : HO} (h : AskOk H k) (n1 : k.t ≠ p) (n2 : k.p ≠ p) : AskOk (L2.upd H p o) k := ⟨by rw [upd_ne n1]; exact h.tp, by rw [upd_ne n2]; exact h.lp, h.yd, h.l4, h.l8, h.pm⟩
local macro_rules | `(tactic| walk_at "rd") => `(tactic| repeat (first
  | refine ⟨_, rfl, ?_⟩
  | refine ⟨_, _, rfl, rfl, ?_⟩
  | refine ⟨rfl, ?_⟩
  | refine And.intro (by first | decide | omega | assumption | exact Nat.le_of_ble_eq_true rfl | exact .inl ⟨by decide, by decide⟩ | exact .inr ⟨by decide, by decide⟩ | exact ⟨by decide, by decide⟩ | exact ⟨by omega, by omega⟩) ?_))
local macro_rules | `(tactic| walk_at "wk") => `(tactic| repeat (first
  | refine ⟨_, rfl, ?_⟩
  | refine ⟨_, _, rfl, rfl, ?_⟩
  | refine ⟨_, _, _, rfl, rfl, by first | assumption | omega, by assumption, ?_⟩
  | refine ⟨rfl, ?_⟩
  | refine And.intro (by first | decide | omega | assumption | exact Nat.le_of_ble_eq_true rfl | exact .inl ⟨by decide, by decide⟩ | exact .inr ⟨by decide, by decide⟩ | exact ⟨by decide, by decide⟩ | exact ⟨by omega, by omega⟩) ?_))
local macro_rules | `(tactic| walk_at "bd") => `(tactic| first | assumption | exact len1 _ | exact apl (by walk_at "bd") (by walk_at "bd"))
local macro_rules | `(tactic| walk_at "ln") => `(tactic| repeat (first
  | refine ⟨_, rfl, ?_⟩
  | refine ⟨_, _, rfl, rfl, ?_⟩
  | refine ⟨rfl, ?_⟩
  | refine And.intro (by first | assumption | decide | exact szl (by walk_at "bd") (by walk_at "bd") (by decide) | omega | (simp only [List.length_append, List.length_cons, List.length_nil, List.length_map]; omega)) ?_))
def top (i : Nat) : Stmt := PySem.Challenge.pw_mustmeet_k12_whole_bands_taken_out.main.body.getD i (.Pass ⟨0, 0, 0, 0⟩)
abbrev s_contrary : Stmt := top 1
abbrev s_shortened : Stmt := top 3
abbrev s_shortest : Stmt := top 4
abbrev s_ring : Stmt := top 5
abbrev s_bands : Stmt := top 7
abbrev s_within : Stmt := top 8
abbrev s_next_end : Stmt := top 10
abbrev s_rim_behind : Stmt := top 11
abbrev s_rims : Stmt := top 12
abbrev s_handles : Stmt := top 13
abbrev s_Lbox : Stmt := top 15
abbrev s_Ltake : Stmt := top 16
abbrev s_Lother : Stmt := top 17
abbrev s_Lyard : Stmt := top 18
abbrev s_Lorder : Stmt := top 19
abbrev s_Lcounted : Stmt := top 20
abbrev s_Lless : Stmt := top 21
abbrev s_Lright : Stmt := top 22
abbrev s_law : Stmt := top 23
structure FunAt (K : PySem.W.Frag) (mg : Str → Option Value) (x : Str) (st : Stmt) (ps : List Str) (f : Addr) (fd : FuncData) : Prop where
  fn : Fun K x x st f fd
  mg : mg x = some (.ref f)
  bd : Binds K fd ps []
structure Txt (K : PySem.W.Frag) (mg : Str → Option Value) (f0 f1 f2 f3 f4 f5 f6 f7 f8 f9 f10 f11 f12 f13 f14 f15 f16 f17 f18 : Addr) (d0 d1 d2 d3 d4 d5 d6 d7 d8 d9 d10 d11 d12 d13 d14 d15 d16 d17 d18 : FuncData) : Prop where
  F0 : FunAt K mg "contrary" s_contrary ["letter"] f0 d0
  F1 : FunAt K mg "shortened" s_shortened ["word"] f1 d1
  F2 : FunAt K mg "shortest" s_shortest ["word"] f2 d2
  F3 : FunAt K mg "ring" s_ring ["word"] f3 d3
  F4 : FunAt K mg "bands" s_bands ["yard"] f4 d4
  F5 : FunAt K mg "within" s_within ["yard", "some"] f5 d5
  F6 : FunAt K mg "next_end" s_next_end ["yard", "end"] f6 d6
  F7 : FunAt K mg "rim_behind" s_rim_behind ["yard", "start"] f7 d7
  F8 : FunAt K mg "rims" s_rims ["yard"] f8 d8
  F9 : FunAt K mg "handles" s_handles ["yard"] f9 d9
  F10 : FunAt K mg "_law_box" s_Lbox ["_law_script", "_law_k"] f10 d10
  F11 : FunAt K mg "_law_take" s_Ltake ["_law_box_here", "_law_many"] f11 d11
  F12 : FunAt K mg "_law_other" s_Lother ["_law_letter"] f12 d12
  F13 : FunAt K mg "_law_yard" s_Lyard ["_law_box_here", "_law_few", "_law_top"] f13 d13
  F14 : FunAt K mg "_law_order" s_Lorder ["_law_box_here", "_law_things"] f14 d14
  F15 : FunAt K mg "_law_counted" s_Lcounted ["_law_yard_here"] f15 d15
  F16 : FunAt K mg "_law_less" s_Lless ["_law_yard_here", "_law_band"] f16 d16
  F17 : FunAt K mg "_law_right" s_Lright ["_law_yard_here", "_law_order_here"] f17 d17
  F18 : FunAt K mg "law" s_law ["_law_script"] f18 d18
  z_all : mg "all" = none
  z_int : mg "int" = none
  z_len : mg "len" = none
  z_list : mg "list" = none
  z_max : mg "max" = none
  z_min : mg "min" = none
  z_range : mg "range" = none
  z_reversed : mg "reversed" = none
  z_sorted : mg "sorted" = none
theorem sc_contrary : FnScope ["letter"] ["letter"] (defScope s_contrary) := ⟨rfl, rfl, rfl, by decide +kernel, rfl, by decide +kernel, by decide +kernel⟩
theorem sc_shortened : FnScope ["word", "kept", "letter"] ["word"] (defScope s_shortened) := ⟨rfl, rfl, rfl, by decide +kernel, rfl, by decide +kernel, by decide +kernel⟩
theorem sc_shortest : FnScope ["word", "left", "start", "end"] ["word"] (defScope s_shortest) := ⟨rfl, rfl, rfl, by decide +kernel, rfl, by decide +kernel, by decide +kernel⟩
theorem sc_ring : FnScope ["word", "whole", "least", "start", "begun"] ["word"] (defScope s_ring) := ⟨rfl, rfl, rfl, by decide +kernel, rfl, by decide +kernel, by decide +kernel⟩
theorem sc_bands : FnScope ["yard"] ["yard"] (defScope s_bands) := ⟨rfl, rfl, rfl, by decide +kernel, rfl, by decide +kernel, by decide +kernel⟩
theorem sc_within : FnScope ["yard", "some"] ["yard", "some"] (defScope s_within) := ⟨rfl, rfl, rfl, by decide +kernel, rfl, by decide +kernel, by decide +kernel⟩
theorem sc_next_end : FnScope ["yard", "end"] ["yard", "end"] (defScope s_next_end) := ⟨rfl, rfl, rfl, by decide +kernel, rfl, by decide +kernel, by decide +kernel⟩
theorem sc_rim_behind : FnScope ["yard", "start", "word", "place", "passed"] ["yard", "start"] (defScope s_rim_behind) := ⟨rfl, rfl, rfl, by decide +kernel, rfl, by decide +kernel, by decide +kernel⟩
theorem sc_rims : FnScope ["yard", "seen", "told", "end", "word", "letter"] ["yard"] (defScope s_rims) := ⟨rfl, rfl, rfl, by decide +kernel, rfl, by decide +kernel, by decide +kernel⟩
theorem sc_handles : FnScope ["yard"] ["yard"] (defScope s_handles) := ⟨rfl, rfl, rfl, by decide +kernel, rfl, by decide +kernel, by decide +kernel⟩
theorem sc_Lbox : FnScope ["_law_script", "_law_k", "_law_cell", "_law_seed"] ["_law_script", "_law_k"] (defScope s_Lbox) := ⟨rfl, rfl, rfl, by decide +kernel, rfl, by decide +kernel, by decide +kernel⟩
theorem sc_Ltake : FnScope ["_law_box_here", "_law_many", "_law_digit", "_law_one"] ["_law_box_here", "_law_many"] (defScope s_Ltake) := ⟨rfl, rfl, rfl, by decide +kernel, rfl, by decide +kernel, by decide +kernel⟩
theorem sc_Lother : FnScope ["_law_letter", "_law_small", "_law_capital"] ["_law_letter"] (defScope s_Lother) := ⟨rfl, rfl, rfl, by decide +kernel, rfl, by decide +kernel, by decide +kernel⟩
theorem sc_Lyard : FnScope ["_law_box_here", "_law_few", "_law_top", "_law_left", "_law_ends", "_law_k", "_law_letter", "_law_found"] ["_law_box_here", "_law_few", "_law_top"] (defScope s_Lyard) := ⟨rfl, rfl, rfl, by decide +kernel, rfl, by decide +kernel, by decide +kernel⟩
theorem sc_Lorder : FnScope ["_law_box_here", "_law_things", "_law_left", "_law_found"] ["_law_box_here", "_law_things"] (defScope s_Lorder) := ⟨rfl, rfl, rfl, by decide +kernel, rfl, by decide +kernel, by decide +kernel⟩
theorem sc_Lcounted : FnScope ["_law_yard_here", "_law_words", "_law_many", "_law_more"] ["_law_yard_here"] (defScope s_Lcounted) := ⟨rfl, rfl, rfl, by decide +kernel, rfl, by decide +kernel, by decide +kernel⟩
theorem sc_Lless : FnScope ["_law_yard_here", "_law_band", "_law_left", "_law_more"] ["_law_yard_here", "_law_band"] (defScope s_Lless) := ⟨rfl, rfl, rfl, by decide +kernel, rfl, by decide +kernel, by decide +kernel⟩
theorem sc_Lright : FnScope ["_law_yard_here", "_law_order_here", "_law_left", "_law_one"] ["_law_yard_here", "_law_order_here"] (defScope s_Lright) := ⟨rfl, rfl, rfl, by decide +kernel, rfl, by decide +kernel, by decide +kernel⟩
theorem sc_law : FnScope ["_law_script", "_law_asked", "_law_k", "_law_box_here", "_law_yard_here"] ["_law_script"] (defScope s_law) := ⟨rfl, rfl, rfl, by decide +kernel, rfl, by decide +kernel, by decide +kernel⟩
section
variable {P : Program} {w : World} {K : PySem.W.Frag} {mg : Str → Option Value} {base : Heap} {f0 f1 f2 f3 f4 f5 f6 f7 f8 f9 f10 f11 f12 f13 f14 f15 f16 f17 f18 : Addr} {d0 d1 d2 d3 d4 d5 d6 d7 d8 d9 d10 d11 d12 d13 d14 d15 d16 d17 d18 : FuncData}
/-- names: 0 _law_box_here, 1 _law_many, 2 _law_digit, 3 _law_one -/
theorem ok_Ltake (T : Txt K mg f0 f1 f2 f3 f4 f5 f6 f7 f8 f9 f10 f11 f12 f13 f14 f15 f16 f17 f18 d0 d1 d2 d3 d4 d5 d6 d7 d8 d9 d10 d11 d12 d13 d14 d15 d16 d17 d18) : FnOk P w K mg base CX0 1 f11 d11 ["_law_box_here", "_law_many"] (sp_Ltake K) := by
  refine T.F11.fn.ok sc_Ltake (fun vs H Q E h => len_Ltake h) (fun cdv A outer s H vs Q E hr h => ?_)
  refine ⟨_, (pss_cons (ps_if (pt_cmpR op_gt (pe_ix (ix_listK K rfl) (pv 0) pe_int (fun _ _ => rfl)) pe_int (nomark _)) (pss_cons (ps_set (i := 2) sc_Ltake.nd rfl (Or.inl rfl) (pe_op op_mod (pe_ix (ix_listK K rfl) (pv 0) pe_int (fun _ _ => rfl)) (pv 1)))
      (pss_cons (ps_asg (pe_op op_fdiv (pe_ix (ix_listK K rfl) (pv 0) pe_int (fun _ _ => rfl)) (pv 1)) (pg_sub (pv 0) pe_int set_list))
      (pss_one (ps_ret (pv 2))))) pss_nil)
      (pss_cons (ps_set (i := 3) sc_Ltake.nd rfl (Or.inl rfl) (pe_op op_mod (pe_op op_mul (pe_ix (ix_listK K rfl) (pv 0) pe_int (fun _ _ => rfl)) pe_int) pe_int))
      (pss_cons (ps_asg (pe_op op_add (pe_op op_mod (pe_op op_add (pe_op op_mul (pv 3) pe_int) pe_int) pe_int) pe_int) (pg_sub (pv 0) pe_int set_list))
      (pss_one (ps_ret (pe_op op_mod (pe_op op_fdiv (pe_op op_add (pe_op op_mul (pv 3) pe_int) (pe_ix (ix_listK K rfl) (pv 0) pe_int (fun _ _ => rfl))) pe_int) (pv 1))))))), ?_⟩
  obtain ⟨b, m, rfl, ⟨x, y, hb⟩, h1, h2, q⟩ := h
  have fin : ∀ (r x' y' : Int), 0 ≤ r → r < m → Q (.int r) (upd H b (.lst [.int x', .int y'])) := fun r x' y' h3 h4 => by
    have e : r = ((r.toNat : Nat) : Int) := by omega
    rw [e]
    exact q r.toNat _ (by omega) ⟨x', y', upd_same⟩ (SameB.upd b H _)
  refine ⟨_, rfl, b, _, 0, _, rfl, rfl, SqL.of hb, rfl, _, _, rfl, rfl, _, rfl, ite2 (fun e => ?_) (fun e => ?_)⟩
  · refine ⟨_, rfl, b, _, 0, _, rfl, rfl, SqL.of hb, rfl, _, rfl, _, _, rfl, rfl, (by omega : 0 < m), ?_⟩
    refine ⟨_, rfl, b, _, 0, _, rfl, rfl, SqL.of hb, rfl, _, rfl, _, _, rfl, rfl, ⟨by omega, by omega⟩, _, rfl, b, _, 0, 0, rfl, rfl, hb, rfl, _, rfl, ?_⟩
    exact fin (x % m) (x / m) y (Int.emod_nonneg _ (by omega)) (Int.emod_lt_of_pos _ (by omega))
  · refine ⟨_, rfl, b, _, 1, _, rfl, rfl, SqL.of hb, rfl, _, _, rfl, rfl, .inr ⟨by decide, by decide⟩, _, _, rfl, rfl, (by decide : (0 : Int) < 2147483647), ?_⟩
    refine ⟨_, rfl, _, _, rfl, rfl, .inr ⟨by decide, by decide⟩, _, _, rfl, rfl, _, _, rfl, rfl, (by decide : (0 : Int) < 2147483629), _, _, rfl, rfl, _, rfl, b, _, 1, 1, rfl, rfl, hb, rfl, ?_⟩
    refine ⟨_, rfl, _, _, rfl, rfl, .inr ⟨by decide, by decide⟩, _, rfl, b, _, 1, _, rfl, rfl, SqL.of upd_same, rfl, _, _, rfl, rfl, _, _, rfl, rfl, ⟨by decide, by decide⟩, _, rfl, _, _, rfl, rfl, (by omega : 0 < m), ?_⟩
    exact fin _ _ _ (Int.emod_nonneg _ (by omega)) (Int.emod_lt_of_pos _ (by omega))
/-- names: 0 letter -/
theorem ok_contrary (T : Txt K mg f0 f1 f2 f3 f4 f5 f6 f7 f8 f9 f10 f11 f12 f13 f14 f15 f16 f17 f18 d0 d1 d2 d3 d4 d5 d6 d7 d8 d9 d10 d11 d12 d13 d14 d15 d16 d17 d18) : FnOk P w K mg base CX0 1 f0 d0 ["letter"] (sp_contrary K) := by
  refine T.F0.fn.ok sc_contrary (fun vs H Q E h => len_contrary h) (fun cdv A outer s H vs Q E hr h => ?_)
  refine ⟨_, (pss_cons (ps_if (pt_val (pe_bm0K K rfl PySem.F.plainAttrs_str PySem.F.slot_str_islower PySem.F.type_str_islower mt_islower (pv 0))) (pss_one (ps_ret (pe_bm0K K rfl PySem.F.plainAttrs_str PySem.F.slot_str_upper PySem.F.type_str_upper mt_upper (pv 0)))) pss_nil)
      (pss_one (ps_ret (pe_bm0K K rfl PySem.F.plainAttrs_str PySem.F.slot_str_lower PySem.F.type_str_lower mt_lower (pv 0))))), ?_⟩
  obtain ⟨c, rfl, hc, q⟩ := h
  refine ⟨_, rfl, rfl, c, rfl, rfl, hc, _, rfl, ite2 (fun e => ?_) (fun e => ?_)⟩
  · refine ⟨_, rfl, rfl, c, rfl, rfl, hc, ?_⟩
    have z : ctr c = PyProof.Rows.up1 c := if_pos e
    rw [← z]
    exact q
  · refine ⟨_, rfl, rfl, c, rfl, rfl, hc, ?_⟩
    have z : ctr c = PyProof.Rows.lo1 c := if_neg e
    rw [← z]
    exact q
/-- names: 0 word, 1 kept, 2 letter -/
theorem ok_shortened (T : Txt K mg f0 f1 f2 f3 f4 f5 f6 f7 f8 f9 f10 f11 f12 f13 f14 f15 f16 f17 f18 d0 d1 d2 d3 d4 d5 d6 d7 d8 d9 d10 d11 d12 d13 d14 d15 d16 d17 d18) : FnOk P w K mg base CX0 2 f1 d1 ["word"] (sp_shortened K) := by
  have G_contrary := ok_contrary (P := P) (w := w) (base := base) T
  refine T.F1.fn.ok sc_shortened (fun vs H Q E h => len_shortened h) (fun cdv A outer s H vs Q E hr h => ?_)
  refine ⟨_, (pss_cons (ps_set (i := 1) sc_shortened.nd rfl (Or.inl rfl) (pe_lst pa_nil))
      (pss_cons (ps_for PassesOwn.never rfl (pi_str (pv 0)) (pg_name (i := 2) sc_shortened.nd rfl (Or.inl rfl)) (pss_one (ps_if (PW.pt (pw_and (pt_truL K rfl (pv 1)) (pw_and1 (pt_cmpR op_eqS (pe_ix (ix_listK K rfl) (pv 1) (pe_un un_neg pe_int) (fun _ _ => rfl)) (pe_call G_contrary (hr.mono (by decide)) rfl T.F0.mg T.F0.fn.kp T.F0.bd .nil pass0 (pa_cons (pv 2) pa_nil)) (nomark _))))) (pss_one (ps_expr (pe_bm0K K rfl PySem.F.plainAttrs_list PySem.F.slot_list_pop PySem.F.type_list_pop mt_pop (pv 1)))) (pss_one (ps_expr (pe_bmK K rfl PySem.F.plainAttrs_list PySem.F.slot_list_append PySem.F.type_list_append mt_append (pv 1) (pa_cons (pv 2) pa_nil)))))))
      (pss_one (ps_ret (pe_bmK K rfl PySem.F.plainAttrs_str PySem.F.slot_str_join PySem.F.type_str_join (mt_joinK K rfl) (pe_S [] (by decide +kernel)) (pa_cons (pv 1) pa_nil)))))), ?_⟩
  obtain ⟨l, rfl, hl, hz, q⟩ := h
  have hs : (100000 : Nat) < sizeLine := by decide
  walk_at "rd"
  intro p1 n1
  refine ⟨_, rfl, l, rfl, ?_⟩
  refine for_fix (xs := sgs l) (fun i σ H' => ∃ lv, σ = [some (.str (S l)), some (.ref p1), lv] ∧ H' p1 = some (.lst (sgs (red (l.take i)))) ∧ SameB p1 H H') ⟨none, rfl, upd_same, SameB.of (Same.upd n1)⟩ ?_ ?_
  · rintro i x σ H1 hx ⟨lv, rfl, hp, s1⟩
    obtain ⟨c, hc, rfl⟩ := sgs_get hx
    have hi : i < l.length := (List.getElem?_eq_some_iff.mp hc).1
    have h8 : c < 128 := (hl c (List.mem_of_getElem? hc)).lt
    have hrl : (red (l.take i)).length ≤ 1000 := Nat.le_trans (red_len _) (by rw [List.length_take]; omega)
    have fin : ∀ st, st = rstep (red (l.take i)) c → ∃ lv, [some (V.str (S l)), some (V.ref p1), some (V.str (S [c]))] = [some (V.str (S l)), some (.ref p1), lv] ∧ (upd H1 p1 (.lst (sgs st))) p1 = some (.lst (sgs (red (l.take (i + 1))))) ∧ SameB p1 H (upd H1 p1 (.lst (sgs st))) := fun st e =>
      ⟨_, rfl, by rw [upd_same, red_take hc, e], fun b o e z => by rw [upd_ne z]; exact s1 b o e z⟩
    refine ⟨_, rfl, p1, _, rfl, SqL.of hp, ?_⟩
    rcases snoc_cases (red (l.take i)) with e | ⟨m, a, e⟩
    · rw [e] at hp ⊢
      refine iteN rfl ?_
      refine iteF ?_
      refine ⟨_, rfl, .inl ⟨rfl, _, SqL.of hp⟩, _, rfl, p1, _, _, rfl, rfl, hp, by rw [sgs_len]; exact (by decide : (0 : Nat) < sizeLine), ?_⟩
      rw [sgs_snoc]
      refine fin _ ?_
      rw [e]
      unfold rstep
      rw [if_neg (by simp)]
    · rw [e] at hp hrl ⊢
      have hml : m.length ≤ 1000 := by simp at hrl; omega
      rw [← sgs_snoc] at hp ⊢
      refine iteY (by simp) ?_
      refine ⟨_, rfl, _, rfl, p1, _, _, _, rfl, rfl, SqL.of hp, atI_last _ _, _, rfl, c, rfl, h8, [a], [ctr c], rfl, rfl, _, rfl, ite2 (fun z => ?_) (fun z => ?_)⟩
      · have ea : a = ctr c := by simpa using of_decide_eq_true z
        refine ⟨_, rfl, .inl ⟨rfl, _, SqL.of hp⟩, p1, _, V.str (S [a]), rfl, rfl, hp, by simp, ?_⟩
        rw [List.dropLast_concat]
        refine fin _ ?_
        rw [e]
        unfold rstep
        rw [if_pos (by simp [ea]), List.dropLast_concat]
      · have ea : a ≠ ctr c := fun w => z (decide_eq_true (by rw [w]))
        refine ⟨_, rfl, .inl ⟨rfl, _, SqL.of hp⟩, _, rfl, p1, _, _, rfl, rfl, hp, by rw [List.length_append, sgs_len]; show m.length + 1 < sizeLine; omega, ?_⟩
        rw [sgs_snoc, sgs_snoc]
        refine fin _ ?_
        rw [e]
        unfold rstep
        rw [if_neg (by simpa using ea)]
  · rintro σ H1 ⟨lv, rfl, hp, s1⟩
    rw [sgs_take] at hp
    refine ⟨rfl, _, rfl, p1, (red l).map fun c => [c], rfl, rfl, SqL.of (by rw [← sgs_lists]; exact hp), ?_, ?_⟩
    · rw [sum1]
      have := red_len l
      omega
    · rw [flat1]
      exact q _ (fun b o e => s1 b o e (ne_of_none e n1))
/-- names: 0 word, 1 left, 2 start, 3 end -/
theorem ok_shortest (T : Txt K mg f0 f1 f2 f3 f4 f5 f6 f7 f8 f9 f10 f11 f12 f13 f14 f15 f16 f17 f18 d0 d1 d2 d3 d4 d5 d6 d7 d8 d9 d10 d11 d12 d13 d14 d15 d16 d17 d18) : FnOk P w K mg base CX0 3 f2 d2 ["word"] (sp_shortest K) := by
  have G_shortened := ok_shortened (P := P) (w := w) (base := base) T
  have G_contrary := ok_contrary (P := P) (w := w) (base := base) T
  refine T.F2.fn.ok sc_shortest (fun vs H Q E h => len_shortest h) (fun cdv A outer s H vs Q E hr h => ?_)
  refine ⟨_, (pss_cons (ps_set (i := 1) sc_shortest.nd rfl (Or.inl rfl) (pe_call G_shortened (hr.mono (by decide)) rfl T.F1.mg T.F1.fn.kp T.F1.bd .nil pass0 (pa_cons (pv 0) pa_nil)))
      (pss_cons (ps_set (i := 2) sc_shortest.nd rfl (Or.inl rfl) pe_int)
      (pss_cons (ps_set (i := 3) sc_shortest.nd rfl (Or.inl rfl) (pe_callB call_lenS rfl T.z_len PySem.boot_len (pa_cons (pv 1) pa_nil)))
      (pss_cons (ps_whileN PassesOwn.never (PW.pt (pw_and (pt_cmpR op_ge (pe_op op_sub (pv 3) (pv 2)) pe_int (nomark _)) (pw_and1 (pt_cmpR op_eqS (pe_ix ix_S (pv 1) (pv 2) (fun _ _ => rfl)) (pe_call G_contrary (hr.mono (by decide)) rfl T.F0.mg T.F0.fn.kp T.F0.bd .nil pass0 (pa_cons (pe_ix ix_S (pv 1) (pe_op op_sub (pv 3) pe_int) (fun _ _ => rfl)) pa_nil)) (nomark _))))) (pss_cons (ps_aug (i := 2) sc_shortest.nd rfl (Or.inl rfl) pe_int ip_add)
      (pss_one (ps_aug (i := 3) sc_shortest.nd rfl (Or.inl rfl) pe_int ip_sub))))
      (pss_one (ps_ret (pe_slice sl_S (pv 1) (po_some (pv 2)) (po_some (pv 3))))))))), ?_⟩
  obtain ⟨l, rfl, hl, hz, q⟩ := h
  have hs : (100000 : Nat) < sizeLine := by decide
  refine ⟨_, rfl, l, rfl, hl, hz, fun H1 s1 => ?_⟩
  have hr1 := red_len l
  have hlt := red_lt hl
  generalize red l = r at hr1 hlt q ⊢
  have hrz : r.length ≤ sizeLine := by omega
  walk_at "rd"
  refine ⟨fun m σ H' => ∃ (a e : Nat), σ = [some (.str (S l)), some (.str (S r)), some (.int a), some (.int e)] ∧ m = e - a ∧ a ≤ e ∧ e ≤ r.length ∧ core (win r a e) = core r ∧ H' = H1, ⟨_, 0, r.length, rfl, rfl, Nat.zero_le _, Nat.le_refl _, by rw [win_all], rfl⟩, ?_⟩
  rintro m σ H2 ⟨a, e, rfl, rfl, h1, h2, hc, rfl⟩
  have fin : core (win r a e) = win r a e → Q (.str (S (cut r (some (a : Int)) (some (e : Int))))) H2 := fun z => by
    have e1 : cut r (some (a : Int)) (some (e : Int)) = win r a e := by
      unfold cut win
      rw [HT.sIx_nat, HT.sIx_nat]
      have e1 : min a r.length = a := by omega
      have e2 : min e r.length = e := by omega
      rw [e1, e2]
    rw [e1, ← z, hc]
    exact q H2 s1
  walk_at "rd"
  refine ite2 (fun z => ?_) (fun z => ?_)
  · have z1 : (2 : Int) ≤ (e : Int) - (a : Int) := of_decide_eq_true z
    have ha : a < r.length := by omega
    have he : e - 1 < r.length := by omega
    have g0 : atI r (a : Int) = some r[a] := atI_nat (List.getElem?_eq_getElem ha)
    have g1 : atI r ((e : Int) - 1) = some r[e - 1] := by
      have : (e : Int) - 1 = ((e - 1 : Nat) : Int) := by omega
      rw [this]; exact atI_nat (List.getElem?_eq_getElem he)
    have h8 : r[e - 1] < 128 := (hlt _ (List.getElem_mem he)).lt
    have hw := win_go (l := r) (s := a) (e := e) (by omega) h2
    refine ⟨_, rfl, _, rfl, r, _, _, rfl, rfl, hrz, g0, ?_⟩
    walk_at "rd"
    refine ⟨r, _, _, rfl, rfl, hrz, g1, ?_⟩
    walk_at "rd"
    refine ite2 (fun y => ?_) (fun y => ?_)
    · have ey : r[a] = ctr r[e - 1] := by simpa using of_decide_eq_true y
      walk_at "rd"
      refine ⟨(e - 1) - (a + 1), by omega, a + 1, e - 1, ?_, rfl, by omega, by omega, ?_, rfl⟩
      · have e1 : (a : Int) + 1 = ((a + 1 : Nat) : Int) := by omega
        have e2 : (e : Int) - 1 = ((e - 1 : Nat) : Int) := by omega
        rw [← e1, ← e2]
        rfl
      · rw [← hc, hw, core_go ey]
    · have ey : r[a] ≠ ctr r[e - 1] := fun w => y (decide_eq_true (by rw [w]))
      walk_at "rd"
      exact fin (by rw [hw, core_stop ey])
  · have z1 : ¬ (2 : Int) ≤ (e : Int) - (a : Int) := fun w => z (decide_eq_true w)
    walk_at "rd"
    exact fin (core_short (by rw [win_len h2]; omega))
/-- names: 0 _law_script, 1 _law_k, 2 _law_cell, 3 _law_seed -/
theorem ok_Lbox (T : Txt K mg f0 f1 f2 f3 f4 f5 f6 f7 f8 f9 f10 f11 f12 f13 f14 f15 f16 f17 f18 d0 d1 d2 d3 d4 d5 d6 d7 d8 d9 d10 d11 d12 d13 d14 d15 d16 d17 d18) : FnOk P w K mg base CX0 1 f10 d10 ["_law_script", "_law_k"] (sp_Lbox K) := by
  refine T.F10.fn.ok sc_Lbox (fun vs H Q E h => len_Lbox h) (fun cdv A outer s H vs Q E hr h => ?_)
  refine ⟨_, (pss_cons (ps_set (i := 2) sc_Lbox.nd rfl (Or.inl rfl) (pe_op op_add (pe_op op_mul pe_int (pv 1)) pe_int))
      (pss_cons (ps_if (pt_cmpR op_lt (pv 1) (pe_callB (call_len_seqK K rfl) rfl T.z_len PySem.boot_len (pa_cons (pv 0) pa_nil)) (nomark _)) (pss_one (ps_set (i := 2) sc_Lbox.nd rfl (Or.inl rfl) (pe_ix (ix_listK K rfl) (pv 0) (pv 1) (fun _ _ => rfl)))) (pss_one (ps_if (pt_cmpR op_gt (pe_callB (call_len_seqK K rfl) rfl T.z_len PySem.boot_len (pa_cons (pv 0) pa_nil)) pe_int (nomark _)) (pss_one (ps_set (i := 2) sc_Lbox.nd rfl (Or.inl rfl) (pe_op op_add (pv 2) (pe_op op_mul (pe_op op_mod (pe_ix (ix_listK K rfl) (pv 0) (pe_op op_mod (pv 1) (pe_callB (call_len_seqK K rfl) rfl T.z_len PySem.boot_len (pa_cons (pv 0) pa_nil))) (fun _ _ => rfl)) pe_int) pe_int)))) pss_nil)))
      (pss_cons (ps_set (i := 3) sc_Lbox.nd rfl (Or.inl rfl) (pe_op op_mod (pe_op op_pow (pe_op op_add (pe_op op_add (pe_op op_mod (pv 2) pe_int) (pe_op op_mul pe_int (pv 1))) pe_int) pe_int) pe_int))
      (pss_one (ps_ret (pe_lst (pa_cons (pe_ix (ix_listK K rfl) (pe_lst (pa_cons pe_int (pa_cons (pv 2) pa_nil))) (pe_callTy call_int1 rfl T.z_int boot_int (pa_cons (pe_cmpR op_ge (pv 2) (pe_op op_pow pe_int pe_int) (nomark _)) pa_nil)) (fun _ _ => rfl)) (pa_cons (pe_op op_add (pe_op op_mod (pv 3) pe_int) pe_int) pa_nil)))))))), ?_⟩
  obtain ⟨a, ns, k, rfl, hS, hk, q⟩ := h
  have hp : (0 : Int) < 2147483629 := by decide
  walk_at "rd"
  refine ⟨a, _, rfl, .inl hS, ?_⟩
  walk_at "rd"
  refine ite2 (fun e => ?_) (fun e => ?_)
  · have e' : (k : Int) < ((ns.map V.int).length : Nat) := of_decide_eq_true e
    rw [List.length_map] at e'
    obtain ⟨z, hz⟩ := ints_at (ns := ns) (i := k) (by omega)
    walk_at "rd"
    refine ⟨a, _, k, _, rfl, rfl, hS, atI_nat hz, ?_⟩
    walk_at "rd"
    refine fun p1 n1 => ?_
    walk_at "rd"
    refine .inr ⟨_, rfl, ?_⟩
    obtain ⟨y, hy⟩ := box_at _ z
    refine ⟨p1, _, _, _, rfl, rfl, SqL.of upd_same, hy, ?_⟩
    walk_at "rd"
    exact fun p2 n2 => q p2 _ (Same.free (Same.upd n1) n2) ⟨_, _, upd_same⟩ ((Same.upd n1).trans (Same.upd n2))
  · walk_at "rd"
    refine ⟨a, _, rfl, .inl hS, ?_⟩
    walk_at "rd"
    refine ite2 (fun e2 => ?_) (fun e2 => ?_)
    · have e' : (0 : Int) < ((ns.map V.int).length : Nat) := of_decide_eq_true e2
      have hl : (0 : Int) < (ns.length : Int) := by rw [List.length_map] at e'; exact e'
      have m1 : 0 ≤ (k : Int) % (ns.length : Int) := Int.emod_nonneg _ (by omega)
      have m2 : (k : Int) % (ns.length : Int) < (ns.length : Int) := Int.emod_lt_of_pos _ hl
      obtain ⟨z, hz⟩ := ints_at (ns := ns) (i := ((k : Int) % (ns.length : Int)).toNat) (by omega)
      have hz' : atI (ns.map V.int) ((k : Int) % ((ns.map V.int).length : Nat)) = some (V.int z) := by
        have := atI_nat hz
        rw [Int.toNat_of_nonneg m1] at this
        rw [List.length_map]
        exact this
      walk_at "rd"
      refine ⟨a, _, rfl, .inl hS, ?_⟩
      walk_at "rd"
      refine ⟨a, _, _, _, rfl, rfl, hS, hz', ?_⟩
      walk_at "rd"
      refine fun p1 n1 => ?_
      walk_at "rd"
      refine .inr ⟨_, rfl, ?_⟩
      obtain ⟨y, hy⟩ := box_at _ _
      refine ⟨p1, _, _, _, rfl, rfl, SqL.of upd_same, hy, ?_⟩
      walk_at "rd"
      exact fun p2 n2 => q p2 _ (Same.free (Same.upd n1) n2) ⟨_, _, upd_same⟩ ((Same.upd n1).trans (Same.upd n2))
    · walk_at "rd"
      refine fun p1 n1 => ?_
      walk_at "rd"
      refine .inr ⟨_, rfl, ?_⟩
      obtain ⟨y, hy⟩ := box_at _ _
      refine ⟨p1, _, _, _, rfl, rfl, SqL.of upd_same, hy, ?_⟩
      walk_at "rd"
      exact fun p2 n2 => q p2 _ (Same.free (Same.upd n1) n2) ⟨_, _, upd_same⟩ ((Same.upd n1).trans (Same.upd n2))
/-- names: 0 _law_letter, 1 _law_small, 2 _law_capital -/
theorem ok_Lother (T : Txt K mg f0 f1 f2 f3 f4 f5 f6 f7 f8 f9 f10 f11 f12 f13 f14 f15 f16 f17 f18 d0 d1 d2 d3 d4 d5 d6 d7 d8 d9 d10 d11 d12 d13 d14 d15 d16 d17 d18) : FnOk P w K mg base CX0 1 f12 d12 ["_law_letter"] (sp_Lother K) := by
  refine T.F12.fn.ok sc_Lother (fun vs H Q E h => len_Lother h) (fun cdv A outer s H vs Q E hr h => ?_)
  refine ⟨_, (pss_cons (ps_set (i := 1) sc_Lother.nd rfl (Or.inl rfl) (pe_S [97, 98, 99, 100, 101, 102, 103, 104, 105, 106, 107, 108, 109, 110, 111, 112, 113, 114, 115, 116, 117, 118, 119, 120, 121, 122] (by decide +kernel)))
      (pss_cons (ps_set (i := 2) sc_Lother.nd rfl (Or.inl rfl) (pe_S [65, 66, 67, 68, 69, 70, 71, 72, 73, 74, 75, 76, 77, 78, 79, 80, 81, 82, 83, 84, 85, 86, 87, 88, 89, 90] (by decide +kernel)))
      (pss_cons (ps_if (pt_cmpR op_inS (pv 0) (pv 1) (by with_unfolding_all rfl)) (pss_one (ps_ret (pe_ix ix_S (pv 2) (pe_bmK K rfl PySem.F.plainAttrs_str PySem.F.slot_str_index PySem.F.type_str_index mt_indexS (pv 1) (pa_cons (pv 0) pa_nil)) (fun _ _ => rfl)))) pss_nil)
      (pss_one (ps_ret (pe_ix ix_S (pv 1) (pe_bmK K rfl PySem.F.plainAttrs_str PySem.F.slot_str_index PySem.F.type_str_index mt_indexS (pv 2) (pa_cons (pv 0) pa_nil)) (fun _ _ => rfl))))))), ?_⟩
  obtain ⟨c, rfl, hc, q⟩ := h
  refine ⟨_, rfl, _, rfl, c, smalls, rfl, rfl, _, rfl, ite2 (fun e => ?_) (fun e => ?_)⟩
  · have hm : c ∈ smalls := of_decide_eq_true e
    exact ⟨_, rfl, _, rfl, rfl, _, rfl, smalls, c, rfl, rfl, hm, caps, _, ctr c, rfl, rfl, by decide, other_small c hm, q⟩
  · have hm : c ∈ caps := hc.resolve_left fun z => e (decide_eq_true z)
    exact ⟨_, rfl, _, rfl, rfl, _, rfl, caps, c, rfl, rfl, hm, smalls, _, ctr c, rfl, rfl, by decide, other_cap c hm, q⟩
/-- names: 0 _law_box_here, 1 _law_few, 2 _law_top, 3 _law_left, 4 _law_ends, 5 _law_k, 6 _law_letter, 7 _law_found -/
theorem ok_Lyard (T : Txt K mg f0 f1 f2 f3 f4 f5 f6 f7 f8 f9 f10 f11 f12 f13 f14 f15 f16 f17 f18 d0 d1 d2 d3 d4 d5 d6 d7 d8 d9 d10 d11 d12 d13 d14 d15 d16 d17 d18) : FnOk P w K mg base CX0 2 f13 d13 ["_law_box_here", "_law_few", "_law_top"] (sp_Lyard K) := by
  have G_Ltake := ok_Ltake (P := P) (w := w) (base := base) T
  have G_Lother := ok_Lother (P := P) (w := w) (base := base) T
  refine T.F13.fn.ok sc_Lyard (fun vs H Q E h => len_Lyard h) (fun cdv A outer s H vs Q E hr h => ?_)
  refine ⟨_, (pss_cons (ps_set (i := 3) sc_Lyard.nd rfl (Or.inl rfl) (pe_callTy (call_listS rfl) rfl T.z_list boot_list (pa_cons (pe_S [97, 98, 99, 100, 101, 102, 103, 104, 105, 106, 107, 108, 109, 110, 111, 112, 113, 114, 115, 116, 117, 118, 119, 120, 121, 122] (by decide +kernel)) pa_nil)))
      (pss_cons (ps_set (i := 4) sc_Lyard.nd rfl (Or.inl rfl) (pe_lst pa_nil))
      (pss_cons (ps_for PassesOwn.never rfl (pi_range1 rfl T.z_range (pa_cons (pe_op op_add (pv 1) (pe_call G_Ltake (hr.mono (by decide)) rfl T.F11.mg T.F11.fn.kp T.F11.bd .nil pass0 (pa_cons (pv 0) (pa_cons (pe_op op_add (pe_op op_sub (pv 2) (pv 1)) pe_int) pa_nil)))) pa_nil)) (pg_name (i := 5) sc_Lyard.nd rfl (Or.inl rfl)) (pss_cons (ps_set (i := 6) sc_Lyard.nd rfl (Or.inl rfl) (pe_bmK K rfl PySem.F.plainAttrs_list PySem.F.slot_list_pop PySem.F.type_list_pop mt_popAt (pv 3) (pa_cons (pe_call G_Ltake (hr.mono (by decide)) rfl T.F11.mg T.F11.fn.kp T.F11.bd .nil pass0 (pa_cons (pv 0) (pa_cons (pe_callB (call_len_seqK K rfl) rfl T.z_len PySem.boot_len (pa_cons (pv 3) pa_nil)) pa_nil))) pa_nil)))
      (pss_one (ps_set (i := 4) sc_Lyard.nd rfl (Or.inl rfl) (pe_op op_cat (pv 4) (pe_lst (pa_cons (pv 6) (pa_cons (pe_call G_Lother (hr.mono (by decide)) rfl T.F12.mg T.F12.fn.kp T.F12.bd .nil pass0 (pa_cons (pv 6) pa_nil)) pa_nil))))))))
      (pss_cons (ps_set (i := 7) sc_Lyard.nd rfl (Or.inl rfl) (pe_S [] (by decide +kernel)))
      (pss_cons (ps_whileN PassesOwn.never (pt_cmpR op_gt (pe_callB (call_len_seqK K rfl) rfl T.z_len PySem.boot_len (pa_cons (pv 4) pa_nil)) pe_int (nomark _)) (pss_one (ps_set (i := 7) sc_Lyard.nd rfl (Or.inl rfl) (pe_op op_addS (pv 7) (pe_bmK K rfl PySem.F.plainAttrs_list PySem.F.slot_list_pop PySem.F.type_list_pop mt_popAt (pv 4) (pa_cons (pe_call G_Ltake (hr.mono (by decide)) rfl T.F11.mg T.F11.fn.kp T.F11.bd .nil pass0 (pa_cons (pv 0) (pa_cons (pe_callB (call_len_seqK K rfl) rfl T.z_len PySem.boot_len (pa_cons (pv 4) pa_nil)) pa_nil))) pa_nil))))))
      (pss_one (ps_ret (pv 7)))))))), ?_⟩
  obtain ⟨b, few, top, rfl, hb, h1, h2, h3, q⟩ := h
  have hs : (100000 : Nat) < sizeLine := by decide
  walk_at "rd"
  intro p1 n1
  walk_at "rd"
  intro p2 n2
  have s1 : Same H (upd (upd H p1 (.lst (sgs smalls))) p2 (.lst [])) := (Same.upd n1).trans (Same.upd n2)
  have bp1 : p1 ≠ b := hb.ne n1
  have np2 : H p2 = none := Same.free (Same.upd n1) n2
  have bp2 : p2 ≠ b := hb.ne np2
  have p12 : p1 ≠ p2 := fun z => by rw [← z, upd_same] at n2; cases n2
  walk_at "rd"
  refine ⟨b, _, rfl, hb.same s1, by omega, by omega, fun n H1 hn hb1 s2 => ?_⟩
  walk_at "rd"
  refine for_range (fun i σ H' => ∃ (pe : Addr) (L E : List Nat) (kv lv : Option V), σ = [some (.ref b), some (.int few), some (.int top), some (.ref p1), some (.ref pe), kv, lv, none] ∧ YdW i L E ∧ H' p1 = some (.lst (sgs L)) ∧ H' pe = some (.lst (sgs E)) ∧ p1 ≠ pe ∧ H pe = none ∧ BoxAt H' b ∧ SameB b H H')
    ⟨p2, smalls, [], none, none, rfl, YdW.start, s2 _ _ (by rw [upd_ne p12, upd_same]; rfl) bp1, s2 _ _ upd_same bp2, p12, np2, hb1, (SameB.of s1).trans s2⟩ ?_ ?_
  · rintro i σ H2 hi ⟨pe, L, E, kv, lv, rfl, yw, hp1, hpe, n1e, npe, hb2, s3⟩
    have hi2 : i < 26 := by simp at hi; omega
    have hll := yw.ll
    have hel := yw.el
    refine ⟨_, rfl, .inl ⟨rfl, _, SqL.of hp1⟩, ?_⟩
    walk_at "rd"
    refine ⟨p1, _, rfl, .inl (SqL.of hp1), b, _, rfl, hb2, by rw [sgs_len]; omega, by rw [sgs_len]; omega, fun r H3 hr3 hb3 s4 => ?_⟩
    rw [sgs_len] at hr3
    have hr4 : r < L.length := by omega
    have hp1' := s4 _ _ hp1 bp1
    have hpe' := s4 _ _ hpe (hb.ne npe)
    refine ⟨p1, _, _, r, _, rfl, rfl, hp1', by omega, by omega, by rw [sgs_len, seqIndex_of (by omega) (by omega), Int.toNat_natCast], sgs_at hr4, ?_⟩
    rw [sgs_erase]
    have hlt : Lt L[r] := .inl (yw.sm _ (List.getElem_mem hr4))
    have hpe2 : (upd H3 p1 (.lst (sgs (L.eraseIdx r)))) pe = some (.lst (sgs E)) := by rw [upd_ne (Ne.symm n1e)]; exact hpe'
    walk_at "rd"
    intro p3 n3
    have e3 : pe ≠ p3 := ne_of_none hpe2 n3
    refine ⟨pe, p3, _, _, rfl, rfl, by rw [upd_ne e3]; exact hpe2, upd_same, by rw [sgs_len]; show E.length + 2 ≤ _; omega, fun p4 n4 => ?_⟩
    have n3' : H p3 = none := ((s3.trans s4).updN n1).none n3 (hb3.updN bp1 |>.ne n3)
    have bx3 := (hb3.updN (o := .lst (sgs (L.eraseIdx r))) bp1).updN (o := .lst [V.str (S [L[r]]), V.str (S [ctr L[r]])]) (hb.ne n3')
    have sx3 := ((s3.trans s4).updN (o := .lst (sgs (L.eraseIdx r))) n1).updN (o := .lst [V.str (S [L[r]]), V.str (S [ctr L[r]])]) n3'
    have n4' : H p4 = none := sx3.none n4 (bx3.ne n4)
    have h14 : p1 ≠ p4 := fun z => by rw [← z] at n4; by_cases z3 : p1 = p3 <;> simp [upd, z3] at n4
    have h13 : p1 ≠ p3 := fun z => by rw [← z, upd_same] at n3; cases n3
    refine ⟨p4, L.eraseIdx r, E ++ [L[r], ctr L[r]], _, _, rfl, yw.turn hi2 hr4, by rw [upd_ne h14, upd_ne h13, upd_same], ?_, h14, n4', bx3.updN (hb.ne n4'), sx3.updN n4'⟩
    rw [upd_same, ← sgs_app]
    rfl
  · rintro σ H2 ⟨pe, L, E, kv, lv, rfl, yw, hp1, hpe, n1e, npe, hb2, s3⟩
    have hel := yw.el
    have hbe := hb.ne npe
    walk_at "rd"
    refine ⟨fun m σ H' => ∃ F E' : List Nat, σ = [some (.ref b), some (.int few), some (.int top), some (.ref p1), some (.ref pe), kv, lv, some (.str (S F))] ∧ m = E'.length ∧ (F ++ E').Perm E ∧ H' pe = some (.lst (sgs E')) ∧ BoxAt H' b ∧ SameB b H H', ⟨_, [], E, rfl, rfl, List.Perm.refl _, hpe, hb2, s3⟩, ?_⟩
    rintro m σ H3 ⟨F, E', rfl, rfl, hpm, hpe3, hb3, s4⟩
    have hlen := hpm.length_eq
    rw [List.length_append] at hlen
    have hn2 : (few : Int) + n ≤ 9 := by omega
    have hE26 : E.length ≤ 100 := by rw [hel]; omega
    walk_at "rd"
    refine ⟨pe, _, rfl, .inl (SqL.of hpe3), _, _, rfl, rfl, _, rfl, ite2 (fun e => ?_) (fun e => ?_)⟩
    · have e' : (0 : Int) < ((sgs E').length : Nat) := of_decide_eq_true e
      rw [sgs_len] at e'
      refine ⟨_, rfl, _, rfl, .inl ⟨rfl, _, SqL.of hpe3⟩, ?_⟩
      walk_at "rd"
      refine ⟨pe, _, rfl, .inl (SqL.of hpe3), b, _, rfl, hb3, by rw [sgs_len]; omega, by rw [sgs_len]; omega, fun r H4 hr4 hb4 s5 => ?_⟩
      rw [sgs_len] at hr4
      have hr5 : r < E'.length := by omega
      refine ⟨pe, _, _, r, _, rfl, rfl, s5 _ _ hpe3 hbe, by omega, by omega, by rw [sgs_len, seqIndex_of (by omega) (by omega), Int.toNat_natCast], sgs_at hr5, ?_⟩
      rw [sgs_erase]
      have hp := erase_perm (List.getElem?_eq_getElem hr5)
      have hpl := hp.length_eq
      rw [List.length_cons] at hpl
      refine ⟨F, _, rfl, rfl, by show F.length + 1 ≤ _; omega, (E'.eraseIdx r).length, by omega, F ++ [E'[r]], E'.eraseIdx r, rfl, rfl, ?_, upd_same, hb4.updN hbe, (s4.trans s5).updN npe⟩
      rw [List.append_assoc]
      exact (List.Perm.append_left F hp).trans hpm
    · have e' : E' = [] := by
        cases E' with
        | nil => rfl
        | cons c r => exact absurd (decide_eq_true (by rw [sgs_len]; show (0 : Int) < ((r.length + 1 : Nat) : Int); omega)) e
      subst e'
      rw [List.append_nil] at hpm
      have hl2 := hpm.length_eq
      refine ⟨_, rfl, q F H3 (yw.yd.perm hpm.symm) ?_ ?_ hb3 s4⟩
      · rw [hl2, hel]; omega
      · rw [hl2, hel]; omega
/-- names: 0 _law_box_here, 1 _law_things, 2 _law_left, 3 _law_found -/
theorem ok_Lorder (T : Txt K mg f0 f1 f2 f3 f4 f5 f6 f7 f8 f9 f10 f11 f12 f13 f14 f15 f16 f17 f18 d0 d1 d2 d3 d4 d5 d6 d7 d8 d9 d10 d11 d12 d13 d14 d15 d16 d17 d18) : FnOk P w K mg base CX0 2 f14 d14 ["_law_box_here", "_law_things"] (sp_Lorder K) := by
  have G_Ltake := ok_Ltake (P := P) (w := w) (base := base) T
  refine T.F14.fn.ok sc_Lorder (fun vs H Q E h => len_Lorder h) (fun cdv A outer s H vs Q E hr h => ?_)
  refine ⟨_, (pss_cons (ps_set (i := 2) sc_Lorder.nd rfl (Or.inl rfl) (pe_callTy (call_list_ofK K rfl) rfl T.z_list boot_list (pa_cons (pv 1) pa_nil)))
      (pss_cons (ps_set (i := 3) sc_Lorder.nd rfl (Or.inl rfl) (pe_lst pa_nil))
      (pss_cons (ps_whileN PassesOwn.never (pt_cmpR op_gt (pe_callB (call_len_seqK K rfl) rfl T.z_len PySem.boot_len (pa_cons (pv 2) pa_nil)) pe_int (nomark _)) (pss_one (ps_expr (pe_bmK K rfl PySem.F.plainAttrs_list PySem.F.slot_list_append PySem.F.type_list_append mt_append (pv 3) (pa_cons (pe_bmK K rfl PySem.F.plainAttrs_list PySem.F.slot_list_pop PySem.F.type_list_pop mt_popAt (pv 2) (pa_cons (pe_call G_Ltake (hr.mono (by decide)) rfl T.F11.mg T.F11.fn.kp T.F11.bd .nil pass0 (pa_cons (pv 0) (pa_cons (pe_callB (call_len_seqK K rfl) rfl T.z_len PySem.boot_len (pa_cons (pv 2) pa_nil)) pa_nil))) pa_nil)) pa_nil)))))
      (pss_one (ps_ret (pv 3)))))), ?_⟩
  obtain ⟨b, p, l, rfl, hb, hp, hz, q⟩ := h
  have hs : (100000 : Nat) < sizeLine := by decide
  refine ⟨_, rfl, p, _, rfl, .inl hp, fun p1 n1 => ?_⟩
  walk_at "wk"
  intro p2 n2
  have s1 : Same H (upd (upd H p1 (.lst (sgs l))) p2 (.lst [])) := (Same.upd n1).trans (Same.upd n2)
  have bp1 : p1 ≠ b := hb.ne n1
  have np2 : H p2 = none := Same.free (Same.upd n1) n2
  have bp2 : p2 ≠ b := hb.ne np2
  have p12 : p1 ≠ p2 := fun z => by rw [← z, upd_same] at n2; cases n2
  refine ⟨fun m σ H' => ∃ F E' : List Nat, σ = [some (.ref b), some (.ref p), some (.ref p1), some (.ref p2)] ∧ m = E'.length ∧ (F ++ E').Perm l ∧ H' p1 = some (.lst (sgs E')) ∧ H' p2 = some (.lst (sgs F)) ∧ BoxAt H' b ∧ SameB b H H', ⟨_, [], l, rfl, rfl, List.Perm.refl _, by rw [upd_ne p12, upd_same], upd_same, hb.same s1, SameB.of s1⟩, ?_⟩
  rintro m σ H3 ⟨F, E', rfl, rfl, hpm, hp1, hp2, hb3, s4⟩
  have hlen := hpm.length_eq
  rw [List.length_append] at hlen
  walk_at "wk"
  refine ⟨p1, _, rfl, .inl (SqL.of hp1), _, _, rfl, rfl, _, rfl, ite2 (fun e => ?_) (fun e => ?_)⟩
  · have e' : (0 : Int) < ((sgs E').length : Nat) := of_decide_eq_true e
    rw [sgs_len] at e'
    refine ⟨_, rfl, .inl ⟨rfl, _, SqL.of hp2⟩, _, rfl, .inl ⟨rfl, _, SqL.of hp1⟩, ?_⟩
    walk_at "wk"
    refine ⟨p1, _, rfl, .inl (SqL.of hp1), b, _, rfl, hb3, by rw [sgs_len]; omega, by rw [sgs_len]; omega, fun r H4 hr4 hb4 s5 => ?_⟩
    rw [sgs_len] at hr4
    have hr5 : r < E'.length := by omega
    refine ⟨p1, _, _, r, _, rfl, rfl, s5 _ _ hp1 bp1, by omega, by omega, by rw [sgs_len, seqIndex_of (by omega) (by omega), Int.toNat_natCast], sgs_at hr5, ?_⟩
    rw [sgs_erase]
    have hpe := erase_perm (List.getElem?_eq_getElem hr5)
    have hpl := hpe.length_eq
    rw [List.length_cons] at hpl
    refine ⟨p2, _, _, rfl, rfl, by rw [upd_ne (Ne.symm p12)]; exact s5 _ _ hp2 bp2, by rw [sgs_len]; omega, ?_⟩
    rw [sgs_snoc]
    refine ⟨(E'.eraseIdx r).length, by omega, F ++ [E'[r]], E'.eraseIdx r, rfl, rfl, ?_, by rw [upd_ne p12, upd_same], upd_same, (hb4.updN bp1).updN bp2, ((s4.trans s5).updN n1).updN np2⟩
    rw [List.append_assoc]
    exact (List.Perm.append_left F hpe).trans hpm
  · have e' : E' = [] := by
      cases E' with
      | nil => rfl
      | cons c r => exact absurd (decide_eq_true (by rw [sgs_len]; show (0 : Int) < ((r.length + 1 : Nat) : Int); omega)) e
    subst e'
    rw [List.append_nil] at hpm
    exact ⟨_, rfl, q p2 F H3 np2 bp2 hp2 hpm hb3 s4⟩
/-- names: 0 yard -/
theorem ok_bands (T : Txt K mg f0 f1 f2 f3 f4 f5 f6 f7 f8 f9 f10 f11 f12 f13 f14 f15 f16 f17 f18 d0 d1 d2 d3 d4 d5 d6 d7 d8 d9 d10 d11 d12 d13 d14 d15 d16 d17 d18) : FnOk P w K mg base CX0 1 f4 d4 ["yard"] (sp_bands K) := by
  refine T.F4.fn.ok sc_bands (fun vs H Q E h => len_bands h) (fun cdv A outer s H vs Q E hr h => ?_)
  refine ⟨_, (pss_one (ps_ret (pe_bmK K rfl PySem.F.plainAttrs_str PySem.F.slot_str_join PySem.F.type_str_join (mt_joinK K rfl) (pe_S [] (by decide +kernel)) (pa_cons (pe_callB (call_sortedK K rfl) rfl T.z_sorted boot_sorted (pa_cons (pe_compB ["letter"] [none] (pi_str (pv 0)) trivial (fun _ _ _ _ => (pg_name (i := 0) (by decide +kernel : List.Nodup (["letter"] : List Str)) rfl (Or.inl rfl))) (fun _ _ _ _ => (pf_one (pt_val (pe_bm0K K rfl PySem.F.plainAttrs_str PySem.F.slot_str_islower PySem.F.type_str_islower mt_islower (pv 0))))) (fun _ _ _ _ => (pv 0))) pa_nil)) pa_nil)))), ?_⟩
  obtain ⟨l, rfl, hl, hz, q⟩ := h
  have hs : (1000 : Nat) < sizeLine := by decide
  refine ⟨rfl, _, rfl, l, rfl, ?_⟩
  refine comp_fix (xs := sgs l) (fun i acc H' => Same H H' ∧ acc = sgs ((l.take i).filter isLow)) (by rw [sgs_len]; omega) ⟨Same.refl H, rfl⟩ ?_ ?_
  · rintro i x acc H1 Nx hi hx hal ⟨s1, rfl⟩ nx
    obtain ⟨c, hc, rfl⟩ := sgs_get hx
    have e := filter_take (p := isLow) hc
    refine ⟨trivial, ?_⟩
    refine ⟨_, rfl, rfl, c, rfl, rfl, hl c (List.mem_of_getElem? hc), _, rfl, ?_⟩
    refine ite2 (fun z => ?_) (fun z => ?_)
    · rw [if_pos z] at e
      exact ⟨_, rfl, nx _ _ (by simpa using hal) ⟨s1, by rw [e, ← sgs_snoc]⟩⟩
    · rw [if_neg z, List.append_nil] at e
      exact nx _ _ (Nat.le_succ_of_le hal) ⟨s1, by rw [e]⟩
  · rintro acc H1 D hal ⟨s1, rfl⟩ hD
    rw [sgs_take, sgs_lists]
    have hfl : (l.filter isLow).length ≤ l.length := List.length_filter_le _ _
    refine ⟨D, (l.filter isLow).map fun c => [c], rfl, SqL.of upd_same, by rw [List.length_map]; omega, fun p ls hp hpm hpw => ?_⟩
    obtain ⟨l', rfl, pl⟩ := ones_of hpm
    have hl' := pl.length_eq
    refine ⟨p, l'.map fun c => [c], rfl, rfl, SqL.of upd_same, by rw [sum1]; omega, ?_⟩
    rw [flat1]
    exact q l' _ pl (ones_pw hpw) ((s1.trans (Same.upd hD)).trans (Same.upd hp))
/-- names: 0 yard, 1 end -/
theorem ok_next_end (T : Txt K mg f0 f1 f2 f3 f4 f5 f6 f7 f8 f9 f10 f11 f12 f13 f14 f15 f16 f17 f18 d0 d1 d2 d3 d4 d5 d6 d7 d8 d9 d10 d11 d12 d13 d14 d15 d16 d17 d18) : FnOk P w K mg base CX0 1 f6 d6 ["yard", "end"] (sp_next_end K) := by
  refine T.F6.fn.ok sc_next_end (fun vs H Q E h => len_next_end h) (fun cdv A outer s H vs Q E hr h => ?_)
  refine ⟨_, (pss_one (ps_ret (pe_ix ix_S (pv 0) (pe_op op_mod (pe_op op_add (pe_bmK K rfl PySem.F.plainAttrs_str PySem.F.slot_str_index PySem.F.type_str_index mt_indexS (pv 0) (pa_cons (pv 1) pa_nil)) pe_int) (pe_callB call_lenS rfl T.z_len PySem.boot_len (pa_cons (pv 0) pa_nil))) (fun _ _ => rfl)))), ?_⟩
  obtain ⟨y, e, rfl, he, hz, q⟩ := h
  have hs : (1000 : Nat) < sizeLine := by decide
  have hp : (0 : Int) < (y.length : Int) := by have := List.length_pos_of_mem he; omega
  obtain ⟨hk, e2⟩ := nxt_at he
  have hat : atI y ((((y.idxOf e : Nat) : Int) + 1) % (y.length : Int)) = some (nxt y e) := by
    have : ((((y.idxOf e : Nat) : Int) + 1) % (y.length : Int)) = (((y.idxOf e + 1) % y.length : Nat) : Int) := by push_cast; rfl
    rw [this, e2]
    exact atI_nat (List.getElem?_eq_getElem hk)
  exact ⟨_, rfl, _, rfl, rfl, _, rfl, y, e, rfl, rfl, he, _, _, rfl, rfl, _, rfl, y, rfl, by omega, _, _, rfl, rfl, hp, y, _, _, rfl, rfl, by omega, hat, q⟩
/-- names: 0 yard, 1 start, 2 word, 3 place, 4 passed -/
theorem ok_rim_behind (T : Txt K mg f0 f1 f2 f3 f4 f5 f6 f7 f8 f9 f10 f11 f12 f13 f14 f15 f16 f17 f18 d0 d1 d2 d3 d4 d5 d6 d7 d8 d9 d10 d11 d12 d13 d14 d15 d16 d17 d18) : FnOk P w K mg base CX0 2 f7 d7 ["yard", "start"] (sp_rim_behind K) := by
  have G_next_end := ok_next_end (P := P) (w := w) (base := base) T
  have G_contrary := ok_contrary (P := P) (w := w) (base := base) T
  refine T.F7.fn.ok sc_rim_behind (fun vs H Q E h => len_rim_behind h) (fun cdv A outer s H vs Q E hr h => ?_)
  refine ⟨_, (pss_cons (ps_set (i := 2) sc_rim_behind.nd rfl (Or.inl rfl) (pe_S [] (by decide +kernel)))
      (pss_cons (ps_set (i := 3) sc_rim_behind.nd rfl (Or.inl rfl) (pv 1))
      (pss_cons (ps_whileN PassesOwn.never (PW.pt (pw_or (pt_cmpR op_eqS (pv 2) (pe_S [] (by decide +kernel)) (nomark _)) (pw_or1 (pt_cmpR op_neS (pv 3) (pv 1) (nomark _))))) (pss_cons (ps_set (i := 4) sc_rim_behind.nd rfl (Or.inl rfl) (pe_call G_next_end (hr.mono (by decide)) rfl T.F6.mg T.F6.fn.kp T.F6.bd .nil pass0 (pa_cons (pv 0) (pa_cons (pv 3) pa_nil))))
      (pss_cons (ps_aug (i := 2) sc_rim_behind.nd rfl (Or.inl rfl) (pv 4) ip_addS)
      (pss_one (ps_set (i := 3) sc_rim_behind.nd rfl (Or.inl rfl) (pe_call G_contrary (hr.mono (by decide)) rfl T.F0.mg T.F0.fn.kp T.F0.bd .nil pass0 (pa_cons (pv 4) pa_nil)))))))
      (pss_one (ps_ret (pv 2)))))), ?_⟩
  obtain ⟨y, e, rfl, hy, he, hz, q⟩ := h
  have hs : (1000 : Nat) < sizeLine := by decide
  walk_at "wk"
  refine ⟨fun m σ H' => H' = H ∧ ∃ (w : List Nat) (pl : Nat) (pv : Option V), σ = [some (.str (S y)), some (.str (S [e])), some (.str (S w)), some (.str (S [pl])), pv] ∧ m = y.length - w.length ∧ RimW y e w pl, ⟨_, rfl, [], e, none, rfl, rfl, RimW.start he⟩, ?_⟩
  rintro m σ H1 ⟨rfl, w, pl, pv, rfl, rfl, r⟩
  refine ⟨_, rfl, w, [], rfl, rfl, _, rfl, ite2 (fun z => ?_) (fun z => ?_)⟩
  · have hw0 : w = [] := of_decide_eq_true z
    refine iteT ?_
    have rt := r.turn hy he (.inl hw0)
    have hlt := rt.way.len
    rw [List.length_append] at hlt
    have hl1 : w.length + 1 ≤ y.length := hlt
    have h8 : nxt y pl < 128 := (hy.lt _ (nxt_mem r.ply)).lt
    have hwz : w.length + [nxt y pl].length ≤ sizeLine := by show w.length + 1 ≤ _; omega
    refine ⟨_, rfl, _, rfl, y, pl, rfl, r.ply, by omega, ?_⟩
    walk_at "wk"
    refine ⟨y.length - (w ++ [nxt y pl]).length, by rw [List.length_append]; show y.length - (w.length + 1) < _; omega, rfl, _, _, _, rfl, rfl, rt⟩
  · have hw0 : w ≠ [] := fun q => z (decide_eq_true q)
    refine ⟨_, rfl, _, rfl, [pl], [e], rfl, rfl, _, rfl, ite2 (fun z2 => ?_) (fun z2 => ?_)⟩
    · have hpe : pl ≠ e := fun q => by rw [q] at z2; simp at z2
      have rt := r.turn hy he (.inr hpe)
      have hlt := rt.way.len
      rw [List.length_append] at hlt
      have hl1 : w.length + 1 ≤ y.length := hlt
      have h8 : nxt y pl < 128 := (hy.lt _ (nxt_mem r.ply)).lt
      have hwz : w.length + [nxt y pl].length ≤ sizeLine := by show w.length + 1 ≤ _; omega
      refine ⟨_, rfl, _, rfl, y, pl, rfl, r.ply, by omega, ?_⟩
      walk_at "wk"
      refine ⟨y.length - (w ++ [nxt y pl]).length, by rw [List.length_append]; show y.length - (w.length + 1) < _; omega, rfl, _, _, _, rfl, rfl, rt⟩

    · have hpe : pl = e := by simpa using z2
      subst hpe
      obtain ⟨o1, o2⟩ := r.stop hy hw0
      exact ⟨_, rfl, q w o1 r.way.iny o2⟩
/-- names: 0 word, 1 whole, 2 least, 3 start, 4 begun -/
theorem ok_ring (T : Txt K mg f0 f1 f2 f3 f4 f5 f6 f7 f8 f9 f10 f11 f12 f13 f14 f15 f16 f17 f18 d0 d1 d2 d3 d4 d5 d6 d7 d8 d9 d10 d11 d12 d13 d14 d15 d16 d17 d18) : FnOk P w K mg base CX0 4 f3 d3 ["word"] (sp_ring K) := by
  have G_shortest := ok_shortest (P := P) (w := w) (base := base) T
  refine T.F3.fn.ok sc_ring (fun vs H Q E h => len_ring h) (fun cdv A outer s H vs Q E hr h => ?_)
  refine ⟨_, (pss_cons (ps_set (i := 1) sc_ring.nd rfl (Or.inl rfl) (pe_call G_shortest (hr.mono (by decide)) rfl T.F2.mg T.F2.fn.kp T.F2.bd .nil pass0 (pa_cons (pv 0) pa_nil)))
      (pss_cons (ps_set (i := 2) sc_ring.nd rfl (Or.inl rfl) (pv 1))
      (pss_cons (ps_for PassesOwn.never rfl (pi_range2 rfl T.z_range (pa_cons pe_int (pa_cons (pe_callB call_lenS rfl T.z_len PySem.boot_len (pa_cons (pv 1) pa_nil)) pa_nil))) (pg_name (i := 3) sc_ring.nd rfl (Or.inl rfl)) (pss_cons (ps_set (i := 4) sc_ring.nd rfl (Or.inl rfl) (pe_op op_addS (pe_slice sl_S (pv 1) (po_some (pv 3)) po_none) (pe_slice sl_S (pv 1) po_none (po_some (pv 3)))))
      (pss_one (ps_if (pt_cmpR op_ltS (pv 4) (pv 2) (nomark _)) (pss_one (ps_set (i := 2) sc_ring.nd rfl (Or.inl rfl) (pv 4))) pss_nil))))
      (pss_one (ps_ret (pv 2)))))), ?_⟩
  obtain ⟨l, rfl, hl, hz, q⟩ := h
  have hs : (100000 : Nat) < sizeLine := by decide
  refine ⟨_, rfl, l, rfl, hl, hz, fun H1 s1 => ?_⟩
  have hc1 : (core (red l)).length ≤ 1000 := Nat.le_trans (core_len _) (Nat.le_trans (red_len l) hz)
  unfold ringM ringC at q
  generalize core (red l) = c at hc1 q ⊢
  have hcz : c.length ≤ sizeLine := by omega
  walk_at "rd"
  refine ⟨_, _, rfl, ⟨by decide, by decide, by omega, by omega⟩, ?_⟩
  refine for_range (fun i σ H' => H' = H1 ∧ ∃ sv bv, σ = [some (.str (S l)), some (.str (S c)), some (.str (S (leastOf c (rots c i)))), sv, bv]) ⟨rfl, none, none, rfl⟩ ?_ ?_
  · rintro i σ H2 hi ⟨rfl, sv, bv, rfl⟩
    have e1 : (1 : Int) + (i : Int) = ((i + 1 : Nat) : Int) := by omega
    rw [e1]
    have hlen : (cut c (some ((i + 1 : Nat) : Int)) none).length + (cut c none (some ((i + 1 : Nat) : Int))).length ≤ sizeLine := by rw [cut_to, cut_from, List.length_drop, List.length_take]; omega
    have hrot : cut c (some ((i + 1 : Nat) : Int)) none ++ cut c none (some ((i + 1 : Nat) : Int)) = rot c (i + 1) := by rw [cut_to, cut_from]; rfl
    walk_at "rd"
    rw [hrot]
    refine ite2 (fun z => ?_) (fun z => ?_)
    · have z' : rot c (i + 1) < leastOf c (rots c i) := of_decide_eq_true z
      have hle : leastOf c (rots c (i + 1)) = rot c (i + 1) := by rw [rots_snoc, leastOf_snoc]; unfold lesser; rw [if_pos z']
      refine ⟨_, rfl, ?_⟩
      rw [hle]
      exact ⟨rfl, _, _, rfl⟩
    · have z' : ¬ rot c (i + 1) < leastOf c (rots c i) := fun y => z (decide_eq_true y)
      have hle : leastOf c (rots c (i + 1)) = leastOf c (rots c i) := by rw [rots_snoc, leastOf_snoc]; unfold lesser; rw [if_neg z']
      rw [hle]
      exact ⟨rfl, _, _, rfl⟩
  · rintro σ H2 ⟨rfl, sv, bv, rfl⟩
    have e : ((c.length : Int) - 1).toNat = c.length - 1 := by omega
    rw [e]
    exact ⟨_, rfl, q _ s1⟩
/-- names: 0 yard, 1 seen, 2 told, 3 end, 4 word, 5 letter -/
theorem ok_rims (T : Txt K mg f0 f1 f2 f3 f4 f5 f6 f7 f8 f9 f10 f11 f12 f13 f14 f15 f16 f17 f18 d0 d1 d2 d3 d4 d5 d6 d7 d8 d9 d10 d11 d12 d13 d14 d15 d16 d17 d18) : FnOk P w K mg base CX0 5 f8 d8 ["yard"] (sp_rims K) := by
  have G_rim_behind := ok_rim_behind (P := P) (w := w) (base := base) T
  have G_contrary := ok_contrary (P := P) (w := w) (base := base) T
  have G_ring := ok_ring (P := P) (w := w) (base := base) T
  refine T.F8.fn.ok sc_rims (fun vs H Q E h => len_rims h) (fun cdv A outer s H vs Q E hr h => ?_)
  refine ⟨_, (pss_cons (ps_set (i := 1) sc_rims.nd rfl (Or.inl rfl) pe_dnewK)
      (pss_cons (ps_set (i := 2) sc_rims.nd rfl (Or.inl rfl) (pe_lst pa_nil))
      (pss_cons (ps_for PassesOwn.never rfl (pi_str (pv 0)) (pg_name (i := 3) sc_rims.nd rfl (Or.inl rfl)) (pss_one (ps_if (pt_cmp (pc_dnotin (hu_of hr) (pv 3) (pv 1)) (by with_unfolding_all rfl)) (pss_cons (ps_set (i := 4) sc_rims.nd rfl (Or.inl rfl) (pe_call G_rim_behind (hr.mono (by decide)) rfl T.F7.mg T.F7.fn.kp T.F7.bd .nil pass0 (pa_cons (pv 0) (pa_cons (pv 3) pa_nil))))
      (pss_cons (ps_for PassesOwn.never rfl (pi_str (pv 4)) (pg_name (i := 5) sc_rims.nd rfl (Or.inl rfl)) (pss_one (ps_dput (hu_of hr) (pv 1) (pe_call G_contrary (hr.mono (by decide)) rfl T.F0.mg T.F0.fn.kp T.F0.bd .nil pass0 (pa_cons (pv 5) pa_nil)) pe_bl rfl)))
      (pss_one (ps_expr (pe_bmK K rfl PySem.F.plainAttrs_list PySem.F.slot_list_append PySem.F.type_list_append mt_append (pv 2) (pa_cons (pe_call G_ring (hr.mono (by decide)) rfl T.F3.mg T.F3.fn.kp T.F3.bd .nil pass0 (pa_cons (pv 4) pa_nil)) pa_nil)))))) pss_nil)))
      (pss_one (ps_ret (pe_callB (call_sortedK K rfl) rfl T.z_sorted boot_sorted (pa_cons (pv 2) pa_nil))))))), ?_⟩
  obtain ⟨y, rfl, hy, h2, h8, q⟩ := h
  have hs : (100000 : Nat) < sizeLine := by decide
  walk_at "wk"
  intro d nd
  walk_at "wk"
  intro p np
  have nd0 : H d = none := nd
  have hdp : d ≠ p := fun z => by rw [← z, upd_same] at np; cases np
  have np0 : H p = none := Same.free (Same.upd nd) np
  refine ⟨_, rfl, y, rfl, ?_⟩
  refine for_fix (xs := sgs y) (fun i σ H' => ∃ (ws : List (List Nat)) (kvs : List (Key × V)) (ev wv lv : Option V), σ = [some (.str (S y)), some (.ref d), some (.ref p), ev, wv, lv] ∧ H' d = some (.dK kvs) ∧ H' p = some (.lst (txs (ws.map ringM))) ∧ RimsW y i ws ∧ kvs.length ≤ 8 * i ∧ (∀ e ∈ y, ((valV kvs (tk e)).isSome = true ↔ ∃ w ∈ ws, ctr e ∈ w)) ∧ Same H H')
    ⟨[], [], none, none, none, rfl, by rw [upd_ne hdp, upd_same], upd_same, RimsW.start y, Nat.le_refl _, fun e _ => ⟨fun z => absurd z (by simp [valV]), fun ⟨_, z, _⟩ => absurd z List.not_mem_nil⟩, (Same.upd nd).trans (Same.upd np)⟩ ?_ ?_
  · rintro i x σ H1 hx ⟨ws, kvs, ev, wv, lv, rfl, hd, hp, rw_, hkl, hkey, s1⟩
    obtain ⟨e, he, rfl⟩ := sgs_get hx
    have hi : i < y.length := (List.getElem?_eq_some_iff.mp he).1
    have hey := List.mem_of_getElem? he
    refine ⟨_, rfl, _, rfl, d, _, rfl, DGet.k (k := tk e) hd, ?_⟩
    walk_at "wk"
    refine ite2 (fun z => ?_) (fun z => ?_)
    · have hno : ¬ ∃ w ∈ ws, ctr e ∈ w := fun q => by
        rw [(hkey e hey).mpr q] at z; cases z
      refine ⟨_, rfl, _, rfl, y, e, rfl, hy, hey, by omega, fun w ho hwy hce => ?_⟩
      have hwz : w.length ≤ 8 := Nat.le_trans (ho.nd.length_le_of_subset fun c hc => hwy c hc) h8
      refine ⟨_, rfl, w, rfl, ?_⟩
      refine for_fix (xs := sgs w) (fun j σ H' => ∃ (kvs2 : List (Key × V)) (lv : Option V), σ = [some (.str (S y)), some (.ref d), some (.ref p), some (.str (S [e])), some (.str (S w)), lv] ∧ H' d = some (.dK kvs2) ∧ H' p = some (.lst (txs (ws.map ringM))) ∧ kvs2.length ≤ 8 * i + j ∧ (∀ f ∈ y, ((valV kvs2 (tk f)).isSome = true ↔ (∃ w ∈ ws, ctr f ∈ w) ∨ ∃ c ∈ w.take j, f = ctr c)) ∧ Same H H')
        ⟨kvs, lv, rfl, hd, hp, by omega, fun f hf => by rw [hkey f hf]; simp, s1⟩ ?_ ?_
      · rintro j x σ H2 hx2 ⟨kvs2, lv2, rfl, hd2, hp2, hkl2, hkey2, s2⟩
        obtain ⟨c, hc, rfl⟩ := sgs_get hx2
        have hj : j < w.length := (List.getElem?_eq_some_iff.mp hc).1
        have hcy := hwy c (List.mem_of_getElem? hc)
        refine ⟨_, rfl, _, rfl, c, rfl, (hy.lt c hcy).lt, d, _, rfl, DPut.k (k := tk (ctr c)) hd2 (by omega), ?_⟩
        refine ⟨_, _, rfl, upd_same, by rw [upd_ne (Ne.symm hdp)]; exact hp2, Nat.le_trans (length_putK _ _ _) (by omega), fun f hf => ?_, fun a o ea => by rw [upd_ne (ne_of_none ea nd0)]; exact s2 a o ea⟩
        rw [valV_put, ← take_snoc hc]
        by_cases q : f = ctr c
        · rw [if_pos (by rw [q])]
          simp [q]
        · rw [if_neg (fun q2 => q (tk_inj q2)), hkey2 f hf]
          simp [q]
      · rintro σ H2 ⟨kvs2, lv2, rfl, hd2, hp2, hkl2, hkey2, s2⟩
        rw [sgs_len] at hkl2
        have hwl : ∀ c ∈ w, Lt c := fun c hc => hy.lt c (hwy c hc)
        have hfew := rw_.few
        refine ⟨_, rfl, .inl ⟨rfl, _, SqL.of hp2⟩, _, rfl, w, rfl, hwl, by omega, fun H3 s3 => ?_⟩
        refine ⟨p, _, _, rfl, rfl, s3 _ _ hp2, by rw [txs_len, List.length_map]; omega, ?_⟩
        rw [txs_snoc]
        refine ⟨ws ++ [w], kvs2, _, _, _, rfl, by rw [upd_ne hdp]; exact s3 _ _ hd2, by rw [upd_same, List.map_append]; rfl, rw_.turn hy he hno ho hwy hce, by omega, fun f hf => ?_, fun a o ea => by rw [upd_ne (ne_of_none ea np0)]; exact s3 _ _ (s2 a o ea)⟩
        rw [hkey2 f hf, sgs_take]
        constructor
        · rintro (⟨u, hu, z2⟩ | ⟨c, hc, z2⟩)
          · exact ⟨u, List.mem_append_left _ hu, z2⟩
          · exact ⟨w, by simp, by rw [z2, ctr_ctr (hwl c hc)]; exact hc⟩
        · rintro ⟨u, hu, z2⟩
          rcases List.mem_append.mp hu with g | g
          · exact .inl ⟨u, g, z2⟩
          · rw [List.mem_singleton.mp g] at z2
            exact .inr ⟨ctr f, z2, (ctr_ctr (hy.lt f hf)).symm⟩
    · have hyes : ∃ w ∈ ws, ctr e ∈ w := (hkey e hey).mp (by
        cases hq : (valV kvs (tk e)).isSome
        · exact absurd (by rw [hq]; rfl) z
        · rfl)
      exact ⟨ws, kvs, _, _, _, rfl, hd, hp, rw_.skip he hyes, by omega, hkey, s1⟩
  · rintro σ H1 ⟨ws, kvs, ev, wv, lv, rfl, hd, hp, rw_, hkl, hkey, s1⟩
    rw [sgs_len] at rw_
    have hfew := rw_.few
    refine ⟨_, rfl, p, ws.map ringM, rfl, SqL.of hp, by rw [List.length_map]; omega, fun p2 L n2 hpm hpw => ?_⟩
    exact q p2 L _ ⟨ws, rw_.done hy, hpm, hpw⟩ (Same.free s1 n2) upd_same (s1.trans (Same.upd n2))
/-- names: 0 yard -/
theorem ok_handles (T : Txt K mg f0 f1 f2 f3 f4 f5 f6 f7 f8 f9 f10 f11 f12 f13 f14 f15 f16 f17 f18 d0 d1 d2 d3 d4 d5 d6 d7 d8 d9 d10 d11 d12 d13 d14 d15 d16 d17 d18) : FnOk P w K mg base CX0 6 f9 d9 ["yard"] (sp_handles K) := by
  have G_bands := ok_bands (P := P) (w := w) (base := base) T
  have G_rims := ok_rims (P := P) (w := w) (base := base) T
  refine T.F9.fn.ok sc_handles (fun vs H Q E h => len_handles h) (fun cdv A outer s H vs Q E hr h => ?_)
  refine ⟨_, (pss_one (ps_ret (pe_op op_fdiv (pe_op op_sub (pe_op op_add (pe_callB call_lenS rfl T.z_len PySem.boot_len (pa_cons (pe_call G_bands (hr.mono (by decide)) rfl T.F4.mg T.F4.fn.kp T.F4.bd .nil pass0 (pa_cons (pv 0) pa_nil)) pa_nil)) pe_int) (pe_callB (call_len_seqK K rfl) rfl T.z_len PySem.boot_len (pa_cons (pe_call G_rims (hr.mono (by decide)) rfl T.F8.mg T.F8.fn.kp T.F8.bd .nil pass0 (pa_cons (pv 0) pa_nil)) pa_nil))) pe_int))), ?_⟩
  obtain ⟨y, rfl, hy, h2, h8, q⟩ := h
  have hs : (1000 : Nat) < sizeLine := by decide
  have hy8 : ∀ c ∈ y, c < 128 := lt128 hy.lt
  refine ⟨_, rfl, y, rfl, hy8, by omega, fun l' H1 hl' _ s1 => ?_⟩
  have hlen := hl'.length_eq
  have hh := half_low hy
  walk_at "wk"
  intro p L H2 hr hp hpL s2
  refine ⟨p, _, rfl, .inl (SqL.of hpL), _, _, rfl, rfl, _, _, rfl, rfl, ⟨by decide, by decide⟩, ?_⟩
  have e : (l'.length : Int) = (y.length : Int) / 2 := by omega
  rw [txs_len, e]
  exact q L _ hr (s1.trans s2)
/-- names: 0 _law_yard_here, 1 _law_words, 2 _law_many, 3 _law_more -/
theorem ok_Lcounted (T : Txt K mg f0 f1 f2 f3 f4 f5 f6 f7 f8 f9 f10 f11 f12 f13 f14 f15 f16 f17 f18 d0 d1 d2 d3 d4 d5 d6 d7 d8 d9 d10 d11 d12 d13 d14 d15 d16 d17 d18) : FnOk P w K mg base CX0 7 f15 d15 ["_law_yard_here"] (sp_Lcounted K) := by
  have G_rims := ok_rims (P := P) (w := w) (base := base) T
  have G_handles := ok_handles (P := P) (w := w) (base := base) T
  refine T.F15.fn.ok sc_Lcounted (fun vs H Q E h => len_Lcounted h) (fun cdv A outer s H vs Q E hr h => ?_)
  refine ⟨_, (pss_cons (ps_set (i := 1) sc_Lcounted.nd rfl (Or.inl rfl) (pe_call G_rims (hr.mono (by decide)) rfl T.F8.mg T.F8.fn.kp T.F8.bd .nil pass0 (pa_cons (pv 0) pa_nil)))
      (pss_cons (ps_par (i := 2) (j := 3) rfl sc_Lcounted.nd rfl rfl (by decide) rfl rfl (pa_cons (pe_callB (call_len_seqK K rfl) rfl T.z_len PySem.boot_len (pa_cons (pv 1) pa_nil)) (pa_cons (pe_call G_handles (hr.mono (by decide)) rfl T.F9.mg T.F9.fn.kp T.F9.bd .nil pass0 (pa_cons (pv 0) pa_nil)) pa_nil)) rfl)
      (pss_one (ps_ret (pe_and (pe_cmpR (op_eqD K rfl hr) (pe_callB (call_sortedS rfl) rfl T.z_sorted boot_sorted (pa_cons (pe_bmK K rfl PySem.F.plainAttrs_str PySem.F.slot_str_join PySem.F.type_str_join (mt_joinK K rfl) (pe_S [] (by decide +kernel)) (pa_cons (pv 1) pa_nil)) pa_nil)) (pe_callB (call_sortedS rfl) rfl T.z_sorted boot_sorted (pa_cons (pv 0) pa_nil)) (nomark _)) (pe_and (pe_cmpR op_gt (pv 2) pe_int (nomark _)) (pe_one (pe_cmpR op_eqI (pe_op op_add (pv 2) (pe_op op_mul pe_int (pv 3))) (pe_op op_add (pe_op op_fdiv (pe_callB call_lenS rfl T.z_len PySem.boot_len (pa_cons (pv 0) pa_nil)) pe_int) pe_int) (nomark _))))))))), ?_⟩
  obtain ⟨y, rfl, hy, h2, h8, q⟩ := h
  have hs : (100000 : Nat) < sizeLine := by decide
  refine ⟨_, rfl, y, rfl, hy, h2, h8, fun p1 L H1 hr1 n1 hp1 s1 => ?_⟩
  obtain ⟨hm1, hm2⟩ := rims_many hy h2 hr1
  have hfl := rims_flat hy h2 hr1
  obtain ⟨f1, f2⟩ := hr1.few
  refine ⟨_, rfl, p1, _, rfl, .inl (SqL.of hp1), ?_⟩
  rw [txs_len]
  refine ⟨_, rfl, y, rfl, hy, h2, h8, fun M H2 hr2 s2 => ?_⟩
  have e12 := hr1.same hy h2 hr2
  subst e12
  refine ⟨_, _, rfl, ?_⟩
  have hsum : (L.map List.length).sum = y.length := by rw [← List.length_flatten, hfl.length_eq]
  refine ⟨rfl, _, rfl, p1, L, rfl, rfl, SqL.of (s2 _ _ hp1), by rw [hsum]; omega, ?_⟩
  refine ⟨_, rfl, by rw [hfl.length_eq]; omega, fun p3 l3 n3 pl3 pw3 => ?_⟩
  refine ⟨_, rfl, y, rfl, by omega, fun p4 l4 n4 pl4 pw4 => ?_⟩
  have e34 : l3 = l4 := sorted_eq ((pl3.trans hfl).trans pl4.symm) pw3 pw4
  subst e34
  have lt3 : ∀ c ∈ l3, c < 128 := fun c hc => (hy.lt c (pl4.mem_iff.mp hc)).lt
  have h34 : p3 ≠ p4 := fun z => by rw [← z, upd_same] at n4; cases n4
  have lo := ones_lt lt3
  refine ⟨.list (tds (ones l3)), .list (tds (ones l3)), .lst (SqL.of (by rw [upd_ne h34, upd_same, sgs_ones])) (rdds_txs _), .lst (SqL.of (by rw [upd_same, sgs_ones])) (rdds_txs _), ⟨lay_txs lo, lay_txs lo⟩, by show PyData.depthAll (tds (ones l3)) + 1 ≤ 60; rw [depth_txs]; decide, ?_⟩
  refine ⟨true, congrArg V.bl (eqv_refl (.list (tds (ones l3))) (show PyData.hasDictAll (tds (ones l3)) = false from dict_txs _)), iteT ?_⟩
  refine ⟨_, rfl, _, _, rfl, rfl, true, congrArg V.bl (decide_eq_true (by omega)), iteT ?_⟩
  refine ⟨_, rfl, _, rfl, _, _, rfl, rfl, .inl ⟨by decide, by decide⟩, _, _, rfl, rfl, ?_⟩
  refine ⟨_, rfl, y, rfl, by omega, _, _, rfl, rfl, ⟨by decide, by decide⟩, _, _, rfl, rfl, _, _, rfl, rfl, ?_⟩
  have e : ((L.length : Int) + 2 * ((((y.length : Int) / 2) + 1 - (L.length : Int)) / 2) = (y.length : Int) / 2 + 1) := by omega
  show Q (V.bl (decide _)) _
  rw [decide_eq_true e]
  exact q _ ((s1.trans s2).trans ((Same.upd n3).trans (Same.upd n4)))
theorem ok_bandsP (T : Txt K mg f0 f1 f2 f3 f4 f5 f6 f7 f8 f9 f10 f11 f12 f13 f14 f15 f16 f17 f18 d0 d1 d2 d3 d4 d5 d6 d7 d8 d9 d10 d11 d12 d13 d14 d15 d16 d17 d18) : FnOkG P w K mg base 1 f4 d4 ["yard"] (sp_bands K) (fun _ _ => True) (fun s => 0 < s.toks) := by
  refine T.F4.fn.okP sc_bands (fun vs H Q E h => len_bands h) (fun cdv A outer s H vs Q E hr h => ?_)
  refine ⟨_, posRet [] (by decide +kernel) PySem.F.slot_str_join PySem.F.type_str_join (mt_joinK K rfl) (pa_cons (pe_callB (call_sortedK K rfl) rfl T.z_sorted boot_sorted (pa_cons (pe_compB ["letter"] [none] (pi_str (pv 0)) trivial (fun _ _ _ _ => (pg_name (i := 0) (by decide +kernel : List.Nodup (["letter"] : List Str)) rfl (Or.inl rfl))) (fun _ _ _ _ => (pf_one (pt_val (pe_bm0K K rfl PySem.F.plainAttrs_str PySem.F.slot_str_islower PySem.F.type_str_islower mt_islower (pv 0))))) (fun _ _ _ _ => (pv 0))) pa_nil)) pa_nil), ?_⟩
  obtain ⟨l, rfl, hl, hz, q⟩ := h
  have hs : (1000 : Nat) < sizeLine := by decide
  refine ⟨rfl, _, rfl, l, rfl, ?_⟩
  refine comp_fix (xs := sgs l) (fun i acc H' => Same H H' ∧ acc = sgs ((l.take i).filter isLow)) (by rw [sgs_len]; omega) ⟨Same.refl H, rfl⟩ ?_ ?_
  · rintro i x acc H1 Nx hi hx hal ⟨s1, rfl⟩ nx
    obtain ⟨c, hc, rfl⟩ := sgs_get hx
    have e := filter_take (p := isLow) hc
    refine ⟨trivial, ?_⟩
    refine ⟨_, rfl, rfl, c, rfl, rfl, hl c (List.mem_of_getElem? hc), _, rfl, ?_⟩
    refine ite2 (fun z => ?_) (fun z => ?_)
    · rw [if_pos z] at e
      exact ⟨_, rfl, nx _ _ (by simpa using hal) ⟨s1, by rw [e, ← sgs_snoc]⟩⟩
    · rw [if_neg z, List.append_nil] at e
      exact nx _ _ (Nat.le_succ_of_le hal) ⟨s1, by rw [e]⟩
  · rintro acc H1 D hal ⟨s1, rfl⟩ hD
    rw [sgs_take, sgs_lists]
    have hfl : (l.filter isLow).length ≤ l.length := List.length_filter_le _ _
    refine ⟨D, (l.filter isLow).map fun c => [c], rfl, SqL.of upd_same, by rw [List.length_map]; omega, fun p ls hp hpm hpw => ?_⟩
    obtain ⟨l', rfl, pl⟩ := ones_of hpm
    have hl' := pl.length_eq
    refine ⟨p, l'.map fun c => [c], rfl, rfl, SqL.of upd_same, by rw [sum1]; omega, ?_⟩
    rw [flat1]
    exact q l' _ pl (ones_pw hpw) ((s1.trans (Same.upd hD)).trans (Same.upd hp))
/-- names: 0 yard, 1 some -/
theorem ok_within (T : Txt K mg f0 f1 f2 f3 f4 f5 f6 f7 f8 f9 f10 f11 f12 f13 f14 f15 f16 f17 f18 d0 d1 d2 d3 d4 d5 d6 d7 d8 d9 d10 d11 d12 d13 d14 d15 d16 d17 d18) : FnOk P w K mg base CX0 1 f5 d5 ["yard", "some"] (sp_within K) := by
  refine T.F5.fn.ok sc_within (fun vs H Q E h => len_within h) (fun cdv A outer s H vs Q E hr h => ?_)
  refine ⟨_, (pss_one (ps_ret (pe_bmK K rfl PySem.F.plainAttrs_str PySem.F.slot_str_join PySem.F.type_str_join (mt_joinK K rfl) (pe_S [] (by decide +kernel)) (pa_cons (pe_compB ["letter", "some"] [none, some 1] (pi_str (pv 0)) ⟨⟨rfl, rfl, by first | exact .inl rfl | exact .inr rfl⟩, trivial⟩ (fun _ _ _ _ => (pg_name (i := 0) (by decide +kernel : List.Nodup (["letter", "some"] : List Str)) rfl (Or.inl rfl))) (fun _ _ _ _ => (pf_one (pt_cmpR op_inS (pe_bm0K K rfl PySem.F.plainAttrs_str PySem.F.slot_str_lower PySem.F.type_str_lower mt_lower (pv 0)) (pv 1) (by with_unfolding_all rfl)))) (fun _ _ _ _ => (pv 0))) pa_nil)))), ?_⟩
  obtain ⟨y, sm, rfl, hl, hz, q⟩ := h
  have hs : (1000 : Nat) < sizeLine := by decide
  refine ⟨rfl, _, rfl, y, rfl, ?_⟩
  refine comp_fix (xs := sgs y) (fun i acc H' => Same H H' ∧ acc = sgs ((y.take i).filter (kept sm))) (by rw [sgs_len]; omega) ⟨Same.refl H, rfl⟩ ?_ ?_
  · rintro i x acc H1 Nx hi hx hal ⟨s1, rfl⟩ nx
    obtain ⟨c, hc, rfl⟩ := sgs_get hx
    have e := filter_take (p := kept sm) hc
    rw [show kept sm c = decide (PyProof.Rows.lo1 c ∈ sm) from rfl] at e
    refine ⟨⟨rfl, trivial⟩, ?_⟩
    refine ⟨_, rfl, rfl, c, rfl, rfl, hl c (List.mem_of_getElem? hc), _, rfl, _, _, rfl, rfl, _, rfl, ?_⟩
    refine ite2 (fun z => ?_) (fun z => ?_)
    · rw [if_pos z] at e
      exact ⟨_, rfl, nx _ _ (by simpa using hal) ⟨s1, by rw [e, ← sgs_snoc]⟩⟩
    · rw [if_neg z, List.append_nil] at e
      exact nx _ _ (Nat.le_succ_of_le hal) ⟨s1, by rw [e]⟩
  · rintro acc H1 D hal ⟨s1, rfl⟩ hD
    rw [sgs_take, sgs_lists]
    have hfl : (y.filter (kept sm)).length ≤ y.length := List.length_filter_le _ _
    refine ⟨D, (y.filter (kept sm)).map fun c => [c], rfl, rfl, SqL.of upd_same, by rw [sum1]; omega, ?_⟩
    rw [flat1]
    exact q _ (s1.trans (Same.upd hD))
/-- names: 0 _law_yard_here, 1 _law_band, 2 _law_left, 3 _law_more -/
theorem ok_Lless (T : Txt K mg f0 f1 f2 f3 f4 f5 f6 f7 f8 f9 f10 f11 f12 f13 f14 f15 f16 f17 f18 d0 d1 d2 d3 d4 d5 d6 d7 d8 d9 d10 d11 d12 d13 d14 d15 d16 d17 d18) : FnOkG P w K mg base 7 f16 d16 ["_law_yard_here", "_law_band"] (sp_Lless K) preT (fun _ => True) := by
  have G_within := ok_within (P := P) (w := w) (base := base) T
  have G_bands := ok_bands (P := P) (w := w) (base := base) T
  have G_rims := ok_rims (P := P) (w := w) (base := base) T
  have G_handles := ok_handles (P := P) (w := w) (base := base) T
  refine T.F16.fn.okT "_law_band" sc_Lless rfl rfl (fun vs H Q E h => len_Lless h) (fun cdv A outer s H vs Q E hr h => ?_)
  refine ⟨_, pss_setT (i := 2) sc_Lless.nd rfl (Or.inl rfl) (pet_call2 (i := 0) G_within (hr.mono (by decide)) rfl T.F5.mg T.F5.fn.kp T.F5.bd pass0 rfl (by first | exact Or.inl rfl | exact Or.inr (Or.inl rfl) | exact Or.inr (Or.inr rfl)) (pet_repl (i := 0) (j := 1) G_bands (hr.mono (by decide)) rfl T.F4.mg T.F4.fn.kp T.F4.bd pass0 rfl (by first | exact Or.inl rfl | exact Or.inr (Or.inl rfl) | exact Or.inr (Or.inr rfl)) rfl rfl)) (pss_cons (ps_set (i := 3) sc_Lless.nd rfl (Or.inl rfl) (pe_op op_sub (pe_callB (call_len_seqK K rfl) rfl T.z_len PySem.boot_len (pa_cons (pe_call G_rims (hr.mono (by decide)) rfl T.F8.mg T.F8.fn.kp T.F8.bd .nil pass0 (pa_cons (pv 2) pa_nil)) pa_nil)) (pe_callB (call_len_seqK K rfl) rfl T.z_len PySem.boot_len (pa_cons (pe_call G_rims (hr.mono (by decide)) rfl T.F8.mg T.F8.fn.kp T.F8.bd .nil pass0 (pa_cons (pv 0) pa_nil)) pa_nil))))
      (pss_one (ps_ret (pe_and (pe_cmpR (op_inK K rfl) (pv 3) (pe_tup (pa_cons pe_int (pa_cons (pe_un un_neg pe_int) pa_nil))) (by with_unfolding_all rfl)) (pe_one (pe_cmpR op_eqI (pe_op op_sub (pe_call G_handles (hr.mono (by decide)) rfl T.F9.mg T.F9.fn.kp T.F9.bd .nil pass0 (pa_cons (pv 0) pa_nil)) (pe_call G_handles (hr.mono (by decide)) rfl T.F9.mg T.F9.fn.kp T.F9.bd .nil pass0 (pa_cons (pv 2) pa_nil))) (pe_callTy call_int1 rfl T.z_int boot_int (pa_cons (pe_cmpR op_eqI (pv 3) pe_int (nomark _)) pa_nil)) (nomark _))))))), ?_⟩
  obtain ⟨y, c, rfl, hy, h4, h8, hc, hl, q⟩ := h
  have hs : (100000 : Nat) < sizeLine := by decide
  have hlt := lt128 hy.lt
  have hyl := less_yd hy hc
  have hll := less_len hy hc
  refine ⟨_, rfl, _, c, rfl, rfl, y, rfl, hlt, by omega, fun l' H1 hl' _ s1 => ?_⟩
  have hl8 : l'.length ≤ 8 := by have := hl'.length_eq; have := List.length_filter_le isLow y; omega
  refine ⟨l', rfl, by omega, ?_⟩
  refine ⟨y, _, rfl, hlt, by omega, fun H2 s2 => ?_⟩
  rw [within_less hy hc hl hl']
  refine ⟨_, rfl, _, rfl, hyl, by omega, by omega, fun p3 M H3 hrM n3 hp3 s3 => ?_⟩
  refine ⟨p3, _, rfl, .inl (SqL.of hp3), _, rfl, y, rfl, hy, by omega, h8, fun p4 L H4 hrL n4 hp4 s4 => ?_⟩
  refine ⟨p4, _, rfl, .inl (SqL.of hp4), _, _, rfl, rfl, ?_⟩
  rw [txs_len, txs_len]
  have hd := rims_less hy h4 hc hrL hrM
  have hmL := (rims_many hy (by omega) hrL).2
  refine ⟨_, rfl, _, rfl, by show 2 ≤ sizeLine; decide, fun t5 n5 => ?_⟩
  refine ⟨t5, _, rfl, .inr (SqT.of upd_same), rfl, rfl, ?_⟩
  have hin : inV (V.int ((M.length : Int) - (L.length : Int))) [V.int 1, V.int (-1)] = true := by
    unfold inV
    rcases hd with z | z
    · have e : ((M.length : Int) - (L.length : Int)) = 1 := by omega
      rw [e]; rfl
    · have e : ((M.length : Int) - (L.length : Int)) = -1 := by omega
      rw [e]; rfl
  refine ⟨true, by rw [if_neg Bool.false_ne_true, hin], iteT ?_⟩
  refine ⟨_, rfl, y, rfl, hy, by omega, h8, fun L' H6 hrL' s6 => ?_⟩
  have e6 := hrL.same hy (by omega) hrL'
  subst e6
  refine ⟨_, rfl, _, rfl, hyl, by omega, by omega, fun M' H7 hrM' s7 => ?_⟩
  have e7 := hrM.same hyl (by omega) hrM'
  subst e7
  refine ⟨_, _, rfl, rfl, _, rfl, _, _, rfl, rfl, .inr ⟨_, rfl, _, _, rfl, rfl, ?_⟩⟩
  have e : ((((y.length : Int) / 2) + 1 - (L.length : Int)) / 2 - ((((less y c).length : Int) / 2) + 1 - (M.length : Int)) / 2) = if decide ((M.length : Int) - (L.length : Int) = 1) = true then 1 else 0 := by
    rcases hd with z | z
    · rw [if_pos (decide_eq_true (by omega))]; omega
    · rw [if_neg (fun g => by have := of_decide_eq_true g; omega)]; omega
  show Q (V.bl (decide _)) _
  rw [decide_eq_true e]
  exact q _ (((s1.trans s2).trans (s3.trans s4)).trans (((Same.upd n5).trans s6).trans s7))
/-- names: 0 _law_yard_here, 1 _law_order_here, 2 _law_left, 3 _law_one -/
theorem ok_Lright (T : Txt K mg f0 f1 f2 f3 f4 f5 f6 f7 f8 f9 f10 f11 f12 f13 f14 f15 f16 f17 f18 d0 d1 d2 d3 d4 d5 d6 d7 d8 d9 d10 d11 d12 d13 d14 d15 d16 d17 d18) : FnOk P w K mg base CX0 8 f17 d17 ["_law_yard_here", "_law_order_here"] (sp_Lright K) := by
  have G_Lcounted := ok_Lcounted (P := P) (w := w) (base := base) T
  have G_bandsP := ok_bandsP (P := P) (w := w) (base := base) T
  have G_Lless := ok_Lless (P := P) (w := w) (base := base) T
  have G_within := ok_within (P := P) (w := w) (base := base) T
  have G_rims := ok_rims (P := P) (w := w) (base := base) T
  have G_Lother := ok_Lother (P := P) (w := w) (base := base) T
  refine T.F17.fn.ok sc_Lright (fun vs H Q E h => len_Lright h) (fun cdv A outer s H vs Q E hr h => ?_)
  refine ⟨_, (pss_cons (ps_if (pt_not (pt_val (pe_callB (call_allK K rfl rfl) rfl T.z_all boot_all (pa_cons (pe_op op_cat (pe_lst (pa_cons (pe_call G_Lcounted (hr.mono (by decide)) rfl T.F15.mg T.F15.fn.kp T.F15.bd .nil pass0 (pa_cons (pv 0) pa_nil)) pa_nil)) (pe_compT (j := 0) ["_law_band", "_law_yard_here"] [none, some 0] (pit_call (E := E0) (i := 0) G_bandsP (hr.mono (by decide)) rfl T.F4.mg T.F4.fn.kp T.F4.bd rfl (by first | exact Or.inl rfl | exact Or.inr (Or.inl rfl) | exact Or.inr (Or.inr rfl))) ⟨⟨rfl, rfl, by first | exact .inl rfl | exact .inr rfl⟩, trivial⟩ (by decide +kernel : List.Nodup (["_law_band", "_law_yard_here"] : List Str)) rfl (fun _ _ _ _ => pet_callG (E := E0) (i := 1) (j := 0) G_Lless (hr.mono (by decide)) rfl T.F16.mg T.F16.fn.kp T.F16.bd rfl (by first | exact Or.inl rfl | exact Or.inr (Or.inl rfl) | exact Or.inr (Or.inr rfl)) rfl rfl))) pa_nil)))) (pss_one (ps_ret pe_bl)) pss_nil)
      (pss_cons (ps_set (i := 2) sc_Lright.nd rfl (Or.inl rfl) (pv 1))
      (pss_cons (ps_whileN PassesOwn.never (pt_cmpR op_gt (pe_callB (call_len_seqK K rfl) rfl T.z_len PySem.boot_len (pa_cons (pv 2) pa_nil)) pe_int (nomark _)) (pss_cons (ps_set (i := 2) sc_Lright.nd rfl (Or.inl rfl) (pe_slice (sl_listK K rfl) (pv 2) (po_some pe_int) po_none))
      (pss_cons (ps_set (i := 3) sc_Lright.nd rfl (Or.inl rfl) (pe_call G_within (hr.mono (by decide)) rfl T.F5.mg T.F5.fn.kp T.F5.bd .nil pass0 (pa_cons (pv 0) (pa_cons (pe_bmK K rfl PySem.F.plainAttrs_str PySem.F.slot_str_join PySem.F.type_str_join (mt_joinK K rfl) (pe_S [] (by decide +kernel)) (pa_cons (pv 2) pa_nil)) pa_nil))))
      (pss_one (ps_if (PW.pt (pw_or (pt_not (pt_val (pe_call G_Lcounted (hr.mono (by decide)) rfl T.F15.mg T.F15.fn.kp T.F15.bd .nil pass0 (pa_cons (pv 3) pa_nil)))) (pw_or1 (pt_cmpR (op_neD K rfl hr) (pe_call G_rims (hr.mono (by decide)) rfl T.F8.mg T.F8.fn.kp T.F8.bd .nil pass0 (pa_cons (pv 3) pa_nil)) (pe_call G_rims (hr.mono (by decide)) rfl T.F8.mg T.F8.fn.kp T.F8.bd .nil pass0 (pa_cons (pe_call G_within (hr.mono (by decide)) rfl T.F5.mg T.F5.fn.kp T.F5.bd .nil pass0 (pa_cons (pv 0) (pa_cons (pe_bmK K rfl PySem.F.plainAttrs_str PySem.F.slot_str_join PySem.F.type_str_join (mt_joinK K rfl) (pe_S [] (by decide +kernel)) (pa_cons (pe_listRevL K rfl rfl rfl T.z_list rfl T.z_reversed (pa_cons (pv 2) pa_nil)) pa_nil)) pa_nil))) pa_nil)) (nomark _))))) (pss_one (ps_ret pe_bl)) pss_nil)))))
      (pss_one (ps_ret (pe_cmpR (op_eqD K rfl hr) (pe_call G_rims (hr.mono (by decide)) rfl T.F8.mg T.F8.fn.kp T.F8.bd .nil pass0 (pa_cons (pe_call G_within (hr.mono (by decide)) rfl T.F5.mg T.F5.fn.kp T.F5.bd .nil pass0 (pa_cons (pv 0) (pa_cons (pe_ix (ix_listK K rfl) (pv 2) pe_int (fun _ _ => rfl)) pa_nil))) pa_nil)) (pe_lst (pa_cons (pe_call G_Lother (hr.mono (by decide)) rfl T.F12.mg T.F12.fn.kp T.F12.bd .nil pass0 (pa_cons (pe_ix (ix_listK K rfl) (pv 2) pe_int (fun _ _ => rfl)) pa_nil)) (pa_cons (pe_ix (ix_listK K rfl) (pv 2) pe_int (fun _ _ => rfl)) pa_nil))) (nomark _))))))), ?_⟩
  obtain ⟨y, l, p, rfl, hy, h4, h8, hp, hpm, q⟩ := h
  have hs : (100000 : Nat) < sizeLine := by decide
  have hlt := lt128 hy.lt
  refine ⟨_, rfl, y, rfl, hy, by omega, h8, fun H1 s1 => ⟨by show 1 ≤ sizeLine; decide, fun p1 n1 => ?_⟩⟩
  refine ⟨_, rfl, y, rfl, hlt, by omega, fun l' H2 hl' _ s2 => ⟨l', rfl, ?_⟩⟩
  have hl8 : l'.length ≤ 8 := by have := hl'.length_eq; have := List.length_filter_le isLow y; omega
  refine comp_fix (xs := sgs l') (fun i acc H' => Same H2 H' ∧ acc = (List.replicate i true).map V.bl) (by rw [sgs_len]; omega) ⟨Same.refl _, rfl⟩ ?_ ?_
  · rintro i x acc H3 Nx hi hx hal ⟨s3, rfl⟩ nx
    obtain ⟨c, hcx, rfl⟩ := sgs_get hx
    obtain ⟨hcy, hcl⟩ := List.mem_filter.mp (hl'.mem_iff.mp (List.mem_of_getElem? hcx))
    refine ⟨⟨rfl, trivial⟩, yes_ite ?_⟩
    refine ⟨_, rfl, _, rfl, y, c, rfl, hy, h4, h8, hcy, hcl, fun H4 s4 => ?_⟩
    exact nx _ _ (by simpa using hal) ⟨s3.trans s4, rep_snoc _⟩
  rintro acc H3 D hal ⟨s3, rfl⟩ hD
  have hp1 : upd H1 p1 (.lst [V.bl true]) p1 = some (.lst [V.bl true]) := upd_same
  have hp13 := s3 _ _ (s2 _ _ hp1)
  have hDp : p1 ≠ D := ne_of_none hp13 hD
  refine ⟨p1, D, _, _, rfl, rfl, by rw [upd_ne hDp]; exact hp13, upd_same, by simp [sgs_len]; omega, fun p5 n5 => ?_⟩
  refine ⟨p5, List.replicate ((sgs l').length + 1) true, rfl, SqL.of (by rw [upd_same]; rfl), ?_⟩
  rw [all_rep]
  refine ⟨_, rfl, iteN rfl ?_⟩
  have s05 : Same H (upd (upd H3 D (.lst ((List.replicate (sgs l').length true).map V.bl))) p5 (.lst ([V.bl true] ++ (List.replicate (sgs l').length true).map V.bl))) := (((s1.trans (Same.upd n1)).trans s2).trans s3).trans ((Same.upd hD).trans (Same.upd n5))
  generalize upd (upd H3 D (.lst ((List.replicate (sgs l').length true).map V.bl))) p5 (.lst ([V.bl true] ++ (List.replicate (sgs l').length true).map V.bl)) = H5 at s05 ⊢
  clear n5 hDp hp13 hp1 hD s3 s2 hl8 hl'
  refine ⟨_, rfl, ?_⟩
  have hl0 : l ≠ [] := fun z => by
    have := hpm.length_eq
    have := half_low hy
    rw [z] at hpm
    have := hpm.length_eq
    simp at this
    omega
  refine ⟨fun m σ H' => ∃ (lf : List Nat) (pl : Addr) (ov : Option V), σ = [some (.str (S y)), some (.ref p), some (.ref pl), ov] ∧ m = lf.length ∧ H' pl = some (.lst (sgs lf)) ∧ lf ≠ [] ∧ lf.length ≤ 8 ∧ Some_ y lf ∧ Same H H',
    ⟨_, l, p, none, rfl, rfl, s05 _ _ hp, hl0, by have := hpm.length_eq; have := List.length_filter_le isLow y; omega, Some_.of hy hpm, s05⟩, ?_⟩
  rintro m σ H6 ⟨lf, pl, ov, rfl, rfl, hpl, hne, hlf8, so, s6⟩
  refine ⟨_, rfl, pl, _, rfl, .inl (SqL.of hpl), _, _, rfl, rfl, _, rfl, ite2 (fun e => ?_) (fun e => ?_)⟩
  · have e' : (1 : Int) < ((sgs lf).length : Nat) := of_decide_eq_true e
    rw [sgs_len] at e'
    cases lf with
    | nil => exact absurd rfl hne
    | cons c t =>
      have ht0 : t ≠ [] := fun z => by rw [z] at e'; simp at e'
      have st := so.tail
      have hyw := hy.within st.sml
      have hlw := st.len hy
      have ht1 : 1 ≤ t.length := List.length_pos_iff.mpr ht0
      have ht2 : t.length ≤ 7 := by simp at hlf8; omega
      have hlow : 2 * t.length ≤ y.length := by rw [← hlw]; exact List.length_filter_le _ _
      refine ⟨_, rfl, _, rfl, pl, _, rfl, SqL.of hpl, fun p7 n7 => ?_⟩
      have hcv : cutV (sgs (c :: t)) (some 1) none = sgs t := by
        have := cut_from (sgs (c :: t)) 1
        rw [show ((1 : Nat) : Int) = 1 from rfl] at this
        show cut (sgs (c :: t)) (some 1) none = _
        rw [this]; rfl
      rw [hcv]
      have hp7 : upd H6 p7 (.lst (sgs t)) p7 = some (.lst (sgs t)) := upd_same
      have s7 : Same H (upd H6 p7 (.lst (sgs t))) := s6.trans (Same.upd n7)
      generalize upd H6 p7 (.lst (sgs t)) = H7 at hp7 s7 ⊢
      refine ⟨_, rfl, rfl, _, rfl, p7, t.map fun c => [c], rfl, rfl, SqL.of (by rw [hp7, sgs_lists]), by rw [sum1]; omega, ?_⟩
      rw [flat1]
      refine ⟨y, t, rfl, hlt, by omega, fun H8 s8 => ?_⟩
      refine ⟨_, rfl, _, rfl, hyw, by omega, by omega, fun H9 s9 => ⟨_, rfl, iteN rfl ?_⟩⟩
      refine ⟨_, rfl, _, rfl, hyw, by omega, by omega, fun p10 L H10 hrL n10 hp10 s10 => ?_⟩
      have hp710 := s10 _ _ (s9 _ _ (s8 _ _ hp7))
      refine ⟨_, rfl, rfl, _, rfl, p7, _, rfl, SqL.of hp710, by rw [sgs_len]; omega, fun p11 n11 => ?_⟩
      refine ⟨p11, t.reverse.map fun c => [c], rfl, rfl, SqL.of (by rw [upd_same, sgs_rev, sgs_lists]), by rw [sum1, List.length_reverse]; omega, ?_⟩
      rw [flat1]
      refine ⟨y, t.reverse, rfl, hlt, by omega, fun H12 s12 => ?_⟩
      rw [kept_rev]
      refine ⟨_, rfl, hyw, by omega, by omega, fun p13 M H13 hrM n13 hp13 s13 => ?_⟩
      have eM := hrL.same hyw (by omega) hrM
      subst eM
      have hltL := hrL.lt hyw
      have s11 := Same.upd (o := .lst (sgs t).reverse) n11
      refine ⟨.list (tds L), .list (tds L), .lst (SqL.of (s13 _ _ (s12 _ _ (s11 _ _ hp10)))) (rdds_txs L), .lst (SqL.of hp13) (rdds_txs L), ⟨lay_txs hltL, lay_txs hltL⟩, by show PyData.depthAll (tds L) + 1 ≤ 60; rw [depth_txs]; decide, ?_⟩
      refine ⟨_, rfl, iteN (by rw [eqv_refl (.list (tds L)) (show PyData.hasDictAll (tds L) = false from dict_txs L)]; rfl) ?_⟩
      exact ⟨t.length, by simp, t, p7, _, rfl, rfl, s13 _ _ (s12 _ _ (s11 _ _ hp710)), ht0, by omega, st, (((((s7.trans s8).trans s9).trans s10).trans s11).trans s12).trans s13⟩
  · have e' : ¬ (1 : Int) < ((sgs lf).length : Nat) := fun z => e (decide_eq_true z)
    rw [sgs_len] at e'
    obtain ⟨c, rfl⟩ : ∃ c, lf = [c] := by
      cases lf with
      | nil => exact absurd rfl hne
      | cons c t => cases t with
        | nil => exact ⟨c, rfl⟩
        | cons d t => exfalso; apply e'; simp only [List.length_cons]; omega
    have hcs := so.sml c (by simp)
    have hcy := so.iny c (by simp)
    have hyw := hy.within so.sml
    have hlw := so.len hy
    have hlw2 : (y.filter (kept [c])).length = 2 := by rw [hlw]; rfl
    have hcw : c ∈ y.filter (kept [c]) := List.mem_filter.mpr ⟨hcy, by rw [kept_or so.sml (hy.lt c hcy)]; simp⟩
    have at0 : atI (sgs [c]) 0 = some (V.str (S [c])) := rfl
    refine ⟨_, rfl, _, rfl, pl, _, 0, _, rfl, rfl, SqL.of hpl, at0, ?_⟩
    refine ⟨y, [c], rfl, hlt, by omega, fun H8 s8 => ?_⟩
    refine ⟨_, rfl, hyw, by omega, by omega, fun p9 L H9 hrL n9 hp9 s9 => ?_⟩
    have eL := hrL.same hyw (by omega) (one_band hyw hlw2 hcw hcs)
    subst eL
    have hpl9 := s9 _ _ (s8 _ _ hpl)
    refine ⟨_, rfl, pl, _, 0, _, rfl, rfl, SqL.of hpl9, at0, c, rfl, hy.lt c hcy, _, rfl, pl, _, 0, _, rfl, rfl, SqL.of hpl9, at0, by show 2 ≤ sizeLine; decide, fun p10 n10 => ?_⟩
    have hltL := hrL.lt hyw
    refine ⟨.list (tds [[ctr c], [c]]), .list (tds [[ctr c], [c]]), .lst (SqL.of (Same.upd n10 _ _ hp9)) (rdds_txs _), .lst (SqL.of upd_same) (rdds_txs [[ctr c], [c]]), ⟨lay_txs hltL, lay_txs hltL⟩, by show PyData.depthAll (tds [[ctr c], [c]]) + 1 ≤ 60; rw [depth_txs]; decide, ?_⟩
    rw [eqv_refl (.list (tds [[ctr c], [c]])) (show PyData.hasDictAll (tds [[ctr c], [c]]) = false from dict_txs _)]
    exact q _ (((s6.trans s8).trans s9).trans (Same.upd n10))
/-- names: 0 _law_script, 1 _law_asked, 2 _law_k, 3 _law_box_here, 4 _law_yard_here -/
theorem ok_law (T : Txt K mg f0 f1 f2 f3 f4 f5 f6 f7 f8 f9 f10 f11 f12 f13 f14 f15 f16 f17 f18 d0 d1 d2 d3 d4 d5 d6 d7 d8 d9 d10 d11 d12 d13 d14 d15 d16 d17 d18) : FnOk P w K mg base CX0 9 f18 d18 ["_law_script"] (sp_law K) := by
  have G_Lbox := ok_Lbox (P := P) (w := w) (base := base) T
  have G_Lyard := ok_Lyard (P := P) (w := w) (base := base) T
  have G_Lorder := ok_Lorder (P := P) (w := w) (base := base) T
  have G_bands := ok_bands (P := P) (w := w) (base := base) T
  have G_Lright := ok_Lright (P := P) (w := w) (base := base) T
  refine T.F18.fn.ok sc_law (fun vs H Q E h => len_law h) (fun cdv A outer s H vs Q E hr h => ?_)
  refine ⟨_, (pss_cons (ps_set (i := 1) sc_law.nd rfl (Or.inl rfl) (pe_lst pa_nil))
      (pss_cons (ps_for PassesOwn.never rfl (pi_range1 rfl T.z_range (pa_cons (pe_callB (call_max2 rfl) rfl T.z_max boot_max (pa_cons pe_int (pa_cons (pe_callB (call_min2 rfl) rfl T.z_min boot_min (pa_cons pe_int (pa_cons (pe_callB (call_len_seqK K rfl) rfl T.z_len PySem.boot_len (pa_cons (pv 0) pa_nil)) pa_nil))) pa_nil))) pa_nil)) (pg_name (i := 2) sc_law.nd rfl (Or.inl rfl)) (pss_cons (ps_set (i := 3) sc_law.nd rfl (Or.inl rfl) (pe_call G_Lbox (hr.mono (by decide)) rfl T.F10.mg T.F10.fn.kp T.F10.bd .nil pass0 (pa_cons (pv 0) (pa_cons (pv 2) pa_nil))))
      (pss_cons (ps_set (i := 4) sc_law.nd rfl (Or.inl rfl) (pe_call G_Lyard (hr.mono (by decide)) rfl T.F13.mg T.F13.fn.kp T.F13.bd .nil pass0 (pa_cons (pv 3) (pa_cons pe_int (pa_cons pe_int pa_nil)))))
      (pss_one (ps_expr (pe_bmK K rfl PySem.F.plainAttrs_list PySem.F.slot_list_append PySem.F.type_list_append mt_append (pv 1) (pa_cons (pe_tup (pa_cons (pv 4) (pa_cons (pe_call G_Lorder (hr.mono (by decide)) rfl T.F14.mg T.F14.fn.kp T.F14.bd .nil pass0 (pa_cons (pv 3) (pa_cons (pe_callTy (call_listS rfl) rfl T.z_list boot_list (pa_cons (pe_call G_bands (hr.mono (by decide)) rfl T.F4.mg T.F4.fn.kp T.F4.bd .nil pass0 (pa_cons (pv 4) pa_nil)) pa_nil)) pa_nil))) pa_nil))) pa_nil)))))))
      (pss_one (ps_ret (pe_callB (call_allK K rfl rfl) rfl T.z_all boot_all (pa_cons (pe_compB ["_law_yard_here", "_law_order_here"] [none, none] (pi_listK K rfl (pv 1)) trivial (fun _ _ _ _ => (pg_tupK (n := 2) K rfl rfl (pgs_cons (pg_name (i := 0) (by decide +kernel : List.Nodup (["_law_yard_here", "_law_order_here"] : List Str)) rfl (Or.inl rfl)) (pgs_cons (pg_name (i := 1) (by decide +kernel : List.Nodup (["_law_yard_here", "_law_order_here"] : List Str)) rfl (Or.inl rfl)) pgs_nil)))) (fun _ _ _ _ => pf_nil) (fun _ _ _ _ => (pe_call G_Lright (hr.mono (by decide)) rfl T.F17.mg T.F17.fn.kp T.F17.bd .nil pass0 (pa_cons (pv 0) (pa_cons (pv 1) pa_nil))))) pa_nil)))))), ?_⟩
  obtain ⟨a, ns, rfl, hS, hl, q⟩ := h
  have hs : (100000 : Nat) < sizeLine := by decide
  walk_at "wk"
  intro p1 n1
  walk_at "wk"
  refine ⟨a, _, rfl, .inl ((Same.upd n1).seq hS), ?_⟩
  have hcnt := cnt (lo := 1) (hi := 4) (m := (ns.map V.int).length) (by decide)
  refine ⟨_, _, rfl, _, _, rfl, ?_⟩
  refine ⟨_, rfl, by omega, by omega, ?_⟩
  refine for_range (fun i σ H' => ∃ (ks : List Ask) (kv bv yv : Option V), σ = [some (.ref a), some (.ref p1), kv, bv, yv] ∧ H' p1 = some (.lst (akv ks)) ∧ ks.length = i ∧ (∀ k ∈ ks, AskOk H' k ∧ k.t ≠ p1 ∧ k.p ≠ p1) ∧ SameB p1 H H')
    ⟨[], none, none, none, rfl, upd_same, rfl, fun _ h => absurd h List.not_mem_nil, SameB.of (Same.upd n1)⟩ ?_ ?_
  · rintro i σ H2 hi ⟨ks, kv, bv, yv, rfl, hp1, hkl, hk, s1⟩
    have hi6 : i < 5 := by omega
    refine ⟨_, rfl, _, rfl, a, ns, i, by rw [Int.zero_add]; rfl, seqB hS n1 s1, by omega, fun b H3 nb bx s2 => ?_⟩
    have hb1 : p1 ≠ b := fun z => by rw [← z, hp1] at nb; cases nb
    refine ⟨_, rfl, b, 2, 4, rfl, bx, by decide, by decide, by decide, fun y H5 hy hy1 hy2 bx5 s5 => ?_⟩
    have s25 : Same H2 H5 := SameB.same nb s2 s5
    refine ⟨_, rfl, .inl ⟨rfl, _, SqL.of (s25 _ _ hp1)⟩, ?_⟩
    refine ⟨_, rfl, _, rfl, _, rfl, y, rfl, lt128 hy.lt, by omega, fun l6 H6 hl6 _ s6 => ?_⟩
    have hl8 : l6.length ≤ 8 := by have := hl6.length_eq; have := List.length_filter_le isLow y; omega
    refine ⟨l6, rfl, by omega, fun p7 n7 => ?_⟩
    have s67 := Same.upd (o := .lst (sgs l6)) n7
    refine ⟨b, p7, l6, rfl, (bx5.same s6).same s67, SqL.of upd_same, by omega, fun p8 l8 H8 n8 b8 hp8 hl8' bx8 s8 => ?_⟩
    have s28 : Same H2 H8 := SameB.same nb s2 (((s5.after s6).after s67).trans s8)
    have hp18 := s28 _ _ hp1
    have n82 : H2 p8 = none := Same.free ((s25.trans s6).trans s67) n8
    have p81 : p8 ≠ p1 := fun z => by rw [z, hp1] at n82; cases n82
    refine ⟨by show 2 ≤ sizeLine; decide, fun t nt => ?_⟩
    have ht1 : t ≠ p1 := fun z => by rw [z, hp18] at nt; cases nt
    have s29 : Same H2 (upd H8 t (.tup [.str (S y), .ref p8])) := s28.trans (Same.upd nt)
    refine ⟨p1, _, _, rfl, rfl, (Same.upd nt) _ _ hp18, by rw [akv_len]; omega, ?_⟩
    refine ⟨ks ++ [⟨t, p8, y, l8⟩], _, _, _, rfl, by rw [upd_same]; exact congrArg (fun x => some (HO.lst x)) (akv_snoc ks ⟨t, p8, y, l8⟩), by simp [hkl], fun k hk' => ?_, fun c o e z => ?_⟩
    · rcases List.mem_append.mp hk' with z | z
      · obtain ⟨k1, k2, k3⟩ := hk k z
        exact ⟨(k1.same s29).upd k2 k3, k2, k3⟩
      · have e := List.mem_singleton.mp z
        subst e
        exact ⟨AskOk.upd (H := upd H8 t (.tup [.str (S y), .ref p8])) ⟨upd_same, (Same.upd nt) _ _ hp8, hy, by omega, by omega, hl8'.trans hl6⟩ ht1 p81, ht1, p81⟩
    · rw [upd_ne z]
      exact s29 _ _ (s1 c o e z)
  · rintro σ H2 ⟨us, kv, bv, yv, rfl, hp1, hkl, hk, s1⟩
    have hul : us.length ≤ 4 := by omega
    refine ⟨_, rfl, p1, rfl, ⟨_, SqL.of hp1⟩, ?_⟩
    refine comp_list (K := K) (a := p1) (xs := akv us) (fun i acc H' => H' p1 = some (.lst (akv us)) ∧ (∀ k ∈ us, AskOk H' k) ∧ acc = (List.replicate i true).map V.bl) (by rw [akv_len]; omega) (fun i acc H' h => SqL.of h.1) ⟨hp1, fun k hk' => (hk k hk').1, rfl⟩ ?_ ?_
    · rintro i x acc H3 Nx hi hx hal ⟨hp3, hk3, rfl⟩ nx
      rw [akv_len] at hi
      have hx' : x = V.ref us[i].t := by
        unfold akv at hx
        rw [List.getElem?_map, List.getElem?_eq_getElem hi] at hx
        cases hx; rfl
      subst hx'
      have hm : us[i] ∈ us := List.getElem_mem hi
      have ho := hk3 _ hm
      generalize us[i] = u at hm ho
      refine ⟨u.t, _, rfl, SqT.of ho.tp, rfl, _, _, rfl, _, _, rfl, rfl, ?_⟩
      refine ⟨trivial, yes_ite ?_⟩
      refine ⟨_, rfl, _, rfl, u.y, u.l, u.p, rfl, ho.yd, ho.l4, ho.l8, ho.lp, ho.pm, fun H4 s4 => ?_⟩
      exact nx _ _ (by simpa using hal) ⟨s4 _ _ hp3, fun k hk' => (hk3 k hk').same s4, rep_snoc _⟩
    · rintro acc H3 D hal ⟨hp3, hk3, rfl⟩ hD
      refine ⟨D, _, rfl, SqL.of upd_same, ?_⟩
      rw [all_rep]
      exact q _
end
theorem all_mk {l : PySem.W.OpenLaw} {w : World} {K : PySem.W.Frag} {h : Heap} {mg : Str → Option Value} {fa f0 f1 f2 f3 f4 f5 f6 f7 f8 f9 f10 f11 f12 f13 f14 f15 f16 f17 f18 : Addr} (X : K.In h) (G : h.Ns mainGlobals mg) (hfa : mg "law" = some (.ref fa))
    {od0 an0 od1 an1 od2 an2 od3 an3 od4 an4 od5 an5 od6 an6 od7 an7 od8 an8 od9 an9 od10 an10 od11 an11 od12 an12 od13 an13 od14 an14 od15 an15 od16 an16 od17 an17 od18 an18 : Option Addr} {sl0 sl1 sl2 sl3 sl4 sl5 sl6 sl7 sl8 sl9 sl10 sl11 sl12 sl13 sl14 sl15 sl16 sl17 sl18 : Array (Option Value)} {oc0 kV0 dc0 pm0 cd0 ct0 oc1 kV1 dc1 pm1 cd1 ct1 oc2 kV2 dc2 pm2 cd2 ct2 oc3 kV3 dc3 pm3 cd3 ct3 oc4 kV4 dc4 pm4 cd4 ct4 oc5 kV5 dc5 pm5 cd5 ct5 oc6 kV6 dc6 pm6 cd6 ct6 oc7 kV7 dc7 pm7 cd7 ct7 oc8 kV8 dc8 pm8 cd8 ct8 oc9 kV9 dc9 pm9 cd9 ct9 oc10 kV10 dc10 pm10 cd10 ct10 oc11 kV11 dc11 pm11 cd11 ct11 oc12 kV12 dc12 pm12 cd12 ct12 oc13 kV13 dc13 pm13 cd13 ct13 oc14 kV14 dc14 pm14 cd14 ct14 oc15 kV15 dc15 pm15 cd15 ct15 oc16 kV16 dc16 pm16 cd16 ct16 oc17 kV17 dc17 pm17 cd17 ct17 oc18 kV18 dc18 pm18 cd18 ct18 : Value}
    (a0 : PySem.W.nsIn K mainGlobals "contrary" = some (some (.ref f0)))
    (l0 : K.lookup f0 = some ⟨oc0, od0, .func (PySem.W.fnOf "contrary" "contrary" (defArgs s_contrary) (defBody s_contrary) (defScope s_contrary) .none kV0 dc0 pm0 an0 cd0 ct0), sl0⟩)
    (c0 : PySem.W.codeIn K cd0 "contrary" = true)
    (k0 : PySem.W.keepIn K (.ref f0) = true)
    (a1 : PySem.W.nsIn K mainGlobals "shortened" = some (some (.ref f1)))
    (l1 : K.lookup f1 = some ⟨oc1, od1, .func (PySem.W.fnOf "shortened" "shortened" (defArgs s_shortened) (defBody s_shortened) (defScope s_shortened) .none kV1 dc1 pm1 an1 cd1 ct1), sl1⟩)
    (c1 : PySem.W.codeIn K cd1 "shortened" = true)
    (k1 : PySem.W.keepIn K (.ref f1) = true)
    (a2 : PySem.W.nsIn K mainGlobals "shortest" = some (some (.ref f2)))
    (l2 : K.lookup f2 = some ⟨oc2, od2, .func (PySem.W.fnOf "shortest" "shortest" (defArgs s_shortest) (defBody s_shortest) (defScope s_shortest) .none kV2 dc2 pm2 an2 cd2 ct2), sl2⟩)
    (c2 : PySem.W.codeIn K cd2 "shortest" = true)
    (k2 : PySem.W.keepIn K (.ref f2) = true)
    (a3 : PySem.W.nsIn K mainGlobals "ring" = some (some (.ref f3)))
    (l3 : K.lookup f3 = some ⟨oc3, od3, .func (PySem.W.fnOf "ring" "ring" (defArgs s_ring) (defBody s_ring) (defScope s_ring) .none kV3 dc3 pm3 an3 cd3 ct3), sl3⟩)
    (c3 : PySem.W.codeIn K cd3 "ring" = true)
    (k3 : PySem.W.keepIn K (.ref f3) = true)
    (a4 : PySem.W.nsIn K mainGlobals "bands" = some (some (.ref f4)))
    (l4 : K.lookup f4 = some ⟨oc4, od4, .func (PySem.W.fnOf "bands" "bands" (defArgs s_bands) (defBody s_bands) (defScope s_bands) .none kV4 dc4 pm4 an4 cd4 ct4), sl4⟩)
    (c4 : PySem.W.codeIn K cd4 "bands" = true)
    (k4 : PySem.W.keepIn K (.ref f4) = true)
    (a5 : PySem.W.nsIn K mainGlobals "within" = some (some (.ref f5)))
    (l5 : K.lookup f5 = some ⟨oc5, od5, .func (PySem.W.fnOf "within" "within" (defArgs s_within) (defBody s_within) (defScope s_within) .none kV5 dc5 pm5 an5 cd5 ct5), sl5⟩)
    (c5 : PySem.W.codeIn K cd5 "within" = true)
    (k5 : PySem.W.keepIn K (.ref f5) = true)
    (a6 : PySem.W.nsIn K mainGlobals "next_end" = some (some (.ref f6)))
    (l6 : K.lookup f6 = some ⟨oc6, od6, .func (PySem.W.fnOf "next_end" "next_end" (defArgs s_next_end) (defBody s_next_end) (defScope s_next_end) .none kV6 dc6 pm6 an6 cd6 ct6), sl6⟩)
    (c6 : PySem.W.codeIn K cd6 "next_end" = true)
    (k6 : PySem.W.keepIn K (.ref f6) = true)
    (a7 : PySem.W.nsIn K mainGlobals "rim_behind" = some (some (.ref f7)))
    (l7 : K.lookup f7 = some ⟨oc7, od7, .func (PySem.W.fnOf "rim_behind" "rim_behind" (defArgs s_rim_behind) (defBody s_rim_behind) (defScope s_rim_behind) .none kV7 dc7 pm7 an7 cd7 ct7), sl7⟩)
    (c7 : PySem.W.codeIn K cd7 "rim_behind" = true)
    (k7 : PySem.W.keepIn K (.ref f7) = true)
    (a8 : PySem.W.nsIn K mainGlobals "rims" = some (some (.ref f8)))
    (l8 : K.lookup f8 = some ⟨oc8, od8, .func (PySem.W.fnOf "rims" "rims" (defArgs s_rims) (defBody s_rims) (defScope s_rims) .none kV8 dc8 pm8 an8 cd8 ct8), sl8⟩)
    (c8 : PySem.W.codeIn K cd8 "rims" = true)
    (k8 : PySem.W.keepIn K (.ref f8) = true)
    (a9 : PySem.W.nsIn K mainGlobals "handles" = some (some (.ref f9)))
    (l9 : K.lookup f9 = some ⟨oc9, od9, .func (PySem.W.fnOf "handles" "handles" (defArgs s_handles) (defBody s_handles) (defScope s_handles) .none kV9 dc9 pm9 an9 cd9 ct9), sl9⟩)
    (c9 : PySem.W.codeIn K cd9 "handles" = true)
    (k9 : PySem.W.keepIn K (.ref f9) = true)
    (a10 : PySem.W.nsIn K mainGlobals "_law_box" = some (some (.ref f10)))
    (l10 : K.lookup f10 = some ⟨oc10, od10, .func (PySem.W.fnOf "_law_box" "_law_box" (defArgs s_Lbox) (defBody s_Lbox) (defScope s_Lbox) .none kV10 dc10 pm10 an10 cd10 ct10), sl10⟩)
    (c10 : PySem.W.codeIn K cd10 "_law_box" = true)
    (k10 : PySem.W.keepIn K (.ref f10) = true)
    (a11 : PySem.W.nsIn K mainGlobals "_law_take" = some (some (.ref f11)))
    (l11 : K.lookup f11 = some ⟨oc11, od11, .func (PySem.W.fnOf "_law_take" "_law_take" (defArgs s_Ltake) (defBody s_Ltake) (defScope s_Ltake) .none kV11 dc11 pm11 an11 cd11 ct11), sl11⟩)
    (c11 : PySem.W.codeIn K cd11 "_law_take" = true)
    (k11 : PySem.W.keepIn K (.ref f11) = true)
    (a12 : PySem.W.nsIn K mainGlobals "_law_other" = some (some (.ref f12)))
    (l12 : K.lookup f12 = some ⟨oc12, od12, .func (PySem.W.fnOf "_law_other" "_law_other" (defArgs s_Lother) (defBody s_Lother) (defScope s_Lother) .none kV12 dc12 pm12 an12 cd12 ct12), sl12⟩)
    (c12 : PySem.W.codeIn K cd12 "_law_other" = true)
    (k12 : PySem.W.keepIn K (.ref f12) = true)
    (a13 : PySem.W.nsIn K mainGlobals "_law_yard" = some (some (.ref f13)))
    (l13 : K.lookup f13 = some ⟨oc13, od13, .func (PySem.W.fnOf "_law_yard" "_law_yard" (defArgs s_Lyard) (defBody s_Lyard) (defScope s_Lyard) .none kV13 dc13 pm13 an13 cd13 ct13), sl13⟩)
    (c13 : PySem.W.codeIn K cd13 "_law_yard" = true)
    (k13 : PySem.W.keepIn K (.ref f13) = true)
    (a14 : PySem.W.nsIn K mainGlobals "_law_order" = some (some (.ref f14)))
    (l14 : K.lookup f14 = some ⟨oc14, od14, .func (PySem.W.fnOf "_law_order" "_law_order" (defArgs s_Lorder) (defBody s_Lorder) (defScope s_Lorder) .none kV14 dc14 pm14 an14 cd14 ct14), sl14⟩)
    (c14 : PySem.W.codeIn K cd14 "_law_order" = true)
    (k14 : PySem.W.keepIn K (.ref f14) = true)
    (a15 : PySem.W.nsIn K mainGlobals "_law_counted" = some (some (.ref f15)))
    (l15 : K.lookup f15 = some ⟨oc15, od15, .func (PySem.W.fnOf "_law_counted" "_law_counted" (defArgs s_Lcounted) (defBody s_Lcounted) (defScope s_Lcounted) .none kV15 dc15 pm15 an15 cd15 ct15), sl15⟩)
    (c15 : PySem.W.codeIn K cd15 "_law_counted" = true)
    (k15 : PySem.W.keepIn K (.ref f15) = true)
    (a16 : PySem.W.nsIn K mainGlobals "_law_less" = some (some (.ref f16)))
    (l16 : K.lookup f16 = some ⟨oc16, od16, .func (PySem.W.fnOf "_law_less" "_law_less" (defArgs s_Lless) (defBody s_Lless) (defScope s_Lless) .none kV16 dc16 pm16 an16 cd16 ct16), sl16⟩)
    (c16 : PySem.W.codeIn K cd16 "_law_less" = true)
    (k16 : PySem.W.keepIn K (.ref f16) = true)
    (a17 : PySem.W.nsIn K mainGlobals "_law_right" = some (some (.ref f17)))
    (l17 : K.lookup f17 = some ⟨oc17, od17, .func (PySem.W.fnOf "_law_right" "_law_right" (defArgs s_Lright) (defBody s_Lright) (defScope s_Lright) .none kV17 dc17 pm17 an17 cd17 ct17), sl17⟩)
    (c17 : PySem.W.codeIn K cd17 "_law_right" = true)
    (k17 : PySem.W.keepIn K (.ref f17) = true)
    (a18 : PySem.W.nsIn K mainGlobals "law" = some (some (.ref f18)))
    (l18 : K.lookup f18 = some ⟨oc18, od18, .func (PySem.W.fnOf "law" "law" (defArgs s_law) (defBody s_law) (defScope s_law) .none kV18 dc18 pm18 an18 cd18 ct18), sl18⟩)
    (c18 : PySem.W.codeIn K cd18 "law" = true)
    (k18 : PySem.W.keepIn K (.ref f18) = true)
    (z_all : PySem.W.nsIn K mainGlobals "all" = some none)
    (z_int : PySem.W.nsIn K mainGlobals "int" = some none)
    (z_len : PySem.W.nsIn K mainGlobals "len" = some none)
    (z_list : PySem.W.nsIn K mainGlobals "list" = some none)
    (z_max : PySem.W.nsIn K mainGlobals "max" = some none)
    (z_min : PySem.W.nsIn K mainGlobals "min" = some none)
    (z_range : PySem.W.nsIn K mainGlobals "range" = some none)
    (z_reversed : PySem.W.nsIn K mainGlobals "reversed" = some none)
    (z_sorted : PySem.W.nsIn K mainGlobals "sorted" = some none) :
    ∃ fd : FuncData, (∀ (s : Shared) (v : Value), BindsTo s fd ⟨[v], []⟩ [("_law_script", v)]) ∧ ∀ base : Heap, K.In base → base.Ns mainGlobals mg → FnOk l.prog w K mg base CX0 9 fa fd ["_law_script"] (sp_law K) := by
  have e := hfa.symm.trans (PySem.W.mg_of X G a18)
  cases e
  have F0 := fun_mk (st := s_contrary) l0 c0 k0
  have b0 := F0.binds (ps := ["letter"]) fun _ _ _ _ _ _ us hl => match us, hl with | [_], _ => rfl
  have F1 := fun_mk (st := s_shortened) l1 c1 k1
  have b1 := F1.binds (ps := ["word"]) fun _ _ _ _ _ _ us hl => match us, hl with | [_], _ => rfl
  have F2 := fun_mk (st := s_shortest) l2 c2 k2
  have b2 := F2.binds (ps := ["word"]) fun _ _ _ _ _ _ us hl => match us, hl with | [_], _ => rfl
  have F3 := fun_mk (st := s_ring) l3 c3 k3
  have b3 := F3.binds (ps := ["word"]) fun _ _ _ _ _ _ us hl => match us, hl with | [_], _ => rfl
  have F4 := fun_mk (st := s_bands) l4 c4 k4
  have b4 := F4.binds (ps := ["yard"]) fun _ _ _ _ _ _ us hl => match us, hl with | [_], _ => rfl
  have F5 := fun_mk (st := s_within) l5 c5 k5
  have b5 := F5.binds (ps := ["yard", "some"]) fun _ _ _ _ _ _ us hl => match us, hl with | [_, _], _ => rfl
  have F6 := fun_mk (st := s_next_end) l6 c6 k6
  have b6 := F6.binds (ps := ["yard", "end"]) fun _ _ _ _ _ _ us hl => match us, hl with | [_, _], _ => rfl
  have F7 := fun_mk (st := s_rim_behind) l7 c7 k7
  have b7 := F7.binds (ps := ["yard", "start"]) fun _ _ _ _ _ _ us hl => match us, hl with | [_, _], _ => rfl
  have F8 := fun_mk (st := s_rims) l8 c8 k8
  have b8 := F8.binds (ps := ["yard"]) fun _ _ _ _ _ _ us hl => match us, hl with | [_], _ => rfl
  have F9 := fun_mk (st := s_handles) l9 c9 k9
  have b9 := F9.binds (ps := ["yard"]) fun _ _ _ _ _ _ us hl => match us, hl with | [_], _ => rfl
  have F10 := fun_mk (st := s_Lbox) l10 c10 k10
  have b10 := F10.binds (ps := ["_law_script", "_law_k"]) fun _ _ _ _ _ _ us hl => match us, hl with | [_, _], _ => rfl
  have F11 := fun_mk (st := s_Ltake) l11 c11 k11
  have b11 := F11.binds (ps := ["_law_box_here", "_law_many"]) fun _ _ _ _ _ _ us hl => match us, hl with | [_, _], _ => rfl
  have F12 := fun_mk (st := s_Lother) l12 c12 k12
  have b12 := F12.binds (ps := ["_law_letter"]) fun _ _ _ _ _ _ us hl => match us, hl with | [_], _ => rfl
  have F13 := fun_mk (st := s_Lyard) l13 c13 k13
  have b13 := F13.binds (ps := ["_law_box_here", "_law_few", "_law_top"]) fun _ _ _ _ _ _ us hl => match us, hl with | [_, _, _], _ => rfl
  have F14 := fun_mk (st := s_Lorder) l14 c14 k14
  have b14 := F14.binds (ps := ["_law_box_here", "_law_things"]) fun _ _ _ _ _ _ us hl => match us, hl with | [_, _], _ => rfl
  have F15 := fun_mk (st := s_Lcounted) l15 c15 k15
  have b15 := F15.binds (ps := ["_law_yard_here"]) fun _ _ _ _ _ _ us hl => match us, hl with | [_], _ => rfl
  have F16 := fun_mk (st := s_Lless) l16 c16 k16
  have b16 := F16.binds (ps := ["_law_yard_here", "_law_band"]) fun _ _ _ _ _ _ us hl => match us, hl with | [_, _], _ => rfl
  have F17 := fun_mk (st := s_Lright) l17 c17 k17
  have b17 := F17.binds (ps := ["_law_yard_here", "_law_order_here"]) fun _ _ _ _ _ _ us hl => match us, hl with | [_, _], _ => rfl
  have F18 := fun_mk (st := s_law) l18 c18 k18
  have b18 := F18.binds (ps := ["_law_script"]) fun _ _ _ _ _ _ us hl => match us, hl with | [_], _ => rfl
  have T : Txt K mg _ _ _ _ _ _ _ _ _ _ _ _ _ _ _ _ _ _ _ _ _ _ _ _ _ _ _ _ _ _ _ _ _ _ _ _ _ _ := ⟨⟨F0, PySem.W.mg_of X G a0, b0⟩, ⟨F1, PySem.W.mg_of X G a1, b1⟩, ⟨F2, PySem.W.mg_of X G a2, b2⟩, ⟨F3, PySem.W.mg_of X G a3, b3⟩, ⟨F4, PySem.W.mg_of X G a4, b4⟩, ⟨F5, PySem.W.mg_of X G a5, b5⟩, ⟨F6, PySem.W.mg_of X G a6, b6⟩, ⟨F7, PySem.W.mg_of X G a7, b7⟩, ⟨F8, PySem.W.mg_of X G a8, b8⟩, ⟨F9, PySem.W.mg_of X G a9, b9⟩, ⟨F10, PySem.W.mg_of X G a10, b10⟩, ⟨F11, PySem.W.mg_of X G a11, b11⟩, ⟨F12, PySem.W.mg_of X G a12, b12⟩, ⟨F13, PySem.W.mg_of X G a13, b13⟩, ⟨F14, PySem.W.mg_of X G a14, b14⟩, ⟨F15, PySem.W.mg_of X G a15, b15⟩, ⟨F16, PySem.W.mg_of X G a16, b16⟩, ⟨F17, PySem.W.mg_of X G a17, b17⟩, ⟨F18, PySem.W.mg_of X G a18, b18⟩, PySem.W.mg_none_of X G z_all, PySem.W.mg_none_of X G z_int, PySem.W.mg_none_of X G z_len, PySem.W.mg_none_of X G z_list, PySem.W.mg_none_of X G z_max, PySem.W.mg_none_of X G z_min, PySem.W.mg_none_of X G z_range, PySem.W.mg_none_of X G z_reversed, PySem.W.mg_none_of X G z_sorted⟩
  exact ⟨_, fun s v => .of_eq rfl, fun base _ _ => ok_law T⟩
theorem walk {l : PySem.W.OpenLaw} {q : Program} {loose : List Str} {XP : (Str → Option Value) → Heap → Prop} {YP : World → Heap → Prop} {d : DefRec} {K : Params → PySem.W.Frag} (hn : l.most = some 63) (hdf : d.params.defaults = [])
    (hY : ∀ (w : World) (h : Heap), YP w h → (K w.params).In h)
    (F : ∀ (w : World) (mg : Str → Option Value) (fa : Addr) (h : Heap), (K w.params).In h → h.Ns mainGlobals mg → mg d.name = some (.ref fa) →
      ∃ fd : FuncData, (∀ (s : Shared) (u : Value), BindsTo s fd ⟨[u], []⟩ [("_law_script", u)]) ∧ ∀ base : Heap, (K w.params).In base → base.Ns mainGlobals mg → FnOk l.prog w (K w.params) mg base CX0 9 fa fd ["_law_script"] (sp_law (K w.params))) :
    PySem.W.WalkO q loose XP YP l.row.toRowW d [] (fun f vs => PySem.call f vs) :=
  L2.walk_of (n := 63) (k := 9) (x := "_law_script") (CX := fun _ => CX0) (sp := fun w => sp_law (K w.params)) hn (by decide) hdf ⟨rfl, by decide, by decide, rfl⟩ hY F (fun _ _ a ns hl _ hS => ⟨a, ns, rfl, hS, hl, fun _ => rfl⟩) fun _ _ _ _ _ z => z
end My
open PySem PySem.W PyProof.Rows
set_option maxRecDepth 100000 in
set_option maxHeartbeats 0 in
theorem PySem.Challenge.cw_mustmeet_k12_whole_bands_taken_out_holds : PySem.Challenge.rw_mustmeet_k12_whole_bands_taken_out.Holds := by
  w_on; o_law; k_head; (case hw => w_witness2)
  k_fill
  refine My.walk (l := PySem.Challenge.rw_mustmeet_k12_whole_bands_taken_out) rfl rfl (fun w h Y => PySem.W.kIn_of Y) ?F
  case F =>
    intro w mg fa h KX G hmg
    refine' My.all_mk KX G hmg ?a0 ?l0 ?c0 ?k0 ?a1 ?l1 ?c1 ?k1 ?a2 ?l2 ?c2 ?k2 ?a3 ?l3 ?c3 ?k3 ?a4 ?l4 ?c4 ?k4 ?a5 ?l5 ?c5 ?k5 ?a6 ?l6 ?c6 ?k6 ?a7 ?l7 ?c7 ?k7 ?a8 ?l8 ?c8 ?k8 ?a9 ?l9 ?c9 ?k9 ?a10 ?l10 ?c10 ?k10 ?a11 ?l11 ?c11 ?k11 ?a12 ?l12 ?c12 ?k12 ?a13 ?l13 ?c13 ?k13 ?a14 ?l14 ?c14 ?k14 ?a15 ?l15 ?c15 ?k15 ?a16 ?l16 ?c16 ?k16 ?a17 ?l17 ?c17 ?k17 ?a18 ?l18 ?c18 ?k18 ?z_all ?z_int ?z_len ?z_list ?z_max ?z_min ?z_range ?z_reversed ?z_sorted
    (case a0 => k_is)
    (case l0 => k_is)
    (case c0 => k_is)
    (case k0 => k_is)
    (case a1 => k_is)
    (case l1 => k_is)
    (case c1 => k_is)
    (case k1 => k_is)
    (case a2 => k_is)
    (case l2 => k_is)
    (case c2 => k_is)
    (case k2 => k_is)
    (case a3 => k_is)
    (case l3 => k_is)
    (case c3 => k_is)
    (case k3 => k_is)
    (case a4 => k_is)
    (case l4 => k_is)
    (case c4 => k_is)
    (case k4 => k_is)
    (case a5 => k_is)
    (case l5 => k_is)
    (case c5 => k_is)
    (case k5 => k_is)
    (case a6 => k_is)
    (case l6 => k_is)
    (case c6 => k_is)
    (case k6 => k_is)
    (case a7 => k_is)
    (case l7 => k_is)
    (case c7 => k_is)
    (case k7 => k_is)
    (case a8 => k_is)
    (case l8 => k_is)
    (case c8 => k_is)
    (case k8 => k_is)
    (case a9 => k_is)
    (case l9 => k_is)
    (case c9 => k_is)
    (case k9 => k_is)
    (case a10 => k_is)
    (case l10 => k_is)
    (case c10 => k_is)
    (case k10 => k_is)
    (case a11 => k_is)
    (case l11 => k_is)
    (case c11 => k_is)
    (case k11 => k_is)
    (case a12 => k_is)
    (case l12 => k_is)
    (case c12 => k_is)
    (case k12 => k_is)
    (case a13 => k_is)
    (case l13 => k_is)
    (case c13 => k_is)
    (case k13 => k_is)
    (case a14 => k_is)
    (case l14 => k_is)
    (case c14 => k_is)
    (case k14 => k_is)
    (case a15 => k_is)
    (case l15 => k_is)
    (case c15 => k_is)
    (case k15 => k_is)
    (case a16 => k_is)
    (case l16 => k_is)
    (case c16 => k_is)
    (case k16 => k_is)
    (case a17 => k_is)
    (case l17 => k_is)
    (case c17 => k_is)
    (case k17 => k_is)
    (case a18 => k_is)
    (case l18 => k_is)
    (case c18 => k_is)
    (case k18 => k_is)
    (case z_all => k_is)
    (case z_int => k_is)
    (case z_len => k_is)
    (case z_list => k_is)
    (case z_max => k_is)
    (case z_min => k_is)
    (case z_range => k_is)
    (case z_reversed => k_is)
    (case z_sorted => k_is)
