import PyProof.Rows.All
import Wide.All
import OpenK.AllK
import Wide.FinOn
import Lean
import PyProof.EqAt
import PyProof.EqKinds
import PyProof.TupleCall
import PySem.Challenge.RW_mustmeet_k85_whole_rank_and_handles
set_option Elab.async false
set_option linter.all false
set_option maxRecDepth 100000
/-! THE HAND LAYER, for ints, bools, texts, own classes, LISTS and tuples (index, slices, in, append, pop ..), calls, loops. Paste it whole ahead of your own text; what your proof does not reach may be deleted. -/
namespace L2
open PySem PySem.Spec PyProof.Rows

/-- a key: an int or a str -/
abbrev Key := Sum Int Str
def keyIs : Key → Value → Bool
  | .inl k, v => Value.isInt k v
  | .inr x, v => Value.isStrOf x v
def keyH (w : World) : Key → Int
  | .inl k => hashInt k
  | .inr x => hashStr w x
theorem keyIs_shape : ∀ {k : Key} {v : Value}, keyIs k v = true → (∃ i t, k = Sum.inl i ∧ v = Value.int i t) ∨ (∃ x t, k = Sum.inr x ∧ v = Value.str x t)
  | .inl i, v, h => by
    obtain ⟨t, e⟩ := Value.isInt_shape (k := i) (v := v) h
    exact .inl ⟨i, t, rfl, e⟩
  | .inr x, v, h => by
    obtain ⟨t, e⟩ := Value.isStrOf_shape (x := x) (v := v) h
    exact .inr ⟨x, t, rfl, e⟩
theorem keyIs_int (i : Int) (t : Tok) : keyIs (.inl i) (.int i t) = true := by simp [keyIs, Value.isInt]
theorem keyIs_str (x : Str) (t : Tok) : keyIs (.inr x) (.str x t) = true := by simp [keyIs, Value.isStrOf]
theorem key_ll (a b : Int) : decide ((Sum.inl a : Key) = Sum.inl b) = (a == b) := by
  by_cases e : a = b
  · subst e; simp
  · have h : ¬ (Sum.inl a : Key) = Sum.inl b := fun q => e (Sum.inl.inj q)
    rw [decide_eq_false h]
    exact (beq_eq_false_iff_ne.mpr e).symm
theorem key_rr (a b : Str) : decide ((Sum.inr a : Key) = Sum.inr b) = decide (a = b) := by
  by_cases e : a = b
  · subst e; simp
  · have h : ¬ (Sum.inr a : Key) = Sum.inr b := fun q => e (Sum.inr.inj q)
    rw [decide_eq_false h, decide_eq_false e]
theorem key_lr (a : Int) (b : Str) : decide ((Sum.inl a : Key) = Sum.inr b) = false := decide_eq_false (fun q => nomatch q)
theorem key_rl (a : Str) (b : Int) : decide ((Sum.inr a : Key) = Sum.inl b) = false := decide_eq_false (fun q => nomatch q)

def mixKind (prog : Program) (w : World) : PySem.KeyKind prog w Key where
  is := keyIs
  hash := keyH w
  inj := fun v a b ha hb => by
    rcases keyIs_shape ha with ⟨i, t, rfl, rfl⟩ | ⟨x, t, rfl, rfl⟩
    · rcases keyIs_shape hb with ⟨j, u, rfl, e⟩ | ⟨y, u, rfl, e⟩
      · injection e with e1 _; rw [e1]
      · exact nomatch e
    · rcases keyIs_shape hb with ⟨j, u, rfl, e⟩ | ⟨y, u, rfl, e⟩
      · exact nomatch e
      · injection e with e1 _; rw [e1]
  byValue := fun k v h => by
    rcases keyIs_shape h with ⟨i, t, rfl, rfl⟩ | ⟨x, t, rfl, rfl⟩ <;> rfl
  pyHash := fun hv h => by
    rcases keyIs_shape hv with ⟨i, t, rfl, rfl⟩ | ⟨x, t, rfl, rfl⟩
    · exact wpAny_pyHash_int h
    · exact wpAny_pyHash_str h
  eqBool := fun hu hv h => by
    rcases keyIs_shape hu with ⟨i, t, rfl, rfl⟩ | ⟨x, t, rfl, rfl⟩
    · rcases keyIs_shape hv with ⟨j, u, rfl, rfl⟩ | ⟨y, u, rfl, rfl⟩
      · rw [key_ll] at h; exact wpAny_eqBool_int h
      · rw [key_lr] at h; exact SeqAt.EqAt.int_str i t y u _ _ _ _ h
    · rcases keyIs_shape hv with ⟨j, u, rfl, rfl⟩ | ⟨y, u, rfl, rfl⟩
      · rw [key_rl] at h; exact SeqAt.EqAt.str_int x t j u _ _ _ _ h
      · rw [key_rr] at h; exact wpAny_eqBool_str h
  «strs» := fun k x t v h => by
    rcases keyIs_shape h with ⟨i, u, rfl, e⟩ | ⟨y, u, rfl, e⟩
    · exact nomatch e
    · injection e with e1 _
      subst e1
      cases v <;> rfl

theorem mixKind_int (prog : Program) (w : World) (i : Int) (t : Tok) : (mixKind prog w).is (.inl i) (.int i t) = true := keyIs_int i t
theorem mixKind_str (prog : Program) (w : World) (x : Str) (t : Tok) : (mixKind prog w).is (.inr x) (.str x t) = true := keyIs_str x t
end L2

namespace L2
open PySem PySem.Spec PyProof.Rows

/-- a value, without the heap -/
inductive V where
  | non | bl (b : Bool) | int (i : Int) | str (x : Str) | byt (b : Array UInt8) | flt (b : UInt64) | ref (a : Addr) | ty (n : String)
  deriving DecidableEq

def RelV : V → Value → Prop
  | .non, u => u = Value.none
  | .bl b, u => u = Value.bool b
  | .int i, u => ∃ t, u = Value.int i t
  | .str x, u => ∃ t, u = Value.str x t
  | .byt b, u => ∃ t, u = Value.bytes b t
  | .flt b, u => ∃ t, u = Value.float b t
  | .ref a, u => u = Value.ref a
  | .ty n, u => u = Value.type n

abbrev Vals : List V → List Value → Prop := Paired RelV
theorem Vals.length {xs : List V} {us : List Value} (r : Vals xs us) : xs.length = us.length := Paired.length r
theorem Vals.get : ∀ {xs : List V} {us : List Value} {i : Nat} {x : V}, Vals xs us → xs[i]? = some x → ∃ u, us[i]? = some u ∧ RelV x u
  | _, _, _, _, .nil, e => by simp at e
  | _, _, 0, _, .cons r _, e => by simp at e; subst e; exact ⟨_, rfl, r⟩
  | _, _, i + 1, x, .cons _ t, e => by
    obtain ⟨u, h1, h2⟩ := Vals.get (i := i) (x := x) t (by simpa using e)
    exact ⟨u, by simpa using h1, h2⟩
theorem Vals.set {x : V} {u : Value} (r : RelV x u) : ∀ {xs : List V} {us : List Value} (i : Nat), Vals xs us → Vals (xs.set i x) (us.set i u)
  | _, _, _, .nil => .nil
  | _, _, 0, .cons _ t => .cons r t
  | _, _, i + 1, .cons q t => .cons q (Vals.set r i t)
theorem Vals.append : ∀ {xs ys : List V} {us ws : List Value}, Vals xs us → Vals ys ws → Vals (xs ++ ys) (us ++ ws)
  | _, _, _, _, .nil, s => s
  | _, _, _, _, .cons r t, s => .cons r (Vals.append t s)
theorem Vals.take : ∀ {xs : List V} {us : List Value} (n : Nat), Vals xs us → Vals (xs.take n) (us.take n)
  | _, _, 0, _ => .nil
  | _, _, _ + 1, .nil => .nil
  | _, _, n + 1, .cons r t => .cons r (Vals.take n t)
theorem Vals.drop : ∀ {xs : List V} {us : List Value} (n : Nat), Vals xs us → Vals (xs.drop n) (us.drop n)
  | _, _, 0, r => r
  | _, _, _ + 1, .nil => .nil
  | _, _, n + 1, .cons _ t => Vals.drop n t
theorem Vals.none_of : ∀ {xs : List V} {us : List Value} {i : Nat}, Vals xs us → xs[i]? = none → us[i]? = none := fun {xs us i} r e => by
  have h1 := r.length
  have h2 : xs.length ≤ i := List.getElem?_eq_none_iff.mp e
  exact List.getElem?_eq_none_iff.mpr (by omega)

def RelO : Option V → Option Value → Prop
  | some v, some u => RelV v u
  | none, none => True
  | _, _ => False
def KV {κ : Type} : List (κ × V) → List (κ × Value) → Prop := Paired fun (p : κ × V) (q : κ × Value) => p.1 = q.1 ∧ RelV p.2 q.2

/-- a key of a dict (00_mix): an int or a text -/
def kV : Key → V
  | .inl i => .int i
  | .inr x => .str x

/-- what stands at a tracked address -/
inductive HO where
  /-- a list -/
  | lst (xs : List V)
  /-- a tuple (never changes) -/
  | tup (xs : List V)
  /-- a dict whose keys are ints and texts; one whose keys are tuples of ints and texts (the empty one is both) -/
  | dK (kvs : List (Key × V)) | dT (kvs : List (List Key × V))
  /-- a set of ints: its members, its size -/
  | set (S : Int → Bool) (n : Nat)
  /-- an instance of the class at C, its dict at dx, its attributes -/
  | ins (C dx : Addr) (fs : List (Str × V))
  /-- the dict of the instance at x -/
  | own (x : Addr)
  /-- the dict of an exception -/
  | xd (fs : List (Str × V))
  /-- a bound method, f of x -/
  | met (f x : Addr)
  /-- a range object lo, lo + 1, .. below hi -/
  | rng (lo hi : Int)
  /-- a thing that is known to the object (the script; a dict while a loop walks it): read, never written while it is so -/
  | frz (o : Obj) (u : HO)
  /-- a code object's table -/
  | tbl (ps : Array Value)
  /-- any other thing, by what is true of its one object (a def of one's own: SetO a S n := HO.ext fun h => ..) -/
  | ext (φ : Heap → Prop)

abbrev Hp := Addr → Option HO
def upd (H : Hp) (a : Addr) (o : HO) : Hp := fun b => if b = a then some o else H b
theorem upd_same {H : Hp} {a : Addr} {o : HO} : upd H a o a = some o := by unfold upd; rw [if_pos rfl]
theorem upd_ne {H : Hp} {a b : Addr} {o : HO} (h : b ≠ a) : upd H a o b = H b := by unfold upd; rw [if_neg h]
/-- two objects of different content stand apart -/
theorem ne_of {H : Hp} {a b : Addr} {o u : HO} (h : H a = some o) (h' : H b = some u) (d : o ≠ u) : a ≠ b := by
  intro e; subst e; rw [h] at h'; exact d (Option.some.inj h')
theorem ne_of_none {H : Hp} {a b : Addr} {o : HO} (h : H a = some o) (h' : H b = none) : a ≠ b := by
  intro e; subst e; rw [h] at h'; cases h'

section
variable (P : Program) (w : World)
def ObjOk (H : Hp) (h : Heap) (a : Addr) : HO → Prop
  | .lst xs => xs.length ≤ sizeLine ∧ ∃ (its : List Value) (n : Nat), Vals xs its ∧ h.get? a = some { cls := .type "list", data := .seq its.toArray n }
  | .tup xs => xs.length ≤ sizeLine ∧ ∃ its : List Value, Vals xs its ∧ IsTup h a its.toArray
  | .dK kvs => kvs.length ≤ sizeLine ∧ (a == sysModules) = false ∧ ∃ vs, KV kvs vs ∧ h.DictOf (mixKind P w) a vs
  | .dT kvs => kvs.length ≤ sizeLine ∧ (a == sysModules) = false ∧ ∃ xs : List (List Key × Addr × Value),
      Paired (fun (p : List Key × V) (q : List Key × Addr × Value) => p.1 = q.1 ∧ H q.2.1 = some (.tup (p.1.map kV)) ∧ RelV p.2 q.2.2) kvs xs ∧
      ∃ o es ep, h.get? a = some o ∧ o.ExactDict ∧ o.data = .dict es ep ∧ es.toList = xs.map (entryOfKey (tupleKind (mixKind P w))) ∧ (xs.map (·.1)).Nodup
  | .set S n => h.SetOf (intKind P w) a S n
  | .ins C dx fs => H dx = some (.own a) ∧ fs.length ≤ 1000 ∧ dx ≠ a ∧ h.get? a = some (PySem.W.instObj C dx) ∧
      ∃ mA, h.Ns1 dx mA ∧ (∀ f, RelO (fs.lookup f) (mA f)) ∧ PySem.Within mA (fs.map (·.1))
  | .own _ => ∃ o, h.get? a = some o
  | .xd fs => ∃ mA, h.Ns1 a mA ∧ ∀ f, RelO (fs.lookup f) (mA f)
  | .rng lo hi => ∃ t u v, h.get? a = some { cls := .type "range", data := .fields #[.int lo t, .int hi u, .int 1 v] }
  | .frz o u => h.get? a = some o ∧ ObjOk H h a u
  | .tbl ps => h.get? a = some { cls := .none, data := .fields ps }
  | .met f x => h.get? a = some (PySem.W.methodObj (.ref f) (.ref x))
  | .ext φ => φ h ∧ (∃ o, h.get? a = some o) ∧ ∀ h1 h2 : Heap, φ h1 → (∀ o, h1.get? a = some o → h2.get? a = some o) → φ h2
/-- the abstract heap is held -/
def HOk (H : Hp) (h : Heap) : Prop := ∀ a o, H a = some o → ObjOk P w H h a o
end

section
variable {P : Program} {w : World} {H H' : Hp} {h h' : Heap} {a : Addr} {o : HO}
theorem ObjOk.lt (x : ObjOk P w H h a o) : a < h.objs.size := by
  cases o with
  | lst xs => obtain ⟨_, _, _, _, e⟩ := x; exact Heap.lt_size e
  | tup xs => obtain ⟨_, _, _, p⟩ := x; exact p.lt
  | dK kvs => obtain ⟨_, _, _, _, o, _, _, e, _⟩ := x; exact Heap.lt_size e
  | dT kvs => obtain ⟨_, _, _, _, o, _, _, e, _⟩ := x; exact Heap.lt_size e
  | set S n => obtain ⟨o, _, _, _, e, _⟩ := x; exact Heap.lt_size e
  | ins C dx fs => obtain ⟨_, _, _, e, _⟩ := x; exact Heap.lt_size e
  | own y => obtain ⟨_, e⟩ := x; exact Heap.lt_size e
  | xd fs => obtain ⟨_, ⟨_, _, _, e, _⟩, _⟩ := x; exact Heap.lt_size e
  | rng lo hi => obtain ⟨_, _, _, e⟩ := x; exact Heap.lt_size e
  | frz ob u => obtain ⟨e, _⟩ := x; exact Heap.lt_size e
  | tbl ps => exact Heap.lt_size (show h.get? a = some _ from x)
  | met f y => exact Heap.lt_size (show h.get? a = some _ from x)
  | ext φ => obtain ⟨_, ⟨_, e⟩, _⟩ := x; exact Heap.lt_size e
theorem Paired.mapP {α β : Type} {F G : α → β → Prop} : ∀ {l₁ : List α} {l₂ : List β}, Paired F l₁ l₂ → (∀ a b, F a b → G a b) → Paired G l₁ l₂
  | _, _, .nil, _ => .nil
  | _, _, .cons r t, f => .cons (f _ _ r) (Paired.mapP t f)
/-- what an object's description leans on: its own object, its own dict, the tuples -/
theorem ObjOk.stay (x : ObjOk P w H h a o) (k : ∀ b u, (b = a ∨ H b = some (.own a)) → h.get? b = some u → h'.get? b = some u)
    (ho : ∀ b, H b = some (.own a) → H' b = some (.own a)) (ht : ∀ b xs, H b = some (.tup xs) → H' b = some (.tup xs)) : ObjOk P w H' h' a o := by
  induction o with
  | lst xs => obtain ⟨z, its, n, r, e⟩ := x; exact ⟨z, its, n, r, k _ _ (.inl rfl) e⟩
  | tup xs => obtain ⟨z, its, r, ob, e, c⟩ := x; exact ⟨z, its, r, ob, k _ _ (.inl rfl) e, c⟩
  | dK kvs => obtain ⟨z, y, vs, r, ob, es, ep, e, c⟩ := x; exact ⟨z, y, vs, r, ob, es, ep, k _ _ (.inl rfl) e, c⟩
  | dT kvs =>
    obtain ⟨z, y, xs, r, ob, es, ep, e, c⟩ := x
    exact ⟨z, y, xs, Paired.mapP r fun p q z => ⟨z.1, ht _ _ z.2.1, z.2.2⟩, ob, es, ep, k _ _ (.inl rfl) e, c⟩
  | set S n => obtain ⟨ob, es, ep, t, e, c⟩ := x; exact ⟨ob, es, ep, t, k _ _ (.inl rfl) e, c⟩
  | ins C dx fs =>
    obtain ⟨d, z, ne, e, mA, ⟨od, es, ep, e2, c⟩, r⟩ := x
    exact ⟨ho _ d, z, ne, k _ _ (.inl rfl) e, mA, ⟨od, es, ep, k _ _ (.inr d) e2, c⟩, r⟩
  | own y => obtain ⟨ob, e⟩ := x; exact ⟨ob, k _ _ (.inl rfl) e⟩
  | xd fs => obtain ⟨mA, ⟨od, es, ep, e, c⟩, r⟩ := x; exact ⟨mA, ⟨od, es, ep, k _ _ (.inl rfl) e, c⟩, r⟩
  | rng lo hi => obtain ⟨t, u, v, e⟩ := x; exact ⟨t, u, v, k _ _ (.inl rfl) e⟩
  | frz ob u ih => obtain ⟨e, q⟩ := x; exact ⟨k _ _ (.inl rfl) e, ih q⟩
  | tbl ps =>
    have e : h.get? a = some { cls := .none, data := .fields ps } := x
    show h'.get? a = some { cls := .none, data := .fields ps }
    exact k a _ (.inl rfl) e
  | met f y =>
    have e : h.get? a = some (PySem.W.methodObj (.ref f) (.ref y)) := x
    show h'.get? a = some (PySem.W.methodObj (.ref f) (.ref y))
    exact k a _ (.inl rfl) e
  | ext φ => obtain ⟨p, ⟨o, e⟩, st⟩ := x; exact ⟨st _ _ p fun o q => k _ _ (.inl rfl) q, ⟨o, k _ _ (.inl rfl) e⟩, st⟩
theorem HOk.lt (x : HOk P w H h) (e : H a = some o) : a < h.objs.size := (x a o e).lt
theorem HOk.fresh (x : HOk P w H h) (e : h.objs.size ≤ a) : H a = none := by
  cases q : H a with
  | none => rfl
  | some u => exact absurd (Nat.lt_of_lt_of_le (x.lt q) e) (Nat.lt_irrefl _)
/-- every object of the heap is kept -/
theorem HOk.kept (x : HOk P w H h) (k : ∀ b u, h.get? b = some u → h'.get? b = some u) : HOk P w H h' := fun a o e =>
  (x a o e).stay (fun b u _ q => k b u q) (fun _ q => q) fun _ _ q => q
/-- a new object is laid and tracked -/
theorem HOk.laid (x : HOk P w H h) (k : ∀ b u, h.get? b = some u → h'.get? b = some u) (hp : h.objs.size ≤ a) (new : ObjOk P w (upd H a o) h' a o) : HOk P w (upd H a o) h' := fun b u e => by
  have hn := x.fresh hp
  by_cases hb : b = a
  · subst hb; rw [upd_same] at e; cases e; exact new
  · rw [upd_ne hb] at e
    exact (x b u e).stay (fun c v _ q => k c v q) (fun c q => by rw [upd_ne (ne_of_none q hn)]; exact q) fun c xs q => by rw [upd_ne (ne_of_none q hn)]; exact q
end

/-- what may be read as u: it is u, or a known u -/
def Rd (H : Hp) (a : Addr) (u : HO) : Prop := H a = some u ∨ ∃ o, H a = some (.frz o u)
theorem Rd.of {H : Hp} {a : Addr} {u : HO} (h : H a = some u) : Rd H a u := .inl h
theorem Rd.ok {P : Program} {w : World} {H : Hp} {h : Heap} {a : Addr} {u : HO} (r : Rd H a u) (x : HOk P w H h) : ObjOk P w H h a u := by
  rcases r with r | ⟨o, r⟩
  · exact x a u r
  · obtain ⟨_, q⟩ := x a _ r
    exact q
/-- what may be written -/
def Mut : Option HO → Prop
  | some (.lst _) => True
  | some (.dK _) => True
  | some (.dT _) => True
  | some (.set _ _) => True
  | some (.ins _ _ _) => True
  | some (.ext _) => True
  | _ => False
section
variable {P : Program} {w : World} {H : Hp} {h h' : Heap} {x e : Addr} {o' : HO}
/-- the object at e is changed: x itself, or the dict of the instance x -/
theorem HOk.write (ok : HOk P w H h) (mu : Mut (H x)) (he : e = x ∨ H e = some (.own x)) (k : ∀ b u, b ≠ e → h.get? b = some u → h'.get? b = some u) (heo : ∃ u, h'.get? e = some u)
    (new : ObjOk P w (upd H x o') h' x o') : HOk P w (upd H x o') h' := fun b u q => by
  have nown : ∀ c y, H c = some (.own y) → c ≠ x := fun c y r z => by subst z; rw [r] at mu; exact mu
  have ntup : ∀ c xs, H c = some (.tup xs) → c ≠ x := fun c xs r z => by subst z; rw [r] at mu; exact mu
  by_cases hb : b = x
  · subst hb; rw [upd_same] at q; cases q; exact new
  · rw [upd_ne hb] at q
    by_cases hbe : b = e
    · have q' : H b = some (.own x) := by
        rcases he with z | z
        · exact absurd (hbe.trans z) hb
        · rw [hbe]; exact z
      rw [q] at q'; cases q'
      obtain ⟨v, hv⟩ := heo
      exact ⟨v, by rw [hbe]; exact hv⟩
    · refine (ok b u q).stay (fun c v hc r => k c v ?_ r) (fun c r => by rw [upd_ne (nown c b r)]; exact r) fun c xs r => by rw [upd_ne (ntup c xs r)]; exact r
      rcases hc with rfl | hc
      · exact hbe
      · rintro rfl
        rcases he with z | z
        · exact nown c b hc z
        · rw [hc] at z; cases z; exact hb rfl
end

/-! ### kept unless tracked; of the frames at fs (the callers') the slots may change (an exception that passes writes there); of the records at ex (iterators) nothing is said -/
structure Un (fs ex : List Addr) (H H' : Hp) (h h' : Heap) : Prop where
  keep : ∀ b o, h.get? b = some o → H b = none → b ∉ fs → b ∉ ex → h'.get? b = some o
  slot : ∀ b o, h.get? b = some o → H b = none → b ∈ fs → b ∉ ex → ∃ sl, h'.get? b = some { o with slots := sl }
  free : ∀ b o, h.get? b = some o → H b = none → b ∉ ex → H' b = none
  there : ∀ b o, h.get? b = some o → b ∉ ex → ∃ o', h'.get? b = some o'
  tups : ∀ b xs, H b = some (.tup xs) → H' b = some (.tup xs)
  frzs : ∀ b o u, H b = some (.frz o u) → H' b = some (.frz o u)
  tbls : ∀ b ps, H b = some (.tbl ps) → ∃ more, H' b = some (.tbl (ps ++ more))
section
variable {fs fs' ex ex' : List Addr} {H H1 H2 : Hp} {h h1 h2 h' : Heap} {a x e : Addr} {o : HO}
theorem Un.any (u : Un fs ex H H1 h h1) {b : Addr} {ob : Obj} (q : h.get? b = some ob) (n : H b = none) (hx : b ∉ ex) : ∃ sl, h1.get? b = some { ob with slots := sl } := by
  by_cases hb : b ∈ fs
  · exact u.slot b ob q n hb hx
  · exact ⟨ob.slots, u.keep b ob q n hb hx⟩
theorem Un.trans (a : Un fs ex H H1 h h1) (b : Un fs ex H1 H2 h1 h2) : Un fs ex H H2 h h2 where
  keep := fun c ob q n hc hx => b.keep c ob (a.keep c ob q n hc hx) (a.free c ob q n hx) hc hx
  slot := fun c ob q n hc hx => by
    obtain ⟨sl, e1⟩ := a.slot c ob q n hc hx
    obtain ⟨sl', e2⟩ := b.slot c _ e1 (a.free c ob q n hx) hc hx
    exact ⟨sl', e2⟩
  free := fun c ob q n hx => by
    obtain ⟨o', e1⟩ := a.there c ob q hx
    exact b.free c o' e1 (a.free c ob q n hx) hx
  there := fun c ob q hx => by
    obtain ⟨o', e1⟩ := a.there c ob q hx
    exact b.there c o' e1 hx
  tups := fun c xs q => b.tups c xs (a.tups c xs q)
  frzs := fun c ob xs q => b.frzs c ob xs (a.frzs c ob xs q)
  tbls := fun c ps q => by
    obtain ⟨m1, e1⟩ := a.tbls c ps q
    obtain ⟨m2, e2⟩ := b.tbls c _ e1
    exact ⟨m1 ++ m2, by rw [e2, Array.append_assoc]⟩
theorem Un.kept (k : ∀ b u, h.get? b = some u → h'.get? b = some u) : Un fs ex H H h h' :=
  ⟨fun b ob q _ _ _ => k b ob q, fun b ob q _ _ _ => ⟨ob.slots, k b ob q⟩, fun _ _ _ n _ => n, fun b ob q _ => ⟨ob, k b ob q⟩, fun _ _ q => q, fun _ _ _ q => q, fun _ ps q => ⟨#[], by rw [q]; simp⟩⟩
theorem Un.refl : Un fs ex H H h h := Un.kept fun _ _ q => q
theorem Un.laid (k : ∀ b u, h.get? b = some u → h'.get? b = some u) (hp : h.objs.size ≤ a) (hn : H a = none) : Un fs ex H (upd H a o) h h' where
  keep := fun b u q _ _ _ => k b u q
  slot := fun b u q _ _ _ => ⟨u.slots, k b u q⟩
  free := fun b u q n _ => by rw [upd_ne (Nat.ne_of_lt (Nat.lt_of_lt_of_le (Heap.lt_size q) hp))]; exact n
  there := fun b u q _ => ⟨u, k b u q⟩
  tups := fun b xs q => by rw [upd_ne (ne_of_none q hn)]; exact q
  frzs := fun b u xs q => by rw [upd_ne (ne_of_none q hn)]; exact q
  tbls := fun b ps q => ⟨#[], by rw [upd_ne (ne_of_none q hn), q]; simp⟩
theorem Un.write (mu : Mut (H x)) (he : e = x ∨ H e = some (.own x)) (k : ∀ b u, b ≠ e → h.get? b = some u → h'.get? b = some u) (heo : ∃ u, h'.get? e = some u) : Un fs ex H (upd H x o) h h' := by
  have hx : ∀ b, H b = none → b ≠ x := fun b n z => by subst z; rw [n] at mu; exact mu
  have hb : ∀ b, H b = none → b ≠ e := fun b n z => by
    subst z
    rcases he with r | r
    · exact hx b n r
    · rw [n] at r; cases r
  have hm : ∀ b u, H b = some u → ¬ Mut (some u) → b ≠ x := fun b u q nm z => by subst z; rw [q] at mu; exact nm mu
  refine ⟨fun b u q n _ _ => k b u (hb b n) q, fun b u q n _ _ => ⟨u.slots, k b u (hb b n) q⟩, fun b u q n _ => by rw [upd_ne (hx b n)]; exact n, fun b u q _ => ?_,
    fun b xs q => by rw [upd_ne (hm b _ q fun z => z)]; exact q, fun b u xs q => by rw [upd_ne (hm b _ q fun z => z)]; exact q, fun b ps q => ⟨#[], by rw [upd_ne (hm b _ q fun z => z), q]; simp⟩⟩
  by_cases hbe : b = e
  · subst hbe; exact heo
  · exact ⟨u, k b u hbe q⟩
theorem Un.mono (u : Un fs ex H H1 h h1) (hs : ∀ b ∈ fs, b ∈ fs') (hx : ∀ b ∈ ex, b ∈ ex') : Un fs' ex' H H1 h h1 :=
  ⟨fun b ob q n hb he => u.keep b ob q n (fun z => hb (hs b z)) fun z => he (hx b z), fun _ _ q n _ he => u.any q n fun z => he (hx _ z), fun b ob q n he => u.free b ob q n fun z => he (hx b z), fun b ob q he => u.there b ob q fun z => he (hx b z), u.tups, u.frzs, u.tbls⟩
end

/-! ### the heap without what is tracked -/
def trk (h : Heap) (H : Hp) : List Addr := (List.range h.objs.size).filter fun a => (H a).isSome
def hidT (h : Heap) (H : Hp) : Heap := PySem.W.hideAll h (trk h H)
theorem hidT_size (h : Heap) (H : Hp) : (hidT h H).objs.size = h.objs.size := PySem.W.hideAll_size _ _
theorem hidT_get {h : Heap} {H : Hp} {b : Addr} {o : Obj} (e : h.get? b = some o) (n : H b = none) : (hidT h H).get? b = some o :=
  PySem.W.hideAll_get _ e fun hm => by
    have q : (H b).isSome = true := (List.mem_filter.mp hm).2
    rw [n] at q; simp at q
theorem of_hidT {h : Heap} {H : Hp} {b : Addr} {o : Obj} (e : (hidT h H).get? b = some o) : h.get? b = some o ∧ H b = none := by
  have e' : h.get? b = some o := PySem.W.of_hideAll (trk h H) e
  refine ⟨e', ?_⟩
  cases q : H b with
  | none => rfl
  | some x =>
    have hm : b ∈ trk h H := List.mem_filter.mpr ⟨List.mem_range.mpr (Heap.lt_size e'), by simp [q]⟩
    have z : (hidT h H).get? b = none := PySem.W.hideAll_none (trk h H) hm
    rw [z] at e; cases e

/-! ### OpenK's ledger, filled with every new object but one -/
def allNews (g h : Heap) (L : Addr) : List (Addr × Obj) := (List.range h.objs.size).filterMap fun a => if a = L ∨ (g.get? a).isSome = true then none else (h.get? a).map fun o => (a, o)
def rest (g h : Heap) (L d : Addr) : List (Addr × Obj) := (allNews g h L).filter fun p => decide (p.1 ≠ d)
end L2

namespace L2
open PySem PySem.Spec PyProof.Rows

/-- the module's facts, over the base: the heap at the law's entry without what is tracked there -/
structure Mod (K : PySem.W.Frag) (mg : Str → Option Value) (base : Heap) : Prop where
  kin : K.In base
  glob : base.Ns mainGlobals mg
  blt : ∃ mb, base.Ns builtinsNs mb ∧ ∀ x : Str, x ≠ "__name__" → mb x = bootBuiltins x
  nolimit : base.NoLimit

/-- the context: a def's body (or a comprehension's block) running. base: fixed through the whole law; s₀, H₀: the entry; outer: the frames whose slots others may change (a def's callers); stack: all frames that run;
   ex: iterators that were made ahead of the entry and are walked here (a comprehension's); fn: the names whose cells were made at the entry (a def: all; a comprehension's block: its own); calm: not within an except suite; pn: pins that every state bears; xe: what is wanted of an exception that leaves the code -/
structure Cx where
  prog : Program
  w : World
  K : PySem.W.Frag
  mg : Str → Option Value
  base : Heap
  A : Around
  N : List Str
  s₀ : Shared
  H₀ : Hp
  env : Env
  outer : List Env
  stack : List Env
  ex : List Addr
  fn : Str → Bool
  calm : Bool
  pn : List (Addr × Obj)
  xe : Value → Shared → Prop
/-- the callers' frames -/
def frs (l : List Env) : List Addr := l.filterMap (·.frame)
abbrev Cx.fs (X : Cx) : List Addr := frs X.outer

def Vis (sc : Scope) (x : Str) : Prop := sc.names.lookup x = some .local ∨ sc.names.lookup x = some .cell ∨ sc.names.lookup x = some .free
def Loc (sc : Scope) (x : Str) : Prop := sc.names.lookup x = some .local ∨ sc.names.lookup x = some .cell
def Look (env : Env) (h : Heap) (m : Str → Option Value) (x : Str) (u : Value) : Prop :=
  (env.kindOf x = some .local ∧ m x = some u) ∨ ((env.kindOf x = some .cell ∨ env.kindOf x = some .free) ∧ ∃ c, env.cells.lookup x = some c ∧ h.IsCell c (some u))

structure Cx.Ok (X : Cx) : Prop where
  mod : Mod X.K X.mg X.base
  kind : X.env.scope.kind = .function
  glob : X.env.globals = mainGlobals
  blt : X.env.builtins = builtinsNs
  above : X.s₀.heap.objs.size ≤ X.env.locals
  inj : ∀ x y c, X.env.cells.lookup x = some c → X.env.cells.lookup y = some c → x = y
  has : ∀ x, (X.env.kindOf x = some .cell ∨ X.env.kindOf x = some .free) → ∃ c, X.env.cells.lookup x = some c
  cab : ∀ x c, X.fn x = true → X.env.cells.lookup x = some c → X.s₀.heap.objs.size ≤ c
  hd : X.calm = true → X.A.handled = none
  frames : X.A.frames = some X.stack
  stk : X.stack = X.outer ∨ (X.stack = X.env :: X.outer ∧ X.env.frame = some X.env.locals)
  exf : ∀ b ∈ X.ex, b ≠ X.env.locals ∧ ∀ x c, X.env.cells.lookup x = some c → c ≠ b
  bs : ∀ b o, X.base.get? b = some o → X.s₀.heap.get? b = some o ∧ X.H₀ b = none
  bsz : X.base.objs.size ≤ X.s₀.heap.objs.size
  noex : ∀ b o, X.base.get? b = some o → b ∉ X.ex
  exfs : ∀ b ∈ X.ex, b ∉ X.fs
  funs : X.s₀.heap.FunFrames X.base X.outer
  frf : ∀ b ∈ X.fs, X.H₀ b = none

structure Inv (X : Cx) (pins : List (Addr × Obj)) (σ : List (Option V)) (H : Hp) (s : Shared) : Prop where
  ok : X.Ok
  os : s.os = X.s₀.os
  bare : AllBare s.gens
  base : Un X.fs X.ex X.H₀ H X.s₀.heap s.heap
  loc : ∃ m, s.heap.Ns X.env.locals m ∧ ∀ (i : Nat) (x : Str) (v : V), X.N[i]? = some x → σ[i]? = some (some v) → Vis X.env.scope x → ∃ u, RelV v u ∧ Look X.env s.heap m x u
  cell : ∀ x c, X.env.cells.lookup x = some c → ∃ v, s.heap.IsCell c v
  free : H X.env.locals = none
  freeC : ∀ x c, X.env.cells.lookup x = some c → H c = none
  pin : ∀ p ∈ X.pn ++ pins, s.heap.get? p.1 = some p.2 ∧ H p.1 = none ∧ p.1 ≠ X.env.locals ∧ p.1 ∉ X.fs ∧ ∀ v, p.2.data ≠ .cell v
  hok : HOk X.prog X.w H s.heap
  len : σ.length = X.N.length

section
variable {X : Cx} {pins : List (Addr × Obj)} {σ : List (Option V)} {H H' : Hp} {s : Shared} {h' : Heap}

theorem Cx.Ok.nofr (ok : X.Ok) {b : Addr} {o : Obj} (e : X.base.get? b = some o) : b ∉ X.fs := fun hb => by
  have := (ok.funs.mem hb).1
  rw [e] at this; cases this
theorem Inv.bs (I : Inv X pins σ H s) : ∀ b o, X.base.get? b = some o → s.heap.get? b = some o ∧ H b = none := fun b o e =>
  ⟨I.base.keep b o (I.ok.bs b o e).1 (I.ok.bs b o e).2 (I.ok.nofr e) (I.ok.noex b o e), I.base.free b o (I.ok.bs b o e).1 (I.ok.bs b o e).2 (I.ok.noex b o e)⟩
theorem Inv.bk (I : Inv X pins σ H s) : ∀ b o, X.base.get? b = some o → s.heap.get? b = some o := fun b o e => (I.bs b o e).1
theorem Inv.mod (I : Inv X pins σ H s) : Mod X.K X.mg X.base := I.ok.mod
theorem Inv.kIn (I : Inv X pins σ H s) : X.K.In s.heap := I.ok.mod.kin.keeps I.bk
theorem Inv.nolimit (I : Inv X pins σ H s) : s.heap.NoLimit := I.ok.mod.nolimit.keeps I.bk
theorem Inv.lt (I : Inv X pins σ H s) : X.env.locals < s.heap.objs.size := let ⟨_, hn, _⟩ := I.loc; hn.lt
theorem Inv.sz (I : Inv X pins σ H s) : X.s₀.heap.objs.size ≤ s.heap.objs.size := Nat.le_trans I.ok.above (Nat.le_of_lt I.lt)
theorem Inv.nofs (I : Inv X pins σ H s) {a : Addr} (h : s.heap.objs.size ≤ a) : a ∉ X.fs := fun hb => by
  obtain ⟨_, o, ho, _⟩ := I.ok.funs.mem hb
  exact absurd (Nat.lt_of_lt_of_le (Heap.lt_size ho) (Nat.le_trans I.sz h)) (Nat.lt_irrefl _)
theorem Inv.cne (I : Inv X pins σ H s) : ∀ x c, X.env.cells.lookup x = some c → c ≠ X.env.locals := fun x c e z => by
  obtain ⟨v, o, ho, hd⟩ := I.cell x c e
  obtain ⟨m, ⟨o', es, ep, ho', hd', _⟩, _⟩ := I.loc
  rw [z, ho'] at ho; cases ho; rw [hd'] at hd; cases hd
theorem Inv.funs (I : Inv X pins σ H s) : s.heap.FunFrames X.base X.outer := by
  have all : ∀ (l : List Env), (∀ b ∈ frs l, b ∈ X.fs) → X.s₀.heap.FunFrames X.base l → s.heap.FunFrames X.base l := by
    intro l
    induction l with
    | nil => intro _ _; trivial
    | cons env r ih =>
      intro hs hl
      obtain ⟨hk, ⟨L, o, hf, hn, ho, hd⟩, hr⟩ := hl
      have hL : L ∈ X.fs := hs L (by unfold frs; rw [List.filterMap_cons, hf]; exact List.mem_cons_self)
      obtain ⟨sl, e⟩ := I.base.slot L o ho (I.ok.frf L hL) hL fun z => I.ok.exfs L z hL
      exact ⟨hk, ⟨L, _, hf, hn, e, hd⟩, ih (fun b hb => hs b (by unfold frs; rw [List.filterMap_cons, hf]; exact List.mem_cons_of_mem _ hb)) hr⟩
  exact all X.outer (fun _ hb => hb) I.ok.funs

/-- the frames that run, for a call -/
theorem Inv.stack (I : Inv X pins σ H s) : s.heap.FunFrames X.base X.stack := by
  rcases I.ok.stk with e | ⟨e, hf⟩
  · rw [e]; exact I.funs
  · rw [e]
    obtain ⟨m, hn, _⟩ := I.loc
    refine .cons (by rw [I.ok.kind]; decide) hf hn ?_ I.funs
    exact Heap.get?_none_of_le (Nat.le_trans I.ok.bsz I.ok.above)
theorem Inv.stkSub (I : Inv X pins σ H s) : ∀ b ∈ frs X.stack, b ∈ X.env.locals :: X.fs := fun b hb => by
  rcases I.ok.stk with e | ⟨e, hf⟩
  · rw [e] at hb; exact List.mem_cons_of_mem _ hb
  · rw [e] at hb
    unfold frs at hb
    rw [List.filterMap_cons, hf] at hb
    exact hb
theorem Inv.stkFree (I : Inv X pins σ H s) : ∀ b ∈ frs X.stack, H b = none := fun b hb => by
  rcases List.mem_cons.mp (I.stkSub b hb) with e | hb
  · rw [e]; exact I.free
  · obtain ⟨_, o, ho, _⟩ := I.ok.funs.mem hb
    exact I.base.free b o ho (I.ok.frf b hb) fun z => I.ok.exfs b z hb

/-- THE STEP: the untracked objects but the frame and the records at ch are kept (the callers' frames up to slots), the frame's map is kept, the new abstract heap is held -/
theorem Inv.step {g' : Array GenState} {t' : Nat} {d' : Drawn} {ch : List Addr} (I : Inv X pins σ H s)
    (hch : ∀ b ∈ ch, (b ∈ X.ex ∨ X.s₀.heap.objs.size ≤ b) ∧ b ≠ X.env.locals ∧ (∀ x c, X.env.cells.lookup x = some c → c ≠ b) ∧ ∀ p ∈ X.pn ++ pins, p.1 ≠ b)
    (keep : ∀ b o, b ≠ X.env.locals → b ∉ X.fs → b ∉ ch → s.heap.get? b = some o → H b = none → h'.get? b = some o)
    (slot : ∀ b o, b ≠ X.env.locals → b ∈ X.fs → b ∉ ch → s.heap.get? b = some o → H b = none → ∃ sl, h'.get? b = some { o with slots := sl }) (free : ∀ b o, b ∉ ch → s.heap.get? b = some o → H b = none → H' b = none)
    (there : ∀ b o, b ∉ ch → s.heap.get? b = some o → ∃ o', h'.get? b = some o')
    (tups : ∀ b xs, H b = some (.tup xs) → H' b = some (.tup xs)) (frzs : ∀ b o u, H b = some (.frz o u) → H' b = some (.frz o u)) (tbls : ∀ b ps, H b = some (.tbl ps) → ∃ more, H' b = some (.tbl (ps ++ more)))
    (ns : ∀ m, s.heap.Ns X.env.locals m → h'.Ns X.env.locals m) (hok : HOk X.prog X.w H' h') (hg : AllBare g') :
    Inv X pins σ H' { s with heap := h', gens := g', drawn := d', toks := t' } := by
  have neL : ∀ b o, X.s₀.heap.get? b = some o → b ≠ X.env.locals := fun b o e => Nat.ne_of_lt (Nat.lt_of_lt_of_le (Heap.lt_size e) I.ok.above)
  have neC : ∀ b o, X.s₀.heap.get? b = some o → b ∉ X.ex → b ∉ ch := fun b o e hx hb => by
    rcases (hch b hb).1 with z | z
    · exact hx z
    · exact absurd (Nat.lt_of_lt_of_le (Heap.lt_size e) z) (Nat.lt_irrefl _)
  have cellK : ∀ x c, X.env.cells.lookup x = some c → ∀ v, s.heap.IsCell c v → h'.IsCell c v := fun x c e v ⟨o, ho, hd⟩ => by
    have nch : c ∉ ch := fun z => (hch c z).2.2.1 x c e rfl
    by_cases hc : c ∈ X.fs
    · obtain ⟨sl, q⟩ := slot c o (I.cne x c e) hc nch ho (I.freeC x c e)
      exact ⟨_, q, hd⟩
    · exact ⟨o, keep c o (I.cne x c e) hc nch ho (I.freeC x c e), hd⟩
  refine ⟨I.ok, I.os, hg, ⟨fun b o e n hb hx => ?_, fun b o e n hb hx => ?_, fun b o e n hx => ?_, fun b o e hx => ?_, fun b xs e => tups b xs (I.base.tups b xs e), fun b o xs e => frzs b o xs (I.base.frzs b o xs e), fun b ps e => ?_⟩, ?_, fun x c e => ?_, ?_, fun x c e => ?_, fun p hp => ?_, hok, I.len⟩
  · exact keep b o (neL b o e) hb (neC b o e hx) (I.base.keep b o e n hb hx) (I.base.free b o e n hx)
  · obtain ⟨sl, e1⟩ := I.base.slot b o e n hb hx
    obtain ⟨sl', e2⟩ := slot b _ (neL b o e) hb (neC b o e hx) e1 (I.base.free b o e n hx)
    exact ⟨sl', e2⟩
  · obtain ⟨o', e1⟩ := I.base.there b o e hx
    exact free b o' (neC b o e hx) e1 (I.base.free b o e n hx)
  · obtain ⟨o', e1⟩ := I.base.there b o e hx
    exact there b o' (neC b o e hx) e1
  · obtain ⟨m1, e1⟩ := I.base.tbls b ps e
    obtain ⟨m2, e2⟩ := tbls b _ e1
    exact ⟨m1 ++ m2, by rw [e2, Array.append_assoc]⟩
  · obtain ⟨m, hn, hl⟩ := I.loc
    refine ⟨m, ns m hn, fun i x v e1 e2 e3 => ?_⟩
    obtain ⟨u, r, l⟩ := hl i x v e1 e2 e3
    refine ⟨u, r, ?_⟩
    rcases l with l | ⟨k, c, e, z⟩
    · exact .inl l
    · exact .inr ⟨k, c, e, cellK x c e _ z⟩
  · obtain ⟨v, z⟩ := I.cell x c e
    exact ⟨v, cellK x c e v z⟩
  · obtain ⟨m, ⟨o, _, _, ho, _⟩, _⟩ := I.loc
    exact free _ o (fun z => (hch _ z).2.1 rfl) ho I.free
  · obtain ⟨v, o, ho, hd⟩ := I.cell x c e
    exact free c o (fun z => (hch c z).2.2.1 x c e rfl) ho (I.freeC x c e)
  · obtain ⟨e, n, ne, nf, d⟩ := I.pin p hp
    have nch : p.1 ∉ ch := fun z => (hch p.1 z).2.2.2 p hp rfl
    exact ⟨keep p.1 p.2 ne nf nch e n, free p.1 p.2 nch e n, ne, nf, d⟩
/-- .. where the frame's own object is kept too -/
theorem Inv.un {t' : Nat} (I : Inv X pins σ H s) (u : Un X.fs [] H H' s.heap h') (hok : HOk X.prog X.w H' h') : Inv X pins σ H' { s with heap := h', toks := t' } := by
  obtain ⟨m, ⟨o, es, ep, ho, r⟩, _⟩ := id I.loc
  obtain ⟨sl, hL⟩ := u.any ho I.free (by simp)
  exact I.step (g' := s.gens) (d' := s.drawn) (ch := []) (fun _ z => nomatch z) (fun b o _ hb _ e n => u.keep b o e n hb (by simp)) (fun b o _ hb _ e n => u.slot b o e n hb (by simp)) (fun b o _ e n => u.free b o e n (by simp)) (fun b o _ e => u.there b o e (by simp)) u.tups u.frzs u.tbls (fun m' hm => by
    obtain ⟨o', es', ep', ho', r'⟩ := hm
    rw [ho] at ho'; cases ho'
    exact ⟨_, es', ep', hL, r'⟩) hok I.bare
/-- behind a call (or a comprehension's block): the slots of this frame may have changed too, the records at ch may have turned -/
theorem Inv.call {g' : Array GenState} {t' : Nat} {d' : Drawn} {ch : List Addr} (I : Inv X pins σ H s) (u : Un (frs X.stack) ch H H' s.heap h') (hok : HOk X.prog X.w H' h') (hg : AllBare g')
    (hch : ∀ b ∈ ch, (b ∈ X.ex ∨ X.s₀.heap.objs.size ≤ b) ∧ b ≠ X.env.locals ∧ (∀ x c, X.env.cells.lookup x = some c → c ≠ b) ∧ ∀ p ∈ X.pn ++ pins, p.1 ≠ b) :
    Inv X pins σ H' { s with heap := h', gens := g', drawn := d', toks := t' } := by
  obtain ⟨m, ⟨o, es, ep, ho, r⟩, _⟩ := id I.loc
  obtain ⟨sl, hL⟩ := u.any ho I.free fun z => (hch _ z).2.1 rfl
  exact I.step (ch := ch) hch (fun b o hL hb hc e n => u.keep b o e n (fun z => (List.mem_cons.mp (I.stkSub b z)).elim hL hb) hc) (fun b o _ _ hc e n => u.any e n hc) (fun b o hc e n => u.free b o e n hc) (fun b o hc e => u.there b o e hc) u.tups u.frzs u.tbls (fun m' hm => by
    obtain ⟨o', es', ep', ho', r'⟩ := hm
    rw [ho] at ho'; cases ho'
    exact ⟨_, es', ep', hL, r'⟩) hok hg
/-- an untracked record of ours (an iterator) has turned -/
theorem Inv.turned {t' : Nat} {it : Addr} (I : Inv X pins σ H s) (k : ∀ b o, b ≠ it → s.heap.get? b = some o → h'.get? b = some o) (hn : H it = none) (hL : it ≠ X.env.locals)
    (h1 : it ∈ X.ex ∨ X.s₀.heap.objs.size ≤ it) (h2 : ∀ x c, X.env.cells.lookup x = some c → c ≠ it) (h3 : ∀ p ∈ X.pn ++ pins, p.1 ≠ it) : Inv X pins σ H { s with heap := h', toks := t' } := by
  have nit : ∀ b u, H b = some u → b ≠ it := fun b u e z => by rw [z, hn] at e; cases e
  refine I.step (g' := s.gens) (d' := s.drawn) (ch := [it]) (fun b hb => ?_) (fun b o _ _ hc e _ => k b o (fun z => hc (by simp [z])) e) (fun b o _ _ hc e _ => ⟨o.slots, k b o (fun z => hc (by simp [z])) e⟩) (fun _ _ _ _ n => n)
    (fun b o hc e => ⟨o, k b o (fun z => hc (by simp [z])) e⟩) (fun _ _ e => e) (fun _ _ _ e => e) (fun b ps e => ⟨#[], by rw [e]; simp⟩) (fun m hm => ?_) (fun b u e => ?_) I.bare
  · have e : b = it := by simpa using hb
    subst e
    exact ⟨h1, hL, h2, h3⟩
  · obtain ⟨o, es, ep, ho, r⟩ := hm
    exact ⟨o, es, ep, k _ o (Ne.symm hL) ho, r⟩
  · refine (I.hok b u e).stay (fun c v hc q => k c v ?_ q) (fun _ q => q) fun _ _ q => q
    rcases hc with z | z
    · rw [z]; exact nit b u e
    · exact nit c _ z
theorem Inv.tok (I : Inv X pins σ H s) (t : Nat) : Inv X pins σ H { s with toks := t } := I.un (h' := s.heap) (t' := t) Un.refl I.hok
/-- all objects kept -/
theorem Inv.kept {t' : Nat} (I : Inv X pins σ H s) (k : ∀ b u, s.heap.get? b = some u → h'.get? b = some u) : Inv X pins σ H { s with heap := h', toks := t' } := I.un (Un.kept k) (I.hok.kept k)
/-- a new object laid and tracked -/
theorem Inv.laid {a : Addr} {o : HO} {t' : Nat} (I : Inv X pins σ H s) (k : ∀ b u, s.heap.get? b = some u → h'.get? b = some u) (hp : s.heap.objs.size ≤ a) (new : ObjOk X.prog X.w (upd H a o) h' a o) :
    Inv X pins σ (upd H a o) { s with heap := h', toks := t' } := I.un (Un.laid k hp (I.hok.fresh hp)) (I.hok.laid k hp new)
/-- an object written -/
theorem Inv.write {x e : Addr} {o : HO} {t' : Nat} (I : Inv X pins σ H s) (mu : Mut (H x)) (he : e = x ∨ H e = some (.own x)) (k : ∀ b u, b ≠ e → s.heap.get? b = some u → h'.get? b = some u) (heo : ∃ u, h'.get? e = some u)
    (new : ObjOk X.prog X.w (upd H x o) h' x o) : Inv X pins σ (upd H x o) { s with heap := h', toks := t' } := I.un (Un.write mu he k heo) (I.hok.write mu he k heo new)
/-- forgetting slots, pins -/
theorem Inv.weak {σ' : List (Option V)} (I : Inv X pins σ H s) (hl : σ'.length = σ.length) (w : ∀ (i : Nat) v, σ'[i]? = some (some v) → σ[i]? = some (some v)) : Inv X pins σ' H s :=
  ⟨I.ok, I.os, I.bare, I.base, let ⟨m, hn, hl'⟩ := I.loc; ⟨m, hn, fun i x v e1 e2 e3 => hl' i x v e1 (w i v e2) e3⟩, I.cell, I.free, I.freeC, I.pin, I.hok, hl.trans I.len⟩
theorem Inv.pins_of {pins' : List (Addr × Obj)} (I : Inv X pins σ H s) (h : ∀ p ∈ pins', s.heap.get? p.1 = some p.2 ∧ H p.1 = none ∧ p.1 ≠ X.env.locals ∧ p.1 ∉ X.fs ∧ ∀ v, p.2.data ≠ .cell v) : Inv X pins' σ H s :=
  ⟨I.ok, I.os, I.bare, I.base, I.loc, I.cell, I.free, I.freeC, fun p hp => (List.mem_append.mp hp).elim (fun z => I.pin p (List.mem_append_left _ z)) (h p), I.hok, I.len⟩

theorem nodup_ix {N : List Str} (hN : N.Nodup) {i j : Nat} {x : Str} (a : N[i]? = some x) (b : N[j]? = some x) : i = j := by
  obtain ⟨h1, e1⟩ := List.getElem?_eq_some_iff.mp a
  obtain ⟨h2, e2⟩ := List.getElem?_eq_some_iff.mp b
  exact (List.getElem_inj hN).mp (e1.trans e2.symm)

/-- a name is stored; what changed -/
theorem store_ok2 {M : Model} {A : Around} {E : Value → Shared → Prop} {i : Nat} {x : Str} {v : V} {u : Value} {Q : Unit → Shared → Prop} (I : Inv X pins σ H s) (hN : X.N.Nodup) (hi : X.N[i]? = some x) (hx : Loc X.env.scope x) (r : RelV v u)
    (h : ∀ s', Inv X pins (σ.set i (some v)) H s' → (∃ a, Heap.SameBut a s.heap s'.heap ∧ (a = X.env.locals ∨ X.env.cells.lookup x = some a)) → Q () s') (hf : X.fn x = true ∨ X.env.scope.names.lookup x = some .local := by first | exact .inl rfl | exact .inr rfl | assumption) : wpAny M A (storeName X.env x u) Q E s := by
  obtain ⟨m, hn, hl⟩ := id I.loc
  have hcls : (X.env.scope.kind == .class || (X.env.scope.kind == .module && X.env.locals != X.env.globals)) = false := by rw [I.ok.kind]; rfl
  have hiσ : i < σ.length := by rw [I.len]; exact (List.getElem?_eq_some_iff.mp hi).1
  have cne := I.cne
  have tracked : ∀ {a : Addr} {h' : Heap}, (∃ o, s.heap.get? a = some o ∧ H a = none) → Heap.SameBut a s.heap h' → HOk X.prog X.w H h' := fun {a h'} ha hs b ob e => by
    obtain ⟨_, _, hfree⟩ := ha
    refine (I.hok b ob e).stay (fun c w' hc q => (hs.2 c ?_).trans q) (fun _ q => q) fun _ _ q => q
    rintro rfl
    rcases hc with rfl | hc
    · rw [hfree] at e; cases e
    · rw [hfree] at hc; cases hc
  rcases hx with hk | hk
  · refine wpAny_storeName_local hk hn (fun h' hn' hs => ?_) hcls
    obtain ⟨oL, _, _, hoL, _⟩ := id hn
    refine h _ ⟨I.ok, I.os, I.bare, ⟨fun b o e n hb hx => ?_, fun b o e n hb hx => ?_, I.base.free, fun b o e hx => ?_, I.base.tups, I.base.frzs, I.base.tbls⟩, ⟨_, hn', fun j y v' e1 e2 e3 => ?_⟩, fun y c e => ?_, I.free, I.freeC, fun p hp => ?_, tracked ⟨oL, hoL, I.free⟩ hs, by simpa using I.len⟩ ⟨_, hs, .inl rfl⟩
    · exact (hs.2 b (Nat.ne_of_lt (Nat.lt_of_lt_of_le (Heap.lt_size e) I.ok.above))).trans (I.base.keep b o e n hb hx)
    · obtain ⟨sl, e1⟩ := I.base.slot b o e n hb hx
      exact ⟨sl, (hs.2 b (Nat.ne_of_lt (Nat.lt_of_lt_of_le (Heap.lt_size e) I.ok.above))).trans e1⟩
    · obtain ⟨o', e1⟩ := I.base.there b o e hx
      exact ⟨o', (hs.2 b (Nat.ne_of_lt (Nat.lt_of_lt_of_le (Heap.lt_size e) I.ok.above))).trans e1⟩
    · by_cases hj : j = i
      · subst hj
        rw [hi] at e1; cases e1
        rw [List.getElem?_set_self hiσ] at e2
        cases e2
        exact ⟨u, r, .inl ⟨hk, by simp⟩⟩
      · rw [List.getElem?_set_ne (Ne.symm hj)] at e2
        obtain ⟨u', r', q⟩ := hl j y v' e1 e2 e3
        refine ⟨u', r', ?_⟩
        rcases q with ⟨k, e⟩ | ⟨k, c, e, z⟩
        · refine .inl ⟨k, ?_⟩
          have : y ≠ x := fun e => hj (nodup_ix hN e1 (e ▸ hi))
          simp [this, e]
        · exact .inr ⟨k, c, e, z.sameBut hs (cne y c e)⟩
    · obtain ⟨w', z⟩ := I.cell y c e
      exact ⟨w', z.sameBut hs (cne y c e)⟩
    · obtain ⟨e, n, ne, nf, d⟩ := I.pin p hp
      exact ⟨(hs.2 p.1 ne).trans e, n, ne, nf, d⟩
  · have hfn : X.fn x = true := by
      rcases hf with z | z
      · exact z
      · rw [z] at hk; cases hk
    obtain ⟨c, hc⟩ := I.ok.has x (.inl hk)
    obtain ⟨w', z⟩ := I.cell x c hc
    refine wpAny_storeName_cell I.ok.kind hk hc z (fun h' hc' hs => ?_)
    obtain ⟨oc, hoc, hocd⟩ := id z
    refine h { s with heap := h' } ⟨I.ok, I.os, I.bare, ⟨fun b o e n hb hx => ?_, fun b o e n hb hx => ?_, I.base.free, fun b o e hx => ?_, I.base.tups, I.base.frzs, I.base.tbls⟩, ⟨m, hn.sameBut hs (Ne.symm (cne x c hc)), fun j y v' e1 e2 e3 => ?_⟩, fun y c' e => ?_, I.free, I.freeC, fun p hp => ?_, tracked ⟨oc, hoc, I.freeC x c hc⟩ hs, by simpa using I.len⟩ ⟨c, hs, .inr hc⟩
    · exact (hs.2 b (Nat.ne_of_lt (Nat.lt_of_lt_of_le (Heap.lt_size e) (I.ok.cab x c hfn hc)))).trans (I.base.keep b o e n hb hx)
    · obtain ⟨sl, e1⟩ := I.base.slot b o e n hb hx
      exact ⟨sl, (hs.2 b (Nat.ne_of_lt (Nat.lt_of_lt_of_le (Heap.lt_size e) (I.ok.cab x c hfn hc)))).trans e1⟩
    · obtain ⟨o', e1⟩ := I.base.there b o e hx
      exact ⟨o', (hs.2 b (Nat.ne_of_lt (Nat.lt_of_lt_of_le (Heap.lt_size e) (I.ok.cab x c hfn hc)))).trans e1⟩
    · by_cases hj : j = i
      · subst hj
        rw [hi] at e1; cases e1
        rw [List.getElem?_set_self hiσ] at e2
        cases e2
        exact ⟨u, r, .inr ⟨.inl hk, c, hc, hc'⟩⟩
      · rw [List.getElem?_set_ne (Ne.symm hj)] at e2
        obtain ⟨u', r', q⟩ := hl j y v' e1 e2 e3
        refine ⟨u', r', ?_⟩
        rcases q with q | ⟨k, c', e, z'⟩
        · exact .inl q
        · refine .inr ⟨k, c', e, z'.sameBut hs ?_⟩
          rintro rfl
          exact hj (nodup_ix hN e1 (I.ok.inj _ _ _ e hc ▸ hi))
    · by_cases hcc : c' = c
      · subst hcc; exact ⟨_, hc'⟩
      · obtain ⟨w2, z2⟩ := I.cell y c' e
        exact ⟨w2, z2.sameBut hs hcc⟩
    · obtain ⟨e, n, ne, nf, d⟩ := I.pin p hp
      refine ⟨(hs.2 p.1 ?_).trans e, n, ne, nf, d⟩
      intro q
      rw [q, hoc] at e
      have q' : oc = p.2 := Option.some.inj e
      exact d w' (by rw [← q']; exact hocd)
theorem store_ok {M : Model} {A : Around} {E : Value → Shared → Prop} {i : Nat} {x : Str} {v : V} {u : Value} {Q : Unit → Shared → Prop} (I : Inv X pins σ H s) (hN : X.N.Nodup) (hi : X.N[i]? = some x) (hx : Loc X.env.scope x) (r : RelV v u)
    (h : ∀ s', Inv X pins (σ.set i (some v)) H s' → Q () s') (hf : X.fn x = true ∨ X.env.scope.names.lookup x = some .local := by first | exact .inl rfl | exact .inr rfl | assumption) : wpAny M A (storeName X.env x u) Q E s :=
  store_ok2 I hN hi hx r (fun s' I' _ => h s' I') hf
/-- behind a call or a block, the state as it is -/
theorem Inv.call' {s' : Shared} {ch : List Addr} (I : Inv X pins σ H s) (ho : s'.os = s.os) (u : Un (frs X.stack) ch H H' s.heap s'.heap) (hok : HOk X.prog X.w H' s'.heap) (hg : AllBare s'.gens)
    (hch : ∀ b ∈ ch, (b ∈ X.ex ∨ X.s₀.heap.objs.size ≤ b) ∧ b ≠ X.env.locals ∧ (∀ x c, X.env.cells.lookup x = some c → c ≠ b) ∧ ∀ p ∈ X.pn ++ pins, p.1 ≠ b) : Inv X pins σ H' s' := by
  obtain ⟨h', g', d', t', o'⟩ := s'
  have e : o' = s.os := ho
  subst e
  exact I.call (g' := g') (t' := t') (d' := d') u hok hg hch
end

/-! ### the judgements -/
/-- an exception: its class, its own dict's address (where it has one), the abstract heap behind it -/
abbrev XK := Value → Option Addr → Hp → Prop
abbrev St := List (Option V)
abbrev VK := V → Hp → Prop
/-- an expression's reading; a test's; an argument list's -/
abbrev TE := St → Hp → VK → Prop
abbrev TT := St → Hp → (Bool → Hp → Prop) → Prop
abbrev TA := St → Hp → (List V → Hp → Prop) → Prop
/-- what is wanted behind a statement -/
structure Ends where
  nx : St → Hp → Prop
  rt : VK
  bk : St → Hp → Prop := fun _ _ => False
  ct : St → Hp → Prop := fun _ _ => False
abbrev TS := Ends → St → Hp → Prop

def EP (X : Cx) (pins : List (Addr × Obj)) (σ : St) (Q : VK) (u : Value) (s' : Shared) : Prop := ∃ v H', Inv X pins σ H' s' ∧ RelV v u ∧ Q v H'
def TP (X : Cx) (pins : List (Addr × Obj)) (σ : St) (Q : Bool → Hp → Prop) (b : Bool) (s' : Shared) : Prop := ∃ H', Inv X pins σ H' s' ∧ Q b H'
def AP (X : Cx) (pins : List (Addr × Obj)) (σ : St) (Q : List V → Hp → Prop) (us : List Value) (s' : Shared) : Prop := ∃ vs H', Inv X pins σ H' s' ∧ Vals vs us ∧ Q vs H'
def SP (X : Cx) (pins : List (Addr × Obj)) (D : Ends) (f : Flow) (s' : Shared) : Prop :=
  match f with
  | .next => ∃ σ' H', Inv X pins σ' H' s' ∧ D.nx σ' H'
  | .brk => ∃ σ' H', Inv X pins σ' H' s' ∧ D.bk σ' H'
  | .cont => ∃ σ' H', Inv X pins σ' H' s' ∧ D.ct σ' H'
  | .ret u => ∃ v σ' H', Inv X pins σ' H' s' ∧ RelV v u ∧ D.rt v H'

def PE (X : Cx) (e : Expr) (t : TE) : Prop :=
  ∀ (pins : List (Addr × Obj)) (s : Shared) (σ : St) (H : Hp) (Q : VK), Inv X pins σ H s → t σ H Q → wpAny (model X.prog X.w) X.A (eval e X.env) (EP X pins σ Q) X.xe s
def PT (X : Cx) (e : Expr) (t : TT) : Prop :=
  ∀ (pins : List (Addr × Obj)) (s : Shared) (σ : St) (H : Hp) (Q : Bool → Hp → Prop), Inv X pins σ H s → t σ H Q → wpAny (model X.prog X.w) X.A (isTrue e X.env (eval e X.env)) (TP X pins σ Q) X.xe s
/-- a test whatever its 'whole' is (and, or) -/
def PW (X : Cx) (e : Expr) (t : TT) : Prop :=
  ∀ (whole : Sem Value) (pins : List (Addr × Obj)) (s : Shared) (σ : St) (H : Hp) (Q : Bool → Hp → Prop), Inv X pins σ H s → t σ H Q → wpAny (model X.prog X.w) X.A (isTrue e X.env whole) (TP X pins σ Q) X.xe s
theorem PW.pt {X : Cx} {e : Expr} {t : TT} (h : PW X e t) : PT X e t := h _
/-- an argument list (no star), from the left -/
def PA (X : Cx) (es : List Expr) (t : TA) : Prop :=
  ∀ (pos : Pos) (pins : List (Addr × Obj)) (s : Shared) (σ : St) (H : Hp) (Q : List V → Hp → Prop), Inv X pins σ H s → t σ H Q → wpAny (model X.prog X.w) X.A (spliced (backTo pos (starEach es X.env))) (AP X pins σ Q) X.xe s
def PS (X : Cx) (st : Stmt) (t : TS) : Prop :=
  ∀ (pins : List (Addr × Obj)) (s : Shared) (σ : St) (H : Hp) (D : Ends), Inv X pins σ H s → t D σ H → wpAny (model X.prog X.w) X.A (exec st X.env) (SP X pins D) X.xe s
def PSs (X : Cx) (st : List Stmt) (t : TS) : Prop :=
  ∀ (pins : List (Addr × Obj)) (s : Shared) (σ : St) (H : Hp) (D : Ends), Inv X pins σ H s → t D σ H → wpAny (model X.prog X.w) X.A (execs st X.env) (SP X pins D) X.xe s
/-- weaken the end -/
theorem thn {α : Type} {t : Sem α} {Q Q' : α → Shared → Prop} {M : Model} {A : Around} {E : Value → Shared → Prop} {s : Shared} (h : wpAny M A t Q E s) (hQ : ∀ a s, Q a s → Q' a s) : wpAny M A t Q' E s := wpAny_mono h hQ fun _ _ x => x
end L2

namespace L2
open PySem PySem.Spec PyProof.Rows
section
variable {X : Cx}

/-- two expressions in a row -/
theorem bin {a b : Expr} {ta tb : TE} (ha : PE X a ta) (hb : PE X b tb) {pins : List (Addr × Obj)} {s : Shared} {σ : St} {H : Hp} {R : V → V → Hp → Prop} (I : Inv X pins σ H s) (h : ta σ H fun x H1 => tb σ H1 fun y H2 => R x y H2)
    {α : Type} {Q : α → Shared → Prop} {f : Value → Value → Sem α}
    (hf : ∀ v u s2 x y H2, Inv X pins σ H2 s2 → RelV x v → RelV y u → R x y H2 → wpAny (model X.prog X.w) X.A (f v u) Q X.xe s2) :
    wpAny (model X.prog X.w) X.A (eval a X.env) (fun v s₁ => wpAny (model X.prog X.w) X.A (eval b X.env) (fun u s₂ => wpAny (model X.prog X.w) X.A (f v u) Q X.xe s₂) X.xe s₁) X.xe s := by
  refine thn (ha pins s σ H _ I h) fun v s1 ⟨x, H1, I1, r1, q1⟩ => ?_
  refine thn (hb pins s1 σ H1 _ I1 q1) fun u s2 ⟨y, H2, I2, r2, q2⟩ => ?_
  exact hf v u s2 x y H2 I2 r1 r2 q2

/-! ### names and constants -/
def tVar (i : Nat) : TE := fun σ H Q => ∃ v, σ[i]? = some (some v) ∧ Q v H
def tC (v : V) : TE := fun _ H Q => Q v H
theorem pe_var {i : Nat} {x : Str} {pos : Pos} (hN : X.N[i]? = some x) (hv : Vis X.env.scope x) (hd : (x == ("__debug__" : Str)) = false := by decide) (hcd : (x == ("__classdict__" : Str)) = false := by decide) : PE X (.Name x pos) (tVar i) := by
  intro pins s σ H Q I h
  obtain ⟨v, e, h⟩ := h
  obtain ⟨m, hn, hl⟩ := I.loc
  obtain ⟨u, r, l⟩ := hl i x v hN e hv
  have fin : EP X pins σ Q u s := ⟨v, H, I, r, h⟩
  rcases l with ⟨hk, hm⟩ | ⟨hk, c, hc, hcell⟩
  · exact wpAny_Name (wpAny_loadName_local I.ok.kind hk hn hm fin) hd
  · rcases hk with hk | hk
    · exact wpAny_Name (wpAny_loadName_cell I.ok.kind hk hc hcell fin) hd
    · exact wpAny_Name (wpAny_loadName_free I.ok.kind hk hc hcell fin hcd) hd
theorem pe_int {i j pos} : PE X (.Constant (.int i) j pos) (tC (.int i)) := fun _ _ _ H _ I h => wpAny_Constant_int ⟨.int i, H, I.tok _, ⟨_, rfl⟩, h⟩
theorem pe_bl {b j pos} : PE X (.Constant (.bool b) j pos) (tC (.bl b)) := fun _ _ _ H _ I h => Constant_bool ⟨.bl b, H, I, rfl, h⟩
theorem pe_non {j pos} : PE X (.Constant .none j pos) (tC .non) := fun _ _ _ H _ I h => Constant_none ⟨.non, H, I, rfl, h⟩
theorem pe_str {x j pos} : PE X (.Constant (.str x) j pos) (tC (.str x)) := fun _ _ _ H _ I h => Calls.Constant_str ⟨.str x, H, I.tok _, ⟨_, rfl⟩, h⟩

/-- a global name of the def -/
def Gl (X : Cx) (x : Str) : Prop := X.env.kindOf x = some .globalImplicit
theorem ld_glob {E : Value → Shared → Prop} {pins : List (Addr × Obj)} {s : Shared} {σ : St} {H : Hp} {x : Str} {u : Value} {pos : Pos} {Q : Value → Shared → Prop} (I : Inv X pins σ H s) (hg : Gl X x) (hm : X.mg x = some u) (h : Q u s)
    (hd : (x == ("__debug__" : Str)) = false := by decide) : wpAny (model X.prog X.w) X.A (eval (.Name x pos) X.env) Q E s :=
  Calls.Name_function_global I.ok.kind hg (Calls.loadGlobal_global (by rw [I.ok.glob]; exact I.mod.glob.keeps I.bk) hm h) hd
theorem ld_blt {E : Value → Shared → Prop} {pins : List (Addr × Obj)} {s : Shared} {σ : St} {H : Hp} {x : Str} {u : Value} {pos : Pos} {Q : Value → Shared → Prop} (I : Inv X pins σ H s) (hg : Gl X x) (hm : X.mg x = none) (hv : bootBuiltins x = some u) (h : Q u s)
    (hn : x ≠ "__name__" := by decide) (hd : (x == ("__debug__" : Str)) = false := by decide) : wpAny (model X.prog X.w) X.A (eval (.Name x pos) X.env) Q E s := by
  obtain ⟨mb, h1, h2⟩ := I.mod.blt
  exact Calls.Name_function_global I.ok.kind hg (Calls.loadGlobal_builtin (by rw [I.ok.glob]; exact I.mod.glob.keeps I.bk) hm (by rw [I.ok.blt]; exact h1.keeps I.bk) ((h2 x hn).trans hv) h) hd
theorem pe_bltn {x : Str} {v : V} {u : Value} {pos : Pos} (hg : Gl X x) (hm : X.mg x = none) (hv : bootBuiltins x = some u) (r : RelV v u) (hn : x ≠ "__name__" := by decide) (hd : (x == ("__debug__" : Str)) = false := by decide) : PE X (.Name x pos) (tC v) :=
  fun _ _ _ H _ I h => ld_blt I hg hm hv ⟨v, H, I, r, h⟩ hn hd

/-! ### arithmetic -/
variable {a b : Expr} {ta tb : TE} {pos : Pos}
/-! ### comparisons -/
def PC (X : Cx) (op : CmpOp) (a b : Expr) (t : TE) : Prop :=
  ∀ (pins : List (Addr × Obj)) (s : Shared) (σ : St) (H : Hp) (Q : VK), Inv X pins σ H s → t σ H Q →
    wpAny (model X.prog X.w) X.A (eval a X.env) (fun v s₁ => wpAny (model X.prog X.w) X.A (eval b X.env) (fun u s₂ => wpAny (model X.prog X.w) X.A (compareOp op v u) (EP X pins σ Q) X.xe s₂) X.xe s₁) X.xe s
theorem nobehind (b : Expr) {op : CmpOp} (h : op ≠ .In) (h2 : op ≠ .NotIn) : behindInMarks op b = false := by
  have e1 : (op == CmpOp.In) = false := by cases op <;> first | rfl | exact absurd rfl h
  have e2 : (op == CmpOp.NotIn) = false := by cases op <;> first | rfl | exact absurd rfl h2
  cases b <;> simp [behindInMarks, e1, e2]
/-- a comparison as a value, as a test -/
def tB (t : TE) : TT := fun σ H Q => t σ H fun x H1 => ∃ c, x = .bl c ∧ Q c H1
theorem pt_cmp {op : CmpOp} {t : TE} (h : PC X op a b t) (h1 : behindInMarks op b = false := by first | exact nobehind _ (by decide) (by decide) | rfl) : PT X (.Compare a [op] [b] pos) (tB t) := by
  intro pins s σ H Q I hw
  refine wpAny_isTrue_Compare1 (thn (h pins s σ H _ I hw) fun v s1 h1 => thn h1 fun u s2 h2 => thn h2 fun c s3 ⟨x, H1, I1, r1, q1⟩ => ?_) h1
  obtain ⟨d, rfl, q⟩ := q1
  cases r1
  exact wpAny_truthy_bool ⟨H1, I1, q⟩
/-- an expression whose value is a bool, as a test -/
theorem pt_val {e : Expr} {t : TE} (h : PE X e t) (he : ∀ whole, isTrue e X.env whole = (do let v ← whole; standAt e.pos; holding [v] (truthy v)) := by intro _; rfl) : PT X e (tB t) := by
  intro pins s σ H Q I hw
  refine isTrue_plain (thn (h pins s σ H _ I hw) fun v s1 ⟨x, H1, I1, r1, q1⟩ => ?_) (he _)
  obtain ⟨d, rfl, q⟩ := q1
  cases r1
  exact wpAny_truthy_bool ⟨H1, I1, q⟩

/-! ### and, or, not -/
variable {tA tB' : TT} {rest : List Expr}
def tAnd (t u : TT) : TT := fun σ H Q => t σ H fun c H1 => if c = true then u σ H1 Q else Q false H1
def tOr (t u : TT) : TT := fun σ H Q => t σ H fun c H1 => if c = true then Q true H1 else u σ H1 Q
def tNot (t : TT) : TT := fun σ H Q => t σ H fun c H1 => Q (!c) H1
theorem pw_and1 (ha : PT X a tA) : PW X (.BoolOp .And [a] pos) tA := by
  intro wh pins s σ H Q I h
  refine isTrue_and (thn (ha pins s σ H Q I h) fun c s1 e => ?_)
  cases c with
  | true => exact isTrue_and_nil e
  | false => exact e
theorem pw_or1 (ha : PT X a tA) : PW X (.BoolOp .Or [a] pos) tA := by
  intro wh pins s σ H Q I h
  refine isTrue_or (thn (ha pins s σ H Q I h) fun c s1 e => ?_)
  cases c with
  | false => exact isTrue_or_nil e
  | true => exact e
theorem pw_and (ha : PT X a tA) (hb : PW X (.BoolOp .And (b :: rest) pos) tB') : PW X (.BoolOp .And (a :: b :: rest) pos) (tAnd tA tB') := by
  intro wh pins s σ H Q I h
  refine isTrue_and (thn (ha pins s σ H _ I h) fun c s1 ⟨H1, I1, q1⟩ => ?_)
  cases c with
  | true => exact hb wh pins s1 σ H1 Q I1 q1
  | false => exact ⟨H1, I1, q1⟩
theorem pw_or (ha : PT X a tA) (hb : PW X (.BoolOp .Or (b :: rest) pos) tB') : PW X (.BoolOp .Or (a :: b :: rest) pos) (tOr tA tB') := by
  intro wh pins s σ H Q I h
  refine isTrue_or (thn (ha pins s σ H _ I h) fun c s1 ⟨H1, I1, q1⟩ => ?_)
  cases c with
  | true => exact ⟨H1, I1, q1⟩
  | false => exact hb wh pins s1 σ H1 Q I1 q1
theorem pt_not (ha : PT X a tA) : PT X (.UnaryOp .Not a pos) (tNot tA) := by
  intro pins s σ H Q I h
  exact isTrue_not (ha pins s σ H (fun c H1 => Q (!c) H1) I h)
/-- a if t else b -/
def tIf (t : TT) (ta tb : TE) : TE := fun σ H Q => t σ H fun c H1 => if c = true then ta σ H1 Q else tb σ H1 Q
theorem pe_ifExp {c : Expr} (hc : PT X c tA) (ha : PE X a ta) (hb : PE X b tb) : PE X (.IfExp c a b pos) (tIf tA ta tb) := by
  intro pins s σ H Q I h
  refine wpAny_IfExp (thn (hc pins s σ H _ I h) fun d s1 ⟨H1, I1, q1⟩ => ?_)
  cases d with
  | true => exact ha pins s1 σ H1 Q I1 q1
  | false => exact hb pins s1 σ H1 Q I1 q1
end
end L2

namespace L2
open PySem PySem.Spec PyProof.Rows

/-! ### a list, a tuple that is read: tracked, frozen, or an object of the module -/
def SqL (K : PySem.W.Frag) (H : Hp) (a : Addr) (xs : List V) : Prop :=
  Rd H a (.lst xs) ∨
    ∃ (o : Obj) (its : Array Value) (n : Nat), K.lookup a = some o ∧ o.cls = .type "list" ∧ o.dict = none ∧ o.data = .seq its n ∧ its.size ≤ sizeLine ∧ Vals xs its.toList
def SqT (K : PySem.W.Frag) (H : Hp) (a : Addr) (xs : List V) : Prop :=
  Rd H a (.tup xs) ∨
    ∃ (o : Obj) (its : Array Value) (n : Nat), K.lookup a = some o ∧ o.cls = .type "tuple" ∧ o.data = .seq its n ∧ its.size ≤ sizeLine ∧ Vals xs its.toList
def absV : Value → Option V
  | .none => some .non
  | .bool b => some (.bl b)
  | .int i _ => some (.int i)
  | .str x _ => some (.str x)
  | .bytes b _ => some (.byt b)
  | .float b _ => some (.flt b)
  | .ref a => some (.ref a)
  | .type n => some (.ty n)
  | _ => none
theorem RelV.abs {x : V} {u : Value} (r : RelV x u) : absV u = some x := by
  cases x with
  | non => cases r; rfl
  | bl _ => cases r; rfl
  | int _ => obtain ⟨t, rfl⟩ := r; rfl
  | str _ => obtain ⟨t, rfl⟩ := r; rfl
  | byt _ => obtain ⟨t, rfl⟩ := r; rfl
  | flt _ => obtain ⟨t, rfl⟩ := r; rfl
  | ref _ => cases r; rfl
  | ty _ => cases r; rfl
theorem RelV.inj {x y : V} {u : Value} (r : RelV x u) (q : RelV y u) : x = y := Option.some.inj (r.abs.symm.trans q.abs)
theorem Vals.inj : ∀ {xs ys : List V} {us : List Value}, Vals xs us → Vals ys us → xs = ys
  | _, _, _, .nil, .nil => rfl
  | _, _, _, .cons r t, .cons r' t' => by rw [r.inj r', Vals.inj t t']
section
variable {X : Cx} {pins : List (Addr × Obj)} {σ : St} {H : Hp} {s : Shared} {a : Addr} {xs ys : List V}
theorem SqL.of {K : PySem.W.Frag} (h : H a = some (.lst xs)) : SqL K H a xs := .inl (.inl h)
theorem SqT.of {K : PySem.W.Frag} (h : H a = some (.tup xs)) : SqT K H a xs := .inl (.inl h)
theorem Inv.list (I : Inv X pins σ H s) (h : SqL X.K H a xs) : ∃ its : List Value, Vals xs its ∧ PlainL s.heap a its.toArray ∧ xs.length ≤ sizeLine := by
  rcases h with h | ⟨o, its, n, hk, hc, hd, hs, hz, r⟩
  · obtain ⟨z, its, n, r, e⟩ := h.ok I.hok
    exact ⟨its, r, ⟨_, n, e, rfl, rfl, rfl⟩, z⟩
  · refine ⟨its.toList, r, ⟨o, n, I.kIn a o hk, hc, hd, by simpa using hs⟩, ?_⟩
    have e := r.length
    simp only [Array.length_toList] at e
    omega
theorem Inv.tuple (I : Inv X pins σ H s) (h : SqT X.K H a xs) : ∃ its : List Value, Vals xs its ∧ IsTup s.heap a its.toArray ∧ xs.length ≤ sizeLine := by
  rcases h with h | ⟨o, its, n, hk, hc, hs, hz, r⟩
  · obtain ⟨z, its, r, p⟩ := h.ok I.hok
    exact ⟨its, r, p, z⟩
  · refine ⟨its.toList, r, ⟨o, I.kIn a o hk, hc, n, by simpa using hs⟩, ?_⟩
    have e := r.length
    simp only [Array.length_toList] at e
    omega
theorem Inv.list_inj (I : Inv X pins σ H s) (h : SqL X.K H a xs) (h' : SqL X.K H a ys) : xs = ys := by
  obtain ⟨its, r, ⟨o, n, e, _, _, d⟩, _⟩ := I.list h
  obtain ⟨its', r', ⟨o', n', e', _, _, d'⟩, _⟩ := I.list h'
  rw [e] at e'; cases e'
  rw [d] at d'
  injection d' with d1 _
  have : its = its' := by simpa using congrArg Array.toList d1
  subst this
  exact r.inj r'
theorem Inv.tuple_inj (I : Inv X pins σ H s) (h : SqT X.K H a xs) (h' : SqT X.K H a ys) : xs = ys := by
  obtain ⟨its, r, ⟨o, e, _, n, d⟩, _⟩ := I.tuple h
  obtain ⟨its', r', ⟨o', e', _, n', d'⟩, _⟩ := I.tuple h'
  rw [e] at e'; cases e'
  rw [d] at d'
  injection d' with d1 _
  have : its = its' := by simpa using congrArg Array.toList d1
  subst this
  exact r.inj r'
end

/-! ### another wish about exceptions -/
abbrev Cx.wish (X : Cx) (E : Value → Shared → Prop) : Cx := { X with xe := E }
/-- no exception leaves -/
abbrev Cx.nox (X : Cx) : Cx := X.wish fun _ _ => False
theorem Cx.Ok.wish {X : Cx} (ok : X.Ok) (E : Value → Shared → Prop) : (X.wish E).Ok :=
  ⟨ok.mod, ok.kind, ok.glob, ok.blt, ok.above, ok.inj, ok.has, ok.cab, ok.hd, ok.frames, ok.stk, ok.exf, ok.bs, ok.bsz, ok.noex, ok.exfs, ok.funs, ok.frf⟩
theorem Cx.Ok.unwish {X : Cx} {E : Value → Shared → Prop} (ok : (X.wish E).Ok) : X.Ok :=
  ⟨ok.mod, ok.kind, ok.glob, ok.blt, ok.above, ok.inj, ok.has, ok.cab, ok.hd, ok.frames, ok.stk, ok.exf, ok.bs, ok.bsz, ok.noex, ok.exfs, ok.funs, ok.frf⟩
section
variable {X : Cx} {pins : List (Addr × Obj)} {σ : St} {H : Hp} {s : Shared} {E : Value → Shared → Prop}
theorem Inv.wish (I : Inv X pins σ H s) (E : Value → Shared → Prop) : Inv (X.wish E) pins σ H s := ⟨I.ok.wish E, I.os, I.bare, I.base, I.loc, I.cell, I.free, I.freeC, I.pin, I.hok, I.len⟩
theorem Inv.unwish (I : Inv (X.wish E) pins σ H s) : Inv X pins σ H s := ⟨I.ok.unwish, I.os, I.bare, I.base, I.loc, I.cell, I.free, I.freeC, I.pin, I.hok, I.len⟩
theorem SP.unwish {D : Ends} {f : Flow} {s' : Shared} (h : SP (X.wish E) pins D f s') : SP X pins D f s' := by
  cases f with
  | next => obtain ⟨σ', H', I, q⟩ := h; exact ⟨σ', H', I.unwish, q⟩
  | brk => obtain ⟨σ', H', I, q⟩ := h; exact ⟨σ', H', I.unwish, q⟩
  | cont => obtain ⟨σ', H', I, q⟩ := h; exact ⟨σ', H', I.unwish, q⟩
  | ret u => obtain ⟨v, σ', H', I, r, q⟩ := h; exact ⟨v, σ', H', I.unwish, r, q⟩
theorem PE.nox {e : Expr} {t : TE} (h : PE X.nox e t) : PE X e t := fun pins s σ H Q I hw =>
  wpAny_mono (h pins s σ H Q (I.wish _) hw) (fun _ _ ⟨v, H', I', r, q⟩ => ⟨v, H', I'.unwish, r, q⟩) fun _ _ z => False.elim z
theorem PT.nox {e : Expr} {t : TT} (h : PT X.nox e t) : PT X e t := fun pins s σ H Q I hw =>
  wpAny_mono (h pins s σ H Q (I.wish _) hw) (fun _ _ ⟨H', I', q⟩ => ⟨H', I'.unwish, q⟩) fun _ _ z => False.elim z
theorem PSs.nox {st : List Stmt} {t : TS} (h : PSs X.nox st t) : PSs X st t := fun pins s σ H D I hw =>
  wpAny_mono (h pins s σ H D (I.wish _) hw) (fun _ _ q => q.unwish) fun _ _ z => False.elim z
end

/-! ### blocks and small statements -/
section
variable {X : Cx} {st : Stmt} {rest : List Stmt} {t u : TS} {e : Expr} {te : TE} {pos : Pos}
def tNext : TS := fun D σ H => D.nx σ H
def tSeq (t u : TS) : TS := fun D σ H => t { D with nx := u D } σ H
theorem pss_nil : PSs X [] tNext := fun _ _ σ H _ I h => wpAny_execs_nil ⟨σ, H, I, h⟩
theorem pss_cons (h1 : PS X st t) (h2 : PSs X rest u) : PSs X (st :: rest) (tSeq t u) := by
  intro pins s σ H D I h
  refine wpAny_execs_cons (thn (h1 pins s σ H { D with nx := u D } I h) fun f s1 q => ?_)
  cases f with
  | next =>
    obtain ⟨σ', H', I', q⟩ := q
    exact h2 pins s1 σ' H' D I' q
  | ret v => exact q
  | brk => exact q
  | cont => exact q
theorem pss_one (h1 : PS X st t) : PSs X [st] t := by
  intro pins s σ H D I h
  refine wpAny_execs_cons (thn (h1 pins s σ H D I h) fun f s1 q => ?_)
  cases f with
  | next => exact wpAny_execs_nil q
  | ret v => exact q
  | brk => exact q
  | cont => exact q
/-- in a def's body nothing is shown -/
theorem Inv.quiet {pins : List (Addr × Obj)} {σ : St} {H : Hp} {s : Shared} (I : Inv X pins σ H s) : interactive X.env = false := by simp [interactive, I.ok.kind]
/-- an expression whose value is dropped -/
def tDrop (te : TE) : TS := fun D σ H => te σ H fun _ H1 => D.nx σ H1
theorem ps_expr (he : PE X e te) (hs : swapsWith e none pos.line X.env = pure false := by rfl) : PS X (.Expr e pos) (tDrop te) := by
  intro pins s σ H D I h
  exact wpAny_Expr_any (thn (he pins s σ H _ I h) fun v s1 ⟨x, H1, I1, r1, q1⟩ => ⟨σ, H1, I1, q1⟩) I.quiet hs
def tRet (te : TE) : TS := fun D σ H => te σ H D.rt
theorem ps_ret (he : PE X e te) : PS X (.Return (some e) pos) (tRet te) := by
  intro pins s σ H D I h
  exact wpAny_Return_some (thn (he pins s σ H _ I h) fun v s1 ⟨x, H1, I1, r1, q1⟩ => ⟨x, σ, H1, I1, r1, q1⟩)
def tIfS (c : TT) (t u : TS) : TS := fun D σ H => c σ H fun b H1 => if b = true then t D σ H1 else u D σ H1
theorem ps_if {c : Expr} {a b : List Stmt} {tc : TT} (hc : PT X c tc) (ha : PSs X a t) (hb : PSs X b u) : PS X (.If c a b pos) (tIfS tc t u) := by
  intro pins s σ H D I h
  refine wpAny_If (thn (hc pins s σ H _ I h) fun d s1 ⟨H1, I1, q1⟩ => ?_)
  cases d with
  | true => exact ha pins s1 σ H1 D I1 q1
  | false => exact hb pins s1 σ H1 D I1 q1
end

/-! ### targets -/
abbrev TG := V → St → Hp → (St → Hp → Prop) → Prop
abbrev TGs := List V → St → Hp → (St → Hp → Prop) → Prop
def PG (X : Cx) (target : Expr) (t : TG) : Prop :=
  ∀ (pins : List (Addr × Obj)) (s : Shared) (σ : St) (H : Hp) (v : V) (u : Value) (Q : St → Hp → Prop), Inv X pins σ H s → RelV v u → t v σ H Q →
    wpAny (model X.prog X.w) X.A (assign target X.env u) (fun _ s' => ∃ σ' H', Inv X pins σ' H' s' ∧ Q σ' H') X.xe s
/-- several targets, one after another -/
def PGs (X : Cx) (ts : List Expr) (t : TGs) : Prop :=
  ∀ (pins : List (Addr × Obj)) (s : Shared) (σ : St) (H : Hp) (vs : List V) (us : List Value) (Q : St → Hp → Prop), Inv X pins σ H s → Vals vs us → t vs σ H Q →
    wpAny (model X.prog X.w) X.A (assignInOrder ((assignEach ts X.env).map (·.2)) us) (fun _ s' => ∃ σ' H', Inv X pins σ' H' s' ∧ Q σ' H') X.xe s
/-- o[i] = v, by values -/
abbrev TSet := V → V → V → Hp → (Hp → Prop) → Prop
def PSet (X : Cx) (t : TSet) : Prop :=
  ∀ (pins : List (Addr × Obj)) (s : Shared) (σ : St) (H : Hp) (o i v : V) (ov iv u : Value) (Q : Hp → Prop), Inv X pins σ H s → RelV o ov → RelV i iv → RelV v u → t o i v H Q →
    wpAny (model X.prog X.w) X.A (setItem ov iv u) (fun _ s' => ∃ H', Inv X pins σ H' s' ∧ Q H') X.xe s
/-- a op= b, by values -/
abbrev TIp := V → V → Hp → VK → Prop
def PIp (X : Cx) (op : Operator) (t : TIp) : Prop :=
  ∀ (pins : List (Addr × Obj)) (s : Shared) (σ : St) (H : Hp) (x y : V) (v u : Value) (Q : VK), Inv X pins σ H s → RelV x v → RelV y u → t x y H Q →
    wpAny (model X.prog X.w) X.A (inplaceOp op v u) (EP X pins σ Q) X.xe s
section
variable {X : Cx} {pos : Pos}
def gName (i : Nat) : TG := fun v σ H Q => Q (σ.set i (some v)) H
theorem pg_name {i : Nat} {x : Str} (hN : X.N.Nodup) (hi : X.N[i]? = some x) (hx : Loc X.env.scope x) (hf : X.fn x = true ∨ X.env.scope.names.lookup x = some .local := by first | exact .inl rfl | exact .inr rfl | assumption) : PG X (.Name x pos) (gName i) := by
  intro pins s σ H v u Q I r h
  exact wpAny_assign_Name (store_ok I hN hi hx r (fun s' I' => ⟨_, H, I', h⟩) hf)
def gNil : TGs := fun vs σ H Q => vs = [] ∧ Q σ H
def gCons (t : TG) (u : TGs) : TGs := fun vs σ H Q => ∃ v r, vs = v :: r ∧ t v σ H fun σ' H' => u r σ' H' Q
theorem pgs_nil : PGs X [] gNil := by
  intro pins s σ H vs us Q I r h
  obtain ⟨e, h⟩ := h
  subst e
  cases r
  exact assignInOrder_nil ⟨σ, H, I, h⟩
theorem pgs_cons {e : Expr} {es : List Expr} {t : TG} {u : TGs} (h1 : PG X e t) (h2 : PGs X es u)
    (hs : (assignEach (e :: es) X.env).map (·.2) = assign e X.env :: (assignEach es X.env).map (·.2) := by rfl) : PGs X (e :: es) (gCons t u) := by
  intro pins s σ H vs us Q I r h
  obtain ⟨v, vr, e1, h⟩ := h
  subst e1
  cases r with
  | cons r rr =>
    rw [hs]
    refine assignInOrder_cons (thn (h1 pins s σ H _ _ _ I r h) fun _ s1 ⟨σ1, H1, I1, q1⟩ => ?_)
    exact h2 pins s1 σ1 H1 _ _ Q I1 rr q1
/-- (a, b, ..) = a tuple of that length -/
def gTup (K : PySem.W.Frag) (n : Nat) (t : TGs) : TG := fun v σ H Q => ∃ a xs, v = .ref a ∧ SqT K H a xs ∧ xs.length = n ∧ t xs σ H Q
theorem pg_tup {es : List Expr} {k : Nat} {t : TGs} {n : Nat} (hc : X.calm = true) (h : PGs X es t)
    (hn : (assignEach es X.env).length = n := by rfl) (hst : (assignEach es X.env).findIdx? (·.1) = none := by rfl) : PG X (.Tuple es k pos) (gTup X.K n t) := by
  intro pins s σ H v u Q I r hw
  obtain ⟨a, xs, e1, hq, hl, hw⟩ := hw
  subst e1
  cases r
  obtain ⟨its, rv, ht, hz⟩ := I.tuple hq
  refine assign_Tuple_tuple (I.ok.hd hc) ht (by simp [hn, ← hl, rv.length]) hst fun h' hx => ?_
  have I1 : Inv X pins σ H { s with heap := h' } := I.kept (t' := s.toks) fun b o e => hx b o (Nat.ne_of_lt (Heap.lt_size e)) e
  exact h pins _ σ H xs _ Q I1 (by simpa using rv) hw
/-- o[i] = .. -/
def gSub (to ti : TE) (t : TSet) : TG := fun v σ H Q => to σ H fun o H1 => ti σ H1 fun i H2 => t o i v H2 fun H3 => Q σ H3
theorem pg_sub {o i : Expr} {to ti : TE} {t : TSet} (ho : PE X o to) (hi : PE X i ti) (hs : PSet X t)
    (ha : ∀ v, assign (.Subscript o i pos) X.env v = (do
      let ov ← holding [v] (eval o X.env)
      let iv ← holding [v, ov] (eval i X.env)
      standAt pos
      holding [v, ov, iv] (setItem ov iv v)
      release [v, ov, iv] []) := by intro _; rfl) : PG X (.Subscript o i pos) (gSub to ti t) := by
  intro pins s σ H v u Q I r h
  rw [ha]
  refine wpAny_bind (wpAny_holding (thn (ho pins s σ H _ I h) fun ov s1 ⟨x, H1, I1, r1, q1⟩ => ?_))
  refine wpAny_bind (wpAny_holding (thn (hi pins s1 σ H1 _ I1 q1) fun iv s2 ⟨y, H2, I2, r2, q2⟩ => ?_))
  refine wpAny_bind (wpAny_standAt (wpAny_bind (wpAny_holding (thn (hs pins s2 σ H2 x y v ov iv u _ I2 r1 r2 r q2) fun _ s3 ⟨H3, I3, q3⟩ => ?_))))
  exact wpAny_release ⟨σ, H3, I3, q3⟩
/-- target = value -/
def tAsg (te : TE) (g : TG) : TS := fun D σ H => te σ H fun x H1 => g x σ H1 D.nx
theorem ps_asg {tg e : Expr} {te : TE} {g : TG} (he : PE X e te) (hg : PG X tg g) (hs : swapsWithSole [tg] e pos.line X.env = pure false := by rfl) (hw : swappedStores [tg] e X.env = pure none := by rfl)
    (h1 : (assignEach [tg] X.env).map (·.2) = [assign tg X.env] := by rfl) : PS X (.Assign [tg] e pos) (tAsg te g) := by
  intro pins s σ H D I h
  refine wpAny_Assign_stores (thn (he pins s σ H _ I h) fun v s1 ⟨x, H1, I1, r1, q1⟩ => ?_) hs hw
  rw [h1]
  exact thn (hg pins s1 σ H1 x v _ I1 r1 q1) fun _ s2 q => q
/-- name = value -/
theorem ps_set {i : Nat} {x : Str} {e : Expr} {te : TE} {pos' : Pos} (hN : X.N.Nodup) (hi : X.N[i]? = some x) (hx : Loc X.env.scope x) (he : PE X e te) (hs : swapsWith e (some (.Name x pos')) pos.line X.env = pure false := by rfl) (hf : X.fn x = true ∨ X.env.scope.names.lookup x = some .local := by first | exact .inl rfl | exact .inr rfl | assumption) :
    PS X (.Assign [.Name x pos'] e pos) (tAsg te (gName i)) := by
  intro pins s σ H D I h
  refine wpAny_Assign_Name (thn (he pins s σ H _ I h) fun v s1 ⟨y, H1, I1, r1, q1⟩ => ?_) hs
  exact store_ok I1 hN hi hx r1 (fun s2 I2 => ⟨_, H1, I2, q1⟩) hf
/-- name op= e -/
def tAug (i : Nat) (te : TE) (ti : TIp) : TS := fun D σ H => ∃ x, σ[i]? = some (some x) ∧ te σ H fun y H1 => ti x y H1 fun z H2 => D.nx (σ.set i (some z)) H2
theorem ps_aug {i : Nat} {x : Str} {e : Expr} {te : TE} {op : Operator} {ti : TIp} {pos' : Pos} (hN : X.N.Nodup) (hi : X.N[i]? = some x) (hx : Loc X.env.scope x) (he : PE X e te) (ho : PIp X op ti) (hf : X.fn x = true ∨ X.env.scope.names.lookup x = some .local := by first | exact .inl rfl | exact .inr rfl | assumption) :
    PS X (.AugAssign (.Name x pos') op e pos) (tAug i te ti) := by
  intro pins s σ H D I h
  obtain ⟨v, e1, h⟩ := h
  obtain ⟨m, hn, hl⟩ := I.loc
  have vis : Vis X.env.scope x := by rcases hx with k | k; exact .inl k; exact .inr (.inl k)
  obtain ⟨u, r, l⟩ := hl i x v hi e1 vis
  refine wpAny_AugAssign_Name ?_
  have go : wpAny (model X.prog X.w) X.A (eval e X.env) (fun w s₂ => wpAny (model X.prog X.w) X.A (inplaceOp op u w) (fun r s₃ => wpAny (model X.prog X.w) X.A (storeName X.env x r) (fun _ => SP X pins D .next) X.xe s₃) X.xe s₂) X.xe s := by
    refine thn (he pins s σ H _ I h) fun w s1 ⟨y, H1, I1, r1, q1⟩ => ?_
    refine thn (ho pins s1 σ H1 v y u w _ I1 r r1 q1) fun z s2 ⟨zv, H2, I2, r2, q2⟩ => ?_
    exact store_ok I2 hN hi hx r2 (fun s3 I3 => ⟨_, H2, I3, q2⟩) hf
  rcases l with ⟨hk, hm⟩ | ⟨hk, c, hc, hcell⟩
  · exact wpAny_loadName_local I.ok.kind hk hn hm go
  · rcases hk with hk | hk
    · exact wpAny_loadName_cell I.ok.kind hk hc hcell go
    · rcases hx with k | k
      · have : X.env.scope.names.lookup x = some .free := hk
        rw [k] at this; cases this
      · have : X.env.scope.names.lookup x = some .free := hk
        rw [k] at this; cases this
/-- ints -/
def ipI (f : Int → Int → Int) : TIp := fun x y H Q => ∃ i j, x = .int i ∧ y = .int j ∧ Q (.int (f i j)) H
theorem ip_add : PIp X .Add (ipI fun i j => i + j) := by
  intro pins s σ H x y v u Q I r1 r2 h
  obtain ⟨i, j, e1, e2, q⟩ := h
  subst e1; subst e2
  obtain ⟨t, rfl⟩ := r1
  obtain ⟨t', rfl⟩ := r2
  exact iadd_int ⟨.int _, H, I.tok _, ⟨_, rfl⟩, q⟩
theorem ip_sub : PIp X .Sub (ipI fun i j => i - j) := by
  intro pins s σ H x y v u Q I r1 r2 h
  obtain ⟨i, j, e1, e2, q⟩ := h
  subst e1; subst e2
  obtain ⟨t, rfl⟩ := r1
  obtain ⟨t', rfl⟩ := r2
  exact isub_int ⟨.int _, H, I.tok _, ⟨_, rfl⟩, q⟩
end

/-! ### while -/
section
variable {X : Cx} {pos : Pos}
end

/-! ### what a loop or a comprehension walks -/
/-- at turn i: it yields x (the heap may grow), or it stops -/
structure It where
  go : Nat → Hp → Prop
  yld : Nat → Hp → V → Hp → Prop
  stop : Nat → Hp → Prop
/-- the iterator's own objects may turn: they are not the frame's, not pinned, younger than the entry (or a comprehension's own) -/
def FpOk (X : Cx) (pins : List (Addr × Obj)) (H : Hp) (b : Addr) : Prop :=
  H b = none ∧ b ≠ X.env.locals ∧ b ∉ X.fs ∧ (b ∈ X.ex ∨ X.s₀.heap.objs.size ≤ b) ∧ (∀ x c, X.env.cells.lookup x = some c → c ≠ b) ∧ ∀ p ∈ X.pn ++ pins, p.1 ≠ b
theorem Inv.fpOk {X : Cx} {pins : List (Addr × Obj)} {σ : St} {H H' : Hp} {s : Shared} {b : Addr} (I : Inv X pins σ H s) (hb : s.heap.objs.size ≤ b) (hn : H' b = none) : FpOk X pins H' b := by
  refine ⟨hn, Nat.ne_of_gt (Nat.lt_of_lt_of_le I.lt hb), I.nofs hb, .inr (Nat.le_trans I.sz hb), fun x c e z => ?_, fun p hp z => ?_⟩
  · obtain ⟨v, q⟩ := I.cell x c e
    exact absurd (Nat.lt_of_lt_of_le q.lt (by rw [z]; exact hb)) (Nat.lt_irrefl _)
  · exact absurd (Nat.lt_of_lt_of_le (Heap.lt_size (I.pin p hp).1) (by rw [z]; exact hb)) (Nat.lt_irrefl _)
structure Turn (P : Program) (w : World) (K : PySem.W.Frag) (tg : Expr) (J : It) (fp : List Addr) (it : Addr) (tn : Nat → Heap → Prop) : Prop where
  mem : it ∈ fp
  obj : ∀ i h, tn i h → ∀ b ∈ fp, ∃ o, h.get? b = some o ∧ ∀ v, o.data ≠ .cell v
  keep : ∀ i h h', tn i h → (∀ b ∈ fp, ∀ o, h.get? b = some o → h'.get? b = some o) → tn i h'
  item : ∀ (X : Cx), X.prog = P → X.w = w → X.K = K → X.calm = true → ∀ (i : Nat) (pins : List (Addr × Obj)) (s : Shared) (σ : St) (H : Hp) (E : Value → Shared → Prop), Inv X pins σ H s → (∀ b ∈ fp, FpOk X pins H b) → tn i s.heap → J.go i H →
    wpAny (model P w) X.A (pyNext (.ref it)) (fun r s1 => ∃ u, r = some u ∧
      wpAny (model P w) X.A (letOwnedTupleGo tg (.ref it) u) (fun _ s2 => ∃ x H', Inv X pins σ H' s2 ∧ RelV x u ∧ J.yld i H x H' ∧ tn (i + 1) s2.heap ∧ ∀ b ∈ fp, H' b = none) E s1) E s
  done : ∀ (X : Cx), X.prog = P → X.w = w → X.K = K → X.calm = true → ∀ (i : Nat) (pins : List (Addr × Obj)) (s : Shared) (σ : St) (H : Hp) (E : Value → Shared → Prop), Inv X pins σ H s → (∀ b ∈ fp, FpOk X pins H b) → tn i s.heap → J.stop i H →
    wpAny (model P w) X.A (pyNext (.ref it)) (fun r s1 => r = none ∧ Inv X pins σ H s1) E s
  self : ∀ (A : Around) (i : Nat) (s : Shared) (Q : Value → Shared → Prop) (E : Value → Shared → Prop), tn i s.heap → Q (.ref it) s → wpAny (model P w) A (pyIter (.ref it)) Q E s
abbrev TI := St → Hp → (It → Hp → Prop) → Prop
/-- an iterator has come -/
def PIE (X : Cx) (pins : List (Addr × Obj)) (σ : St) (tg : Expr) (R : It → Hp → Prop) (itv : Value) (s2 : Shared) : Prop :=
  ∃ (it : Addr) (fp : List Addr) (tn : Nat → Heap → Prop) (J : It) (H' : Hp), itv = .ref it ∧ Inv X pins σ H' s2 ∧ Turn X.prog X.w X.K tg J fp it tn ∧ tn 0 s2.heap ∧ (∀ b ∈ fp, FpOk X pins H' b) ∧ R J H'
def PI (X : Cx) (tg iter : Expr) (wi : TI) : Prop :=
  ∀ (pins : List (Addr × Obj)) (s : Shared) (σ : St) (H : Hp) (R : It → Hp → Prop), Inv X pins σ H s → wi σ H R →
    wpAny (model X.prog X.w) X.A (eval iter X.env) (fun v s1 => wpAny (model X.prog X.w) X.A (pyIter v) (PIE X pins σ tg R) X.xe s1) X.xe s

/-- the step ahead of the store is nothing for an iterator that keeps no tuple -/
theorem go_of {M : Model} {A : Around} {E : Value → Shared → Prop} {s : Shared} {tg : Expr} {it : Addr} {u : Value} {o : Obj} {n : String} {vs : Array Value} {Q : Unit → Shared → Prop} (ho : s.heap.get? it = some o) (hc : o.cls = .type n) (hd : o.data = .fields vs)
    (hn : ["enumerate", "zip", "dict_itemiterator", "dict_reverseitemiterator", "odict_iterator", "itertools.zip_longest", "itertools.pairwise"].contains n = false) (hQ : Q () s) : wpAny M A (letOwnedTupleGo tg (.ref it) u) Q E s := by
  unfold letOwnedTupleGo
  cases tg <;> first
    | exact wpAny_pure hQ
    | (cases u <;> first
        | exact wpAny_pure hQ
        | (refine wpAny_bind (wpAny_load ho ?_)
           rw [hc, hd]
           show wpAny M A (if (["enumerate", "zip", "dict_itemiterator", "dict_reverseitemiterator", "odict_iterator", "itertools.zip_longest", "itertools.pairwise"].contains n && vs[0]? == some (rawInt _)) = true then _ else _) Q E s
           rw [if_neg (by intro h; rw [hn, Bool.false_and] at h; cases h)]
           exact wpAny_pure hQ))

/-- the list at a, as it stands at each turn (a loop may append to it) -/
def Itl (K : PySem.W.Frag) (a : Addr) : It :=
  ⟨fun i H => ∃ xs x, SqL K H a xs ∧ xs[i]? = some x, fun i H x H' => H' = H ∧ ∀ xs, SqL K H a xs → xs[i]? = some x, fun i H => ∃ xs, SqL K H a xs ∧ xs.length ≤ i⟩
def Itt (K : PySem.W.Frag) (a : Addr) : It :=
  ⟨fun i H => ∃ xs x, SqT K H a xs ∧ xs[i]? = some x, fun i H x H' => H' = H ∧ ∀ xs, SqT K H a xs → xs[i]? = some x, fun i H => ∃ xs, SqT K H a xs ∧ xs.length ≤ i⟩
/-- lo, lo + 1, .. (n of them) -/
def Itr (lo : Int) (n : Nat) : It := ⟨fun i _ => i < n, fun i H x H' => H' = H ∧ x = .int (lo + i), fun i _ => n ≤ i⟩
theorem turn_list {P : Program} {w : World} {K : PySem.W.Frag} {tg : Expr} (a it : Addr) : Turn P w K tg (Itl K a) [it] it (fun i h => h.IsListIter it a i) where
  mem := by simp
  obj := fun i h st b hb => by
    have e : b = it := by simpa using hb
    subst e
    obtain ⟨o, e, c, d⟩ := st
    exact ⟨o, e, fun v z => by rw [d] at z; cases z⟩
  keep := fun i h h' st k => st.at fun o e => k it (by simp) o e
  item := by
    intro X hP hw hK hc i pins s σ H E I hf st hg
    subst hP hw hK
    obtain ⟨xs, x, hq, hx⟩ := hg
    obtain ⟨its, rv, p, hz⟩ := I.list hq
    obtain ⟨u, hu, ru⟩ := rv.get hx
    obtain ⟨f0, f1, f2, f3, f4, f5⟩ := hf it (by simp)
    refine wpAny_pyNext_list_item st p.isList (x := u) (by simpa using hu) fun h' st' sb => ?_
    have I1 : Inv X pins σ H { s with heap := h' } := I.turned (t' := s.toks) (fun b o hb e => (sb.2 b hb).trans e) f0 f1 f3 f4 f5
    obtain ⟨o, e, c, d⟩ := id st'
    exact ⟨u, rfl, go_of (s := { s with heap := h' }) e c d (by decide) ⟨x, H, I1, ru, ⟨rfl, fun ys hy => by rw [I.list_inj hy hq]; exact hx⟩, st', fun b hb => (hf b hb).1⟩⟩
  done := by
    intro X hP hw hK hc i pins s σ H E I hf st hg
    subst hP hw hK
    obtain ⟨xs, hq, hx⟩ := hg
    obtain ⟨its, rv, p, hz⟩ := I.list hq
    obtain ⟨f0, f1, f2, f3, f4, f5⟩ := hf it (by simp)
    have hl := rv.length
    exact wpAny_pyNext_list_end (I.ok.hd hc) st p.isList (by simp; omega) fun h' eb => ⟨rfl, I.turned (t' := s.toks) (fun b o hb e => eb b o hb e) f0 f1 f3 f4 f5⟩
  self := fun _ _ _ _ _ st h => wpAny_pyIter_listiter st h
theorem turn_tuple {P : Program} {w : World} {K : PySem.W.Frag} {tg : Expr} (a it : Addr) : Turn P w K tg (Itt K a) [it] it (fun i h => h.IsTupleIter it a i) where
  mem := by simp
  obj := fun i h st b hb => by
    have e : b = it := by simpa using hb
    subst e
    obtain ⟨o, e, c, d⟩ := st
    exact ⟨o, e, fun v z => by rw [d] at z; cases z⟩
  keep := fun i h h' st k => st.at fun o e => k it (by simp) o e
  item := by
    intro X hP hw hK hc i pins s σ H E I hf st hg
    subst hP hw hK
    obtain ⟨xs, x, hq, hx⟩ := hg
    obtain ⟨its, rv, p, hz⟩ := I.tuple hq
    obtain ⟨u, hu, ru⟩ := rv.get hx
    obtain ⟨f0, f1, f2, f3, f4, f5⟩ := hf it (by simp)
    refine wpAny_pyNext_tuple_item st (show s.heap.IsTuple a its.toArray from p) (x := u) (by simpa using hu) fun h' st' sb => ?_
    have I1 : Inv X pins σ H { s with heap := h' } := I.turned (t' := s.toks) (fun b o hb e => (sb.2 b hb).trans e) f0 f1 f3 f4 f5
    obtain ⟨o, e, c, d⟩ := id st'
    exact ⟨u, rfl, go_of (s := { s with heap := h' }) e c d (by decide) ⟨x, H, I1, ru, ⟨rfl, fun ys hy => by rw [I.tuple_inj hy hq]; exact hx⟩, st', fun b hb => (hf b hb).1⟩⟩
  done := by
    intro X hP hw hK hc i pins s σ H E I hf st hg
    subst hP hw hK
    obtain ⟨xs, hq, hx⟩ := hg
    obtain ⟨its, rv, p, hz⟩ := I.tuple hq
    obtain ⟨f0, f1, f2, f3, f4, f5⟩ := hf it (by simp)
    have hl := rv.length
    exact wpAny_pyNext_tuple_end (I.ok.hd hc) st (show s.heap.IsTuple a its.toArray from p) (by simp; omega) fun h' eb => ⟨rfl, I.turned (t' := s.toks) (fun b o hb e => eb b o hb e) f0 f1 f3 f4 f5⟩
  self := fun _ _ _ _ _ st h => wpAny_pyIter_tupleiter st h
theorem turn_range {P : Program} {w : World} {K : PySem.W.Frag} {tg : Expr} (it : Addr) (lo : Int) (n : Nat) : Turn P w K tg (Itr lo n) [it] it (fun i h => IsRangeIter h it (lo + (i : Nat) * 1) ((n : Int) - (i : Nat)) 1) where
  mem := by simp
  obj := fun i h st b hb => by
    have e : b = it := by simpa using hb
    subst e
    exact ⟨_, st, fun v z => by
      have z' : Data.fields _ = Data.cell v := z
      cases z'⟩
  keep := fun i h h' st k => k it (by simp) _ st
  item := by
    intro X hP hw hK hc i pins s σ H E I hf st hg
    subst hP hw hK
    obtain ⟨f0, f1, f2, f3, f4, f5⟩ := hf it (by simp)
    have W := Walks.range (prog := X.prog) (w := X.w) (I.ok.hd hc) it lo 1 n
    refine W.item i s _ _ hg st fun v h' tk hv st' kk => ?_
    obtain ⟨t, rfl⟩ := hv
    have I1 : Inv X pins σ H { s with heap := h', toks := tk } := I.turned (fun b o hb e => kk b o (by simpa using hb) e) f0 f1 f3 f4 f5
    refine ⟨_, rfl, go_of (s := { s with heap := h', toks := tk }) (n := "range_iterator") st' rfl rfl (by decide) ⟨.int (lo + i), H, I1, ⟨t, ?_⟩, ⟨rfl, rfl⟩, st', fun b hb => (hf b hb).1⟩⟩
    rw [Int.mul_one]
  done := by
    intro X hP hw hK hc i pins s σ H E I hf st hg
    subst hP hw hK
    obtain ⟨f0, f1, f2, f3, f4, f5⟩ := hf it (by simp)
    exact wpAny_pyNext_range_end (I.ok.hd hc) st (by have : n ≤ i := hg; omega) fun h' eb => ⟨rfl, I.turned (t' := s.toks) (fun b o hb e => eb b o hb e) f0 f1 f3 f4 f5⟩
  self := fun _ _ _ _ _ st h => wpAny_pyIter_rangeiter st h
end L2

namespace L2
open PySem PySem.Spec PyProof.Rows
section
variable {X : Cx} {tg : Expr}
def iList (K : PySem.W.Frag) (tl : TE) : TI := fun σ H R => tl σ H fun x H1 => ∃ a, x = .ref a ∧ (∃ xs, SqL K H1 a xs) ∧ R (Itl K a) H1
def iTup (K : PySem.W.Frag) (tl : TE) : TI := fun σ H R => tl σ H fun x H1 => ∃ a, x = .ref a ∧ (∃ xs, SqT K H1 a xs) ∧ R (Itt K a) H1
theorem pi_list {l : Expr} {tl : TE} (hl : PE X l tl) : PI X tg l (iList X.K tl) := by
  intro pins s σ H R I h
  refine thn (hl pins s σ H _ I h) fun v s1 ⟨x, H1, I1, r1, q1⟩ => ?_
  obtain ⟨a, e, ⟨xs, hq⟩, q⟩ := q1
  subst e
  cases r1
  obtain ⟨its, rv, p, hz⟩ := I1.list hq
  refine wpAny_pyIter_list p.isList ?_
  refine ⟨s1.heap.objs.size, [s1.heap.objs.size], _, _, H1, rfl, I1.kept (t' := s1.toks) fun b o e => Heap.get?_push_of_some _ e, turn_list a _, ⟨_, Heap.get?_push_size _ rfl, rfl, rfl⟩, fun b hb => ?_, q⟩
  have e : b = s1.heap.objs.size := by simpa using hb
  subst e
  exact I1.fpOk (Nat.le_refl _) (I1.hok.fresh (Nat.le_refl _))
theorem pi_tup {l : Expr} {tl : TE} (hl : PE X l tl) : PI X tg l (iTup X.K tl) := by
  intro pins s σ H R I h
  refine thn (hl pins s σ H _ I h) fun v s1 ⟨x, H1, I1, r1, q1⟩ => ?_
  obtain ⟨a, e, ⟨xs, hq⟩, q⟩ := q1
  subst e
  cases r1
  obtain ⟨its, rv, p, hz⟩ := I1.tuple hq
  refine wpAny_pyIter_tuple (show s1.heap.IsTuple a its.toArray from p) ?_
  refine ⟨s1.heap.objs.size, [s1.heap.objs.size], _, _, H1, rfl, I1.kept (t' := s1.toks) fun b o e => Heap.get?_push_of_some _ e, turn_tuple a _, ⟨_, Heap.get?_push_size _ rfl, rfl, rfl⟩, fun b hb => ?_, q⟩
  have e : b = s1.heap.objs.size := by simpa using hb
  subst e
  exact I1.fpOk (Nat.le_refl _) (I1.hok.fresh (Nat.le_refl _))
/-- a range object just made, walked -/
theorem range_it {pins : List (Addr × Obj)} {σ : St} {H : Hp} {s : Shared} {R : It → Hp → Prop} {E : Value → Shared → Prop} {lo hi : Int} {t u v : Tok} {tk : Nat} (I : Inv X pins σ H s) (h1 : -(2 ^ 62) ≤ lo) (h2 : lo < 2 ^ 62) (h3 : -(2 ^ 62) ≤ hi) (h4 : hi < 2 ^ 62)
    (q : R (Itr lo (hi - lo).toNat) H) : wpAny (model X.prog X.w) X.A (pyIter (.ref s.heap.objs.size)) (PIE X pins σ tg R) E { s with heap := s.heap.push { cls := .type "range", data := .fields #[.int lo t, .int hi u, .int 1 v] }, toks := tk } := by
  refine wpAny_pyIter_range (IsRange.new ..) (small_one h1 h2 h3 h4) ?_
  have I1 : Inv X pins σ H { s with heap := s.heap.push { cls := .type "range", data := .fields #[.int lo t, .int hi u, .int 1 v] }, toks := tk } := I.kept fun b o e => Heap.get?_push_of_some _ e
  refine ⟨(s.heap.push { cls := .type "range", data := .fields #[.int lo t, .int hi u, .int 1 v] }).objs.size, [(s.heap.push { cls := .type "range", data := .fields #[.int lo t, .int hi u, .int 1 v] }).objs.size], _, _, H, rfl,
    I1.kept (t' := tk) fun b o e => Heap.get?_push_of_some _ e, turn_range _ lo (hi - lo).toNat, ?_, fun b hb => ?_, q⟩
  · have e1 : lo + ((0 : Nat) : Int) * 1 = lo := by simp
    have e2 : (((hi - lo).toNat : Nat) : Int) - ((0 : Nat) : Int) = Builtin.Range.rangeSize lo hi 1 := by rw [rangeSize_one]; split <;> omega
    show IsRangeIter _ _ (lo + ((0 : Nat) : Int) * 1) ((((hi - lo).toNat : Nat) : Int) - ((0 : Nat) : Int)) 1
    rw [e1, e2]
    exact Heap.get?_push_size _ rfl
  · have e : b = (s.heap.push { cls := .type "range", data := .fields #[.int lo t, .int hi u, .int 1 v] }).objs.size := by simpa using hb
    subst e
    exact I1.fpOk (Nat.le_refl _) (I1.hok.fresh (Nat.le_refl _))
def iRng1 (ta : TA) : TI := fun σ H R => ta σ H fun vs H1 => ∃ j : Int, vs = [.int j] ∧ -(2 ^ 62) ≤ j ∧ j < 2 ^ 62 ∧ R (Itr 0 j.toNat) H1
def iRng2 (ta : TA) : TI := fun σ H R => ta σ H fun vs H1 => ∃ i j : Int, vs = [.int i, .int j] ∧ (-(2 ^ 62) ≤ i ∧ i < 2 ^ 62 ∧ -(2 ^ 62) ≤ j ∧ j < 2 ^ 62) ∧ R (Itr i (j - i).toNat) H1
theorem pi_range1 {a : Expr} {ta : TA} {p pos : Pos} (hg : Gl X "range") (hm : X.mg "range" = none) (ha : PA X [a] ta) (hs : starEach [a] X.env = [(false, eval a X.env)] := by rfl) : PI X tg (.Call (.Name "range" p) [a] [] pos) (iRng1 ta) := by
  intro pins s σ H R I h
  refine Call_ (ld_blt I hg hm boot_range (PyProof.Rows.callWith_type1 (thn (ha pos pins s σ H _ I h) fun us s1 ⟨vs, H1, I1, r1, q1⟩ => ?_) hs rfl))
  obtain ⟨j, e, q1, q2, q⟩ := q1
  subst e
  cases r1 with
  | cons r rr =>
    cases rr
    obtain ⟨t, rfl⟩ := r
    exact call_range_1 (range_it I1 (by omega) (by omega) q1 q2 (by simpa using q))
theorem pi_range2 {a b : Expr} {ta : TA} {p pos : Pos} (hg : Gl X "range") (hm : X.mg "range" = none) (ha : PA X [a, b] ta) (hs : starEach [a, b] X.env = [(false, eval a X.env), (false, eval b X.env)] := by rfl) (hs2 : starEach [b] X.env = [(false, eval b X.env)] := by rfl) :
    PI X tg (.Call (.Name "range" p) [a, b] [] pos) (iRng2 ta) := by
  intro pins s σ H R I h
  refine Call_ (ld_blt I hg hm boot_range (PyProof.Rows.callWith_type1 (thn (ha pos pins s σ H _ I h) fun us s1 ⟨vs, H1, I1, r1, q1⟩ => ?_) (by rw [hs, hs2]) (by rw [hs2]; rfl)))
  obtain ⟨i, j, e, ⟨q1, q2, q3, q4⟩, q⟩ := q1
  subst e
  cases r1 with
  | cons r rr =>
    cases rr with
    | cons r' rr =>
      cases rr
      obtain ⟨t, rfl⟩ := r
      obtain ⟨t', rfl⟩ := r'
      exact call_range_2 (range_it I1 q1 q2 q3 q4 q)

/-! ### for -/
/-- W: the invariant by the turn and a measure; N: what the body is to reach -/
def tFor (wi : TI) (g : TG) (tb : TS) : TS := fun D σ H => wi σ H fun J H1 => ∃ W : Nat → Nat → St → Hp → Prop, (∃ m, W 0 m σ H1) ∧ ∀ i m σ H, W i m σ H →
  (J.stop i H ∧ D.nx σ H) ∨ (J.go i H ∧ ∃ N : St → Hp → Prop, (∀ σ' H', N σ' H' → ∃ m', m' < m ∧ W (i + 1) m' σ' H') ∧ ∀ x H', J.yld i H x H' → g x σ H' fun σ2 H2 => tb { D with nx := N, ct := N, bk := D.nx } σ2 H2)
/-- the records at fp as they stand -/
def pinsAt (fp : List Addr) (h : Heap) : List (Addr × Obj) := fp.filterMap fun b => (h.get? b).map fun o => (b, o)
theorem mem_pinsAt {fp : List Addr} {h : Heap} {b : Addr} {o : Obj} (hb : b ∈ fp) (e : h.get? b = some o) : (b, o) ∈ pinsAt fp h := List.mem_filterMap.mpr ⟨b, hb, by rw [e]; rfl⟩
theorem of_pinsAt {fp : List Addr} {h : Heap} {p : Addr × Obj} (hp : p ∈ pinsAt fp h) : p.1 ∈ fp ∧ h.get? p.1 = some p.2 := by
  obtain ⟨b, hb, e⟩ := List.mem_filterMap.mp hp
  cases q : h.get? b with
  | none => rw [q] at e; cases e
  | some o =>
    rw [q] at e
    have e' : (b, o) = p := Option.some.inj e
    subst e'
    exact ⟨hb, q⟩
theorem Inv.pinned {pins : List (Addr × Obj)} {σ : St} {H : Hp} {s : Shared} {fp : List Addr} (I : Inv X pins σ H s) (hf : ∀ b ∈ fp, FpOk X pins H b) (ho : ∀ b ∈ fp, ∃ o, s.heap.get? b = some o ∧ ∀ v, o.data ≠ .cell v) : Inv X (pins ++ pinsAt fp s.heap) σ H s :=
  I.pins_of fun p hp => (List.mem_append.mp hp).elim (fun z => I.pin p (List.mem_append_right _ z)) fun z => by
    obtain ⟨hb, e⟩ := of_pinsAt z
    obtain ⟨f0, f1, f2, _⟩ := hf p.1 hb
    obtain ⟨o, e', d⟩ := ho p.1 hb
    rw [e] at e'; cases e'
    exact ⟨e, f0, f1, f2, d⟩
theorem Inv.unpinned {pins pl : List (Addr × Obj)} {σ : St} {H : Hp} {s : Shared} (I : Inv X (pins ++ pl) σ H s) : Inv X pins σ H s := I.pins_of fun p hp => I.pin p (List.mem_append_right _ (List.mem_append_left _ hp))
theorem ps_for {iter : Expr} {body : List Stmt} {wi : TI} {g : TG} {tb : TS} {pos : Pos} (hp : PassesOwn (model X.prog X.w) X.A X.env X.xe) (hc : X.calm = true) (hi : PI X tg iter wi) (hg : PG X tg g) (hb : PSs X body tb)
    (hs : ∀ x, foldedSetIterable iter X.env x = pure x := by intro _; rfl) : PS X (.For tg iter body [] pos) (tFor wi g tb) := by
  intro pins s σ H D I h
  refine wpAny_For (thn (hi pins s σ H _ I h) fun v s1 h1 => thn h1 fun itv s2 h2 => ?_) hs
  obtain ⟨it, fp, tn, J, H2, e, I2, T, st2, f2, W, ⟨m0, w0⟩, turn⟩ := h2
  subst e
  -- what stays true of the iterator's objects through the loop
  have stat : ∀ {H' : Hp}, (∀ b ∈ fp, H' b = none) → ∀ b ∈ fp, FpOk X pins H' b := fun hn b hb => ⟨hn b hb, (f2 b hb).2⟩
  refine codeAny_forLoop_any (fun n s' => ∃ i σ' H', Inv X pins σ' H' s' ∧ tn i s'.heap ∧ (∀ b ∈ fp, H' b = none) ∧ W i n σ' H') ?_ m0 ⟨0, σ, H2, I2, st2, fun b hb => (f2 b hb).1, w0⟩
  rintro n s3 ⟨i, σ3, H3, I3, st3, fr3, w3⟩
  rcases turn i n σ3 H3 w3 with ⟨stop, qn⟩ | ⟨go, N, hN, step⟩
  · refine wpAny_passesOwn hp (thn (T.done X rfl rfl rfl hc i pins s3 σ3 H3 X.xe I3 (stat fr3) st3 stop) fun r s4 ⟨hr, I4⟩ => ?_)
    subst hr
    exact wpAny_execs_nil ⟨σ3, H3, I4, qn⟩
  · refine wpAny_passesOwn hp (thn (T.item X rfl rfl rfl hc i pins s3 σ3 H3 X.xe I3 (stat fr3) st3 go) fun r s4 ⟨u, hr, h4⟩ => ?_)
    subst hr
    refine wpAny_passesOwn hp (thn h4 fun _ s5 ⟨x, H5, I5, r5, y5, st5, fr5⟩ => ?_)
    have I5' := I5.pinned (stat fr5) (T.obj _ _ st5)
    refine wpAny_passesOwn hp (thn (hg _ s5 σ3 H5 x u _ I5' r5 (step x H5 y5)) fun _ s6 ⟨σ6, H6, I6, q6⟩ => ?_)
    refine wpAny_passesOwn hp (thn (hb _ s6 σ6 H6 _ I6 q6) fun f s7 q7 => ?_)
    have again : ∀ {σ7 : St} {H7 : Hp}, Inv X (pins ++ pinsAt fp s5.heap) σ7 H7 s7 → N σ7 H7 → ∃ m, m < n ∧ ∃ i σ' H', Inv X pins σ' H' s7 ∧ tn i s7.heap ∧ (∀ b ∈ fp, H' b = none) ∧ W i m σ' H' := fun {σ7 H7} I7 n7 => by
      obtain ⟨m', hm, w7⟩ := hN σ7 H7 n7
      refine ⟨m', hm, i + 1, σ7, H7, I7.unpinned, T.keep _ _ _ st5 fun b hb o e => (I7.pin (b, o) (List.mem_append_right _ (List.mem_append_right _ (mem_pinsAt hb e)))).1, fun b hb => ?_, w7⟩
      obtain ⟨o, e, d⟩ := T.obj _ _ st5 b hb
      exact (I7.pin (b, o) (List.mem_append_right _ (List.mem_append_right _ (mem_pinsAt hb e)))).2.1
    cases f with
    | next => obtain ⟨σ7, H7, I7, n7⟩ := q7; exact again I7 n7
    | cont => obtain ⟨σ7, H7, I7, n7⟩ := q7; exact again I7 n7
    | brk => obtain ⟨σ7, H7, I7, q7⟩ := q7; exact ⟨σ7, H7, I7.unpinned, q7⟩
    | ret v => obtain ⟨x7, σ7, H7, I7, r7, q7⟩ := q7; exact ⟨x7, σ7, H7, I7.unpinned, r7, q7⟩
end

/-! ### the forms one uses -/
/-- over a list that the body leaves as it is -/
theorem for_list {K : PySem.W.Frag} {a : Addr} {xs : List V} {g : TG} {tb : TS} {D : Ends} {σ : St} {H : Hp} (Pv : Nat → St → Hp → Prop) (h0 : Pv 0 σ H) (hl : ∀ i σ H, i ≤ xs.length → Pv i σ H → SqL K H a xs)
    (hs : ∀ i x σ H, xs[i]? = some x → Pv i σ H → g x σ H fun σ2 H2 => tb { D with nx := Pv (i + 1), ct := Pv (i + 1), bk := D.nx } σ2 H2) (hd : ∀ σ H, Pv xs.length σ H → D.nx σ H) :
    ∃ W : Nat → Nat → St → Hp → Prop, (∃ m, W 0 m σ H) ∧ ∀ i m σ H, W i m σ H →
      ((Itl K a).stop i H ∧ D.nx σ H) ∨ ((Itl K a).go i H ∧ ∃ N : St → Hp → Prop, (∀ σ' H', N σ' H' → ∃ m', m' < m ∧ W (i + 1) m' σ' H') ∧ ∀ x H', (Itl K a).yld i H x H' → g x σ H' fun σ2 H2 => tb { D with nx := N, ct := N, bk := D.nx } σ2 H2) := by
  refine ⟨fun i m σ H => m = xs.length - i ∧ i ≤ xs.length ∧ Pv i σ H, ⟨xs.length, by simp, Nat.zero_le _, h0⟩, ?_⟩
  rintro i m σ H ⟨rfl, hi, p⟩
  have q := hl i σ H hi p
  by_cases hlt : i < xs.length
  · refine .inr ⟨⟨xs, xs[i], q, by simp [hlt]⟩, Pv (i + 1), fun σ' H' p' => ⟨xs.length - (i + 1), by omega, rfl, hlt, p'⟩, fun x H' y => ?_⟩
    obtain ⟨e, y⟩ := y
    subst e
    exact hs i x σ _ (y xs q) p
  · have e : i = xs.length := by omega
    subst e
    exact .inl ⟨⟨xs, q, Nat.le_refl _⟩, hd σ H p⟩
theorem for_range {lo : Int} {n : Nat} {g : TG} {tb : TS} {D : Ends} {σ : St} {H : Hp} (Pv : Nat → St → Hp → Prop) (h0 : Pv 0 σ H)
    (hs : ∀ i σ H, i < n → Pv i σ H → g (.int (lo + i)) σ H fun σ2 H2 => tb { D with nx := Pv (i + 1), ct := Pv (i + 1), bk := D.nx } σ2 H2) (hd : ∀ σ H, Pv n σ H → D.nx σ H) :
    ∃ W : Nat → Nat → St → Hp → Prop, (∃ m, W 0 m σ H) ∧ ∀ i m σ H, W i m σ H →
      ((Itr lo n).stop i H ∧ D.nx σ H) ∨ ((Itr lo n).go i H ∧ ∃ N : St → Hp → Prop, (∀ σ' H', N σ' H' → ∃ m', m' < m ∧ W (i + 1) m' σ' H') ∧ ∀ x H', (Itr lo n).yld i H x H' → g x σ H' fun σ2 H2 => tb { D with nx := N, ct := N, bk := D.nx } σ2 H2) := by
  refine ⟨fun i m σ H => m = n - i ∧ i ≤ n ∧ Pv i σ H, ⟨n, by simp, Nat.zero_le _, h0⟩, ?_⟩
  rintro i m σ H ⟨rfl, hi, p⟩
  by_cases hlt : i < n
  · refine .inr ⟨hlt, Pv (i + 1), fun σ' H' p' => ⟨n - (i + 1), by omega, rfl, hlt, p'⟩, fun x H' y => ?_⟩
    obtain ⟨e, y⟩ := y
    subst e y
    exact hs i σ _ hlt p
  · have e : i = n := by omega
    subst e
    exact .inl ⟨Nat.le_refl _, hd σ H p⟩
end L2

namespace L2
open PySem PySem.Spec PyProof.Rows

abbrev R2 := V → V → Hp → VK → Prop
/-- a two-place operation on values: f is binaryOp op, inplaceOp op or compareOp op -/
def OpR (X : Cx) (f : Value → Value → Sem Value) (r : R2) : Prop :=
  ∀ (pins : List (Addr × Obj)) (s : Shared) (σ : St) (H : Hp) (x y : V) (v u : Value) (Q : VK), Inv X pins σ H s → RelV x v → RelV y u → r x y H Q →
    wpAny (model X.prog X.w) X.A (f v u) (EP X pins σ Q) X.xe s
/-- a one-place operation -/
def UnR (X : Cx) (f : Value → Sem Value) (r : V → Hp → VK → Prop) : Prop :=
  ∀ (pins : List (Addr × Obj)) (s : Shared) (σ : St) (H : Hp) (x : V) (v : Value) (Q : VK), Inv X pins σ H s → RelV x v → r x H Q →
    wpAny (model X.prog X.w) X.A (f v) (EP X pins σ Q) X.xe s
/-- a call of a value that is known (a builtin, a type) with values -/
def CallR (X : Cx) (f : Value) (r : List V → Hp → VK → Prop) : Prop :=
  ∀ (pins : List (Addr × Obj)) (s : Shared) (σ : St) (H : Hp) (xs : List V) (us : List Value) (Q : VK), Inv X pins σ H s → Vals xs us → r xs H Q →
    wpAny (model X.prog X.w) X.A (call f us) (EP X pins σ Q) X.xe s
/-- a value's truth -/
def TruR (X : Cx) (r : V → Hp → (Bool → Hp → Prop) → Prop) : Prop :=
  ∀ (pins : List (Addr × Obj)) (s : Shared) (σ : St) (H : Hp) (x : V) (v : Value) (Q : Bool → Hp → Prop), Inv X pins σ H s → RelV x v → r x H Q →
    wpAny (model X.prog X.w) X.A (truthy v) (TP X pins σ Q) X.xe s

def tOp (r : R2) (ta tb : TE) : TE := fun σ H Q => ta σ H fun x H1 => tb σ H1 fun y H2 => r x y H2 Q
def tUn (r : V → Hp → VK → Prop) (ta : TE) : TE := fun σ H Q => ta σ H fun x H1 => r x H1 Q
/-- ints in, under C, and a value out -/
def rI (C : Int → Int → Prop) (g : Int → Int → V) : R2 := fun x y H Q => ∃ i j, x = .int i ∧ y = .int j ∧ C i j ∧ Q (g i j) H
def rI0 (g : Int → Int → V) : R2 := fun x y H Q => ∃ i j, x = .int i ∧ y = .int j ∧ Q (g i j) H
def rU (g : Int → V) : V → Hp → VK → Prop := fun x H Q => ∃ i, x = .int i ∧ Q (g i) H

section
variable {X : Cx} {a b c : Expr} {ta tb tc : TE} {pos : Pos}

theorem binT (ha : PE X a ta) (hb : PE X b tb) {pins : List (Addr × Obj)} {s : Shared} {σ : St} {H : Hp} {R : V → V → Hp → Prop} (I : Inv X pins σ H s)
    (h : ta σ H fun x H1 => tb σ H1 fun y H2 => R x y H2) {Q : Value → Shared → Prop} {f : Value → Value → Sem Value}
    (hf : ∀ v u s2 x y H2, Inv X pins σ H2 s2 → RelV x v → RelV y u → R x y H2 → wpAny (model X.prog X.w) X.A (f v u) Q X.xe s2) :
    wpAny (model X.prog X.w) X.A (eval a X.env) (fun v s₁ => wpAny (model X.prog X.w) X.A (eval b X.env) (fun u s₂ => wpAny (model X.prog X.w) X.A (f v u) Q X.xe s₂) X.xe s₁) X.xe s := by
  refine thn (ha pins s σ H _ I h) fun v s1 ⟨x, H1, I1, r1, q1⟩ => ?_
  refine thn (hb pins s1 σ H1 _ I1 q1) fun u s2 ⟨y, H2, I2, r2, q2⟩ => ?_
  exact hf v u s2 x y H2 I2 r1 r2 q2

theorem pe_op {op : Operator} {r : R2} (ho : OpR X (binaryOp op) r) (ha : PE X a ta) (hb : PE X b tb) : PE X (.BinOp a op b pos) (tOp r ta tb) := by
  intro pins s σ H Q I h
  exact wpAny_BinOp (binT ha hb I h fun v u s2 x y H2 I2 rx ry q => ho pins s2 σ H2 x y v u Q I2 rx ry q)
theorem pe_un {op : UnaryOp} {r : V → Hp → VK → Prop} (ho : UnR X (unaryOp op) r) (ha : PE X a ta) : PE X (.UnaryOp op a pos) (tUn r ta) := by
  intro pins s σ H Q I h
  exact UnaryOp_ (thn (ha pins s σ H _ I h) fun v s1 ⟨x, H1, I1, r1, q1⟩ => ho pins s1 σ H1 x v Q I1 r1 q1)
/-! ### ints -/
theorem opI {f : Value → Value → Sem Value} {C : Int → Int → Prop} {g : Int → Int → Int}
    (rule : ∀ (i j : Int) (t u : Tok) (s : Shared) (Q : Value → Shared → Prop) (E : Value → Shared → Prop), C i j → Q (.int (g i j) s.toks) { s with toks := s.toks + 1 } → wpAny (model X.prog X.w) X.A (f (.int i t) (.int j u)) Q E s) :
    OpR X f (rI C fun i j => .int (g i j)) := by
  intro pins s σ H x y v u Q I rx ry h
  obtain ⟨i, j, rfl, rfl, hc, q⟩ := h
  obtain ⟨t, rfl⟩ := rx
  obtain ⟨t', rfl⟩ := ry
  exact rule i j t t' s _ _ hc ⟨.int (g i j), H, I.tok _, ⟨_, rfl⟩, q⟩
theorem opI0 {f : Value → Value → Sem Value} {g : Int → Int → Int}
    (rule : ∀ (i j : Int) (t u : Tok) (s : Shared) (Q : Value → Shared → Prop) (E : Value → Shared → Prop), Q (.int (g i j) s.toks) { s with toks := s.toks + 1 } → wpAny (model X.prog X.w) X.A (f (.int i t) (.int j u)) Q E s) :
    OpR X f (rI0 fun i j => .int (g i j)) := by
  intro pins s σ H x y v u Q I rx ry h
  obtain ⟨i, j, rfl, rfl, q⟩ := h
  obtain ⟨t, rfl⟩ := rx
  obtain ⟨t', rfl⟩ := ry
  exact rule i j t t' s _ _ ⟨.int (g i j), H, I.tok _, ⟨_, rfl⟩, q⟩
theorem opB0 {f : Value → Value → Sem Value} {g : Int → Int → Bool}
    (rule : ∀ (i j : Int) (t u : Tok) (s : Shared) (Q : Value → Shared → Prop) (E : Value → Shared → Prop), Q (.bool (g i j)) s → wpAny (model X.prog X.w) X.A (f (.int i t) (.int j u)) Q E s) :
    OpR X f (rI0 fun i j => .bl (g i j)) := by
  intro pins s σ H x y v u Q I rx ry h
  obtain ⟨i, j, rfl, rfl, q⟩ := h
  obtain ⟨t, rfl⟩ := rx
  obtain ⟨t', rfl⟩ := ry
  exact rule i j t t' s _ _ ⟨.bl (g i j), H, I, rfl, q⟩

def CDiv (i j : Int) : Prop := 0 < j ∧ j < 1073741824
def CPow (i j : Int) : Prop := 0 ≤ j ∧ j ≤ 1000000 ∧ i.natAbs < 2 ^ 64
def CMul (i j : Int) : Prop := (-(2 ^ 64) < i ∧ i < 2 ^ 64) ∨ (-(2 ^ 64) < j ∧ j < 2 ^ 64)
theorem CMul.ok {i j : Int} (h : CMul i j) : IntMulOk i j := by
  rcases h with ⟨h1, h2⟩ | ⟨h1, h2⟩
  · exact .of_left (intBits_le_64 h1 h2)
  · exact .of_right (intBits_le_64 h1 h2)
theorem op_add : OpR X (binaryOp .Add) (rI0 fun i j => .int (i + j)) := opI0 fun _ _ _ _ _ _ _ q => add_int q
theorem op_sub : OpR X (binaryOp .Sub) (rI0 fun i j => .int (i - j)) := opI0 fun _ _ _ _ _ _ _ q => sub_int q
theorem op_mul : OpR X (binaryOp .Mult) (rI CMul fun i j => .int (i * j)) := opI fun _ _ _ _ _ _ _ hc q => mul_int q hc.ok
/-- // by a positive divisor -/
theorem op_fdiv : OpR X (binaryOp .FloorDiv) (rI CDiv fun i j => .int (i / j)) := opI fun i j _ _ _ _ _ hc q => by
  have h1 : (0 : Int) < j := hc.1
  have h2 : j < 1073741824 := hc.2
  exact floordiv_int (by omega) (by rw [Int.fdiv_eq_ediv_of_nonneg i (by omega)]; exact q) (.inl (PyProof.noPylong_small (by omega)))
/-- % by a positive divisor of any size -/
theorem op_mod : OpR X (binaryOp .Mod) (rI (fun _ j => 0 < j) fun i j => .int (i % j)) := opI fun i j _ _ _ _ _ hc q => by
  have h1 : (0 : Int) < j := hc
  exact mod_int' (by omega) (by rw [Int.fmod_eq_emod_of_nonneg i (by omega)]; exact q)
theorem op_pow : OpR X (binaryOp .Pow) (rI CPow fun i j => .int (i ^ j.toNat)) := opI fun _ _ _ _ _ _ _ hc q => pow_int_small hc.1 hc.2.1 hc.2.2 q
theorem unI {f : Value → Sem Value} {g : Int → Int}
    (rule : ∀ (i : Int) (t : Tok) (s : Shared) (Q : Value → Shared → Prop) (E : Value → Shared → Prop), Q (.int (g i) s.toks) { s with toks := s.toks + 1 } → wpAny (model X.prog X.w) X.A (f (.int i t)) Q E s) :
    UnR X f (rU fun i => .int (g i)) := by
  intro pins s σ H x v Q I rx h
  obtain ⟨i, rfl, q⟩ := h
  obtain ⟨t, rfl⟩ := rx
  exact rule i t s _ _ ⟨.int (g i), H, I.tok _, ⟨_, rfl⟩, q⟩
theorem un_neg : UnR X (unaryOp .USub) (rU fun i => .int (-i)) := unI fun _ _ _ _ _ q => neg_int q
/-! ### bools among ints: n += (a < b) -/
end

/-! ### comparisons -/
/-- the scalars that == tells apart as data does -/
def scal : V → V → Bool
  | .non, .non => true | .non, .int _ => true | .int _, .non => true | .non, .bl _ => true | .bl _, .non => true | .non, .str _ => true | .str _, .non => true
  | .int _, .int _ => true | .bl _, .bl _ => true | .str _, .str _ => true | .byt _, .byt _ => true
  | .int _, .str _ => true | .str _, .int _ => true | .bl _, .str _ => true | .str _, .bl _ => true
  | _, _ => false
def rEq : R2 := fun x y H Q => scal x y = true ∧ Q (.bl (decide (x = y))) H
def rNe : R2 := fun x y H Q => scal x y = true ∧ Q (.bl (!decide (x = y))) H

theorem dec_int {i j : Int} : decide (V.int i = V.int j) = (i == j) := by
  rw [Bool.eq_iff_iff]
  simp
theorem dec_bl {i j : Bool} : decide (V.bl i = V.bl j) = (i == j) := by
  rw [Bool.eq_iff_iff]
  simp
theorem dec_str {i j : Str} : decide (V.str i = V.str j) = (i == j) := by
  rw [Bool.eq_iff_iff]
  simp
theorem dec_byt {i j : Array UInt8} : decide (V.byt i = V.byt j) = (i.toList == j.toList) := by
  rw [Bool.eq_iff_iff]
  cases i
  cases j
  simp

section
variable {X : Cx} {a b c : Expr} {ta tb tc : TE} {pos : Pos}
theorem fin_bl {pins : List (Addr × Obj)} {σ : St} {H : Hp} {s : Shared} {Q : VK} {k k' : Bool} (I : Inv X pins σ H s) (q : Q (.bl k) H) (e : k = k') : EP X pins σ Q (.bool k') s := by
  subst e
  exact ⟨.bl k, H, I, rfl, q⟩
theorem op_eq : OpR X (compareOp .Eq) rEq := by
  intro pins s σ H x y v u Q I rx ry h
  obtain ⟨hs, q⟩ := h
  cases x with
  | non =>
    cases rx
    cases y with
    | non => cases ry; exact PySem.EqNone.eq_none_none (fin_bl I q (by simp))
    | bl j => cases ry; exact PySem.EqNone.eq_none_bool (fin_bl I q (by simp))
    | int j => obtain ⟨t', rfl⟩ := ry; exact PySem.EqNone.eq_none_int (fin_bl I q (by simp))
    | str j => obtain ⟨t', rfl⟩ := ry; exact PySem.EqNone.eq_none_str (fin_bl I q (by simp))
    | _ => exact absurd (show false = true from hs) Bool.false_ne_true
  | bl i =>
    cases rx
    cases y with
    | non => cases ry; exact PySem.EqNone.eq_bool_none (fin_bl I q (by simp))
    | bl j => cases ry; exact eq_bool (fin_bl I q dec_bl)
    | str j => obtain ⟨t', rfl⟩ := ry; exact PySem.EqMixed.eq_bool_str (fin_bl I q (by simp))
    | _ => exact absurd (show false = true from hs) Bool.false_ne_true
  | int i =>
    obtain ⟨t, rfl⟩ := rx
    cases y with
    | non => cases ry; exact PySem.EqNone.eq_int_none (fin_bl I q (by simp))
    | int j => obtain ⟨t', rfl⟩ := ry; exact eq_int (fin_bl I q dec_int)
    | str j => obtain ⟨t', rfl⟩ := ry; exact PySem.EqMixed.eq_int_str (fin_bl I q (by simp))
    | _ => exact absurd (show false = true from hs) Bool.false_ne_true
  | str i =>
    obtain ⟨t, rfl⟩ := rx
    cases y with
    | non => cases ry; exact PySem.EqNone.eq_str_none (fin_bl I q (by simp))
    | bl j => cases ry; exact PySem.EqMixed.eq_str_bool (fin_bl I q (by simp))
    | int j => obtain ⟨t', rfl⟩ := ry; exact PySem.EqMixed.eq_str_int (fin_bl I q (by simp))
    | str j => obtain ⟨t', rfl⟩ := ry; exact eq_str (fin_bl I q dec_str)
    | _ => exact absurd (show false = true from hs) Bool.false_ne_true
  | byt i =>
    obtain ⟨t, rfl⟩ := rx
    cases y with
    | byt j => obtain ⟨t', rfl⟩ := ry; exact PySem.W.eq_bytes (fin_bl I q dec_byt)
    | _ => exact absurd (show false = true from hs) Bool.false_ne_true
  | _ => cases y <;> exact absurd (show false = true from hs) Bool.false_ne_true
theorem op_ne : OpR X (compareOp .NotEq) rNe := by
  intro pins s σ H x y v u Q I rx ry h
  obtain ⟨hs, q⟩ := h
  cases x with
  | non =>
    cases rx
    cases y with
    | non => cases ry; exact PySem.EqNone.ne_none_none (fin_bl I q (by simp))
    | bl j => cases ry; exact PySem.EqNone.ne_none_bool (fin_bl I q (by simp))
    | int j => obtain ⟨t', rfl⟩ := ry; exact PySem.EqNone.ne_none_int (fin_bl I q (by simp))
    | str j => obtain ⟨t', rfl⟩ := ry; exact PySem.EqNone.ne_none_str (fin_bl I q (by simp))
    | _ => exact absurd (show false = true from hs) Bool.false_ne_true
  | bl i =>
    cases rx
    cases y with
    | non => cases ry; exact PySem.EqNone.ne_bool_none (fin_bl I q (by simp))
    | bl j => cases ry; exact ne_bool (fin_bl I q (congrArg not dec_bl))
    | str j => obtain ⟨t', rfl⟩ := ry; exact PySem.EqMixed.ne_bool_str (fin_bl I q (by simp))
    | _ => exact absurd (show false = true from hs) Bool.false_ne_true
  | int i =>
    obtain ⟨t, rfl⟩ := rx
    cases y with
    | non => cases ry; exact PySem.EqNone.ne_int_none (fin_bl I q (by simp))
    | int j => obtain ⟨t', rfl⟩ := ry; exact ne_int (fin_bl I q (congrArg not dec_int))
    | str j => obtain ⟨t', rfl⟩ := ry; exact PySem.EqMixed.ne_int_str (fin_bl I q (by simp))
    | _ => exact absurd (show false = true from hs) Bool.false_ne_true
  | str i =>
    obtain ⟨t, rfl⟩ := rx
    cases y with
    | non => cases ry; exact PySem.EqNone.ne_str_none (fin_bl I q (by simp))
    | bl j => cases ry; exact PySem.EqMixed.ne_str_bool (fin_bl I q (by simp))
    | int j => obtain ⟨t', rfl⟩ := ry; exact PySem.EqMixed.ne_str_int (fin_bl I q (by simp))
    | str j => obtain ⟨t', rfl⟩ := ry; exact ne_str (fin_bl I q (congrArg not dec_str))
    | _ => exact absurd (show false = true from hs) Bool.false_ne_true
  | byt i =>
    obtain ⟨t, rfl⟩ := rx
    cases y with
    | byt j => obtain ⟨t', rfl⟩ := ry; exact PySem.W.ne_bytes (fin_bl I q (congrArg not dec_byt))
    | _ => exact absurd (show false = true from hs) Bool.false_ne_true
  | _ => cases y <;> exact absurd (show false = true from hs) Bool.false_ne_true

theorem op_lt : OpR X (compareOp .Lt) (rI0 fun i j => .bl (decide (i < j))) := opB0 fun _ _ _ _ _ _ _ q => lt_int q
theorem op_gt : OpR X (compareOp .Gt) (rI0 fun i j => .bl (decide (j < i))) := opB0 fun _ _ _ _ _ _ _ q => gt_int q
theorem op_ge : OpR X (compareOp .GtE) (rI0 fun i j => .bl (decide (j ≤ i))) := opB0 fun _ _ _ _ _ _ _ q => ge_int q
theorem op_lt_str : OpR X (compareOp .Lt) (fun x y H Q => ∃ i j, x = .str i ∧ y = .str j ∧ Q (.bl (decide (i.cps.toList < j.cps.toList))) H) := by
  intro pins s σ H x y v u Q I rx ry h
  obtain ⟨i, j, rfl, rfl, q⟩ := h
  obtain ⟨t, rfl⟩ := rx
  obtain ⟨t', rfl⟩ := ry
  exact lt_str (fin_bl I q rfl)
/-- the one string within the other -/
theorem op_in_str : OpR X (compareOp .In) (fun x y H Q => ∃ i j, x = .str i ∧ y = .str j ∧ Q (.bl (!(Builtin.Str.occurrences j i 0 j.length 1).isEmpty)) H) := by
  intro pins s σ H x y v u Q I rx ry h
  obtain ⟨i, j, rfl, rfl, q⟩ := h
  obtain ⟨t, rfl⟩ := rx
  obtain ⟨t', rfl⟩ := ry
  exact in_str (fin_bl I q rfl)

theorem op_notN : OpR X (compareOp .IsNot) (fun x y H Q => y = .non ∧ Q (.bl (!decide (x = .non))) H) := by
  intro pins s σ H x y v u Q I rx ry h
  obtain ⟨rfl, q⟩ := h
  cases ry
  refine isnot_none_gen (fin_bl I q ?_)
  cases x <;> first
    | (cases rx; rfl)
    | (obtain ⟨t, rfl⟩ := rx; rfl)

/-- two rules for one operation: by cases -/
theorem OpR.or {f : Value → Value → Sem Value} {r r' : R2} (h : OpR X f r) (h' : OpR X f r') : OpR X f (fun x y H Q => r x y H Q ∨ r' x y H Q) := by
  intro pins s σ H x y v u Q I rx ry q
  rcases q with q | q
  · exact h pins s σ H x y v u Q I rx ry q
  · exact h' pins s σ H x y v u Q I rx ry q

theorem nomark (b : Expr) {op : CmpOp} (h : op ≠ .In := by decide) (h2 : op ≠ .NotIn := by decide) : behindInMarks op b = false := by
  have e1 : (op == CmpOp.In) = false := by cases op <;> first | rfl | exact absurd rfl h
  have e2 : (op == CmpOp.NotIn) = false := by cases op <;> first | rfl | exact absurd rfl h2
  cases b <;> simp [behindInMarks, e1, e2]
/-- a comparison as a value; hm: nomark b, or (for in, not in) by with_unfolding_all rfl -/
theorem pe_cmpR {op : CmpOp} {r : R2} (ho : OpR X (compareOp op) r) (ha : PE X a ta) (hb : PE X b tb) (hm : behindInMarks op b = false) : PE X (.Compare a [op] [b] pos) (tOp r ta tb) := by
  intro pins s σ H Q I h
  exact wpAny_Compare1 (binT ha hb I h fun v u s2 x y H2 I2 rx ry q => ho pins s2 σ H2 x y v u Q I2 rx ry q) hm
/-- a reading of a value as a test -/
def tTest (t : TE) : TT := fun σ H Q => t σ H fun x H' => ∃ k, x = .bl k ∧ Q k H'
theorem pt_cmpR {op : CmpOp} {r : R2} (ho : OpR X (compareOp op) r) (ha : PE X a ta) (hb : PE X b tb) (hm : behindInMarks op b = false) : PT X (.Compare a [op] [b] pos) (tTest (tOp r ta tb)) := by
  intro pins s σ H Q I h
  refine wpAny_isTrue_Compare1 (thn (ha pins s σ H _ I h) fun v s1 ⟨x, H1, I1, r1, q1⟩ => thn (hb pins s1 σ H1 _ I1 q1) fun u s2 ⟨y, H2, I2, r2, q2⟩ =>
    thn (ho pins s2 σ H2 x y v u _ I2 r1 r2 q2) fun c s3 ⟨z, H3, I3, r3, k, e, q3⟩ => ?_) hm
  subst e
  cases r3
  exact wpAny_truthy_bool ⟨H3, I3, q3⟩
/-! ### truth -/
/-- a value's truth by the abstract heap -/
def TruV (K : PySem.W.Frag) (x : V) (H : Hp) (k : Bool) : Prop :=
  match x with
  | .non => k = false
  | .bl b => k = b
  | .int i => k = (i != 0)
  | .str y => y.length ≤ sizeLine ∧ k = ((y.length : Int) != 0)
  | .byt y => y.size ≤ sizeLine ∧ k = ((y.size : Int) != 0)
  | .ref p => (∃ xs, SqL K H p xs ∧ k = !xs.isEmpty) ∨ (∃ xs, SqT K H p xs ∧ k = !xs.isEmpty) ∨ ∃ kvs, H p = some (.dK kvs) ∧ k = !kvs.isEmpty
  | _ => False
theorem isEmpty_kv {κ : Type} {kvs : List (κ × V)} {vs : List (κ × Value)} (r : KV kvs vs) : (!vs.isEmpty) = !kvs.isEmpty := by
  cases r <;> rfl
theorem isEmpty_of {xs : List V} {its : List Value} (r : Vals xs its) : (!its.toArray.isEmpty) = !xs.isEmpty := by
  cases r <;> simp
theorem line63 : (sizeLine : Nat) < 2 ^ 63 := by rw [sizeLine_eq]; decide
theorem tru_ok : TruR X (fun x H Q => ∃ k, TruV X.K x H k ∧ Q k H) := by
  intro pins s σ H x v Q I rx h
  obtain ⟨k, e, q⟩ := h
  have hl := line63
  have hs : sizeLine = 16777216 := sizeLine_eq
  cases x with
  | non =>
    cases rx
    have e' : k = false := e
    subst e'
    exact truthy_none ⟨H, I, q⟩
  | bl b =>
    cases rx
    have e' : k = b := e
    subst e'
    exact wpAny_truthy_bool ⟨H, I, q⟩
  | int i =>
    obtain ⟨t, rfl⟩ := rx
    have e' : k = (i != 0) := e
    subst e'
    exact PySem.P.truthy_int ⟨H, I, q⟩
  | str y =>
    obtain ⟨t, rfl⟩ := rx
    obtain ⟨hy, e'⟩ : y.length ≤ sizeLine ∧ k = ((y.length : Int) != 0) := e
    subst e'
    exact PySem.P.truthy_str (by omega) ⟨H, I.tok _, q⟩
  | byt y =>
    obtain ⟨t, rfl⟩ := rx
    obtain ⟨hy, e'⟩ : y.size ≤ sizeLine ∧ k = ((y.size : Int) != 0) := e
    subst e'
    exact PySem.W.truthy_bytes (by omega) ⟨H, I.tok _, q⟩
  | ref p =>
    cases rx
    have e' : (∃ xs, SqL X.K H p xs ∧ k = !xs.isEmpty) ∨ (∃ xs, SqT X.K H p xs ∧ k = !xs.isEmpty) ∨ ∃ kvs, H p = some (.dK kvs) ∧ k = !kvs.isEmpty := e
    rcases e' with ⟨xs, hx, e'⟩ | ⟨xs, hx, e'⟩ | ⟨kvs, hx, e'⟩
    · subst e'
      obtain ⟨its, r, pl, hz⟩ := I.list hx
      have hlen := r.length
      exact wpAny_truthy_list pl.isList (by simp only [List.size_toArray]; omega) ⟨H, I.tok _, by rw [isEmpty_of r]; exact q⟩
    · subst e'
      obtain ⟨its, r, pl, hz⟩ := I.tuple hx
      have hlen := r.length
      exact truthy_tuple pl (by simp only [List.size_toArray]; omega) ⟨H, I.tok _, by rw [isEmpty_of r]; exact q⟩
    · subst e'
      obtain ⟨hz, hS, vs, r, m⟩ : kvs.length ≤ sizeLine ∧ (p == sysModules) = false ∧ ∃ vs, KV kvs vs ∧ s.heap.DictOf (mixKind X.prog X.w) p vs := I.hok p _ hx
      have hlen : kvs.length = vs.length := Paired.length r
      exact wpAny_truthy_dict hS m (by omega) ⟨H, I.tok _, by rw [isEmpty_kv r]; exact q⟩
  | _ => exact (show False from e).elim
/-! ### strs and bytes -/
theorem op_add_str : OpR X (binaryOp .Add) (fun x y H Q => ∃ i j, x = .str i ∧ y = .str j ∧ i.length + j.length ≤ sizeLine ∧ Q (.str (i ++ j)) H) := by
  intro pins s σ H x y v u Q I rx ry h
  obtain ⟨i, j, rfl, rfl, hz, q⟩ := h
  obtain ⟨t, rfl⟩ := rx
  obtain ⟨t', rfl⟩ := ry
  exact add_str (fun t' tk => ⟨.str (i ++ j), H, I.tok _, ⟨_, rfl⟩, q⟩) hz
theorem iop_add_str : OpR X (inplaceOp .Add) (fun x y H Q => ∃ i j, x = .str i ∧ y = .str j ∧ i.length + j.length ≤ sizeLine ∧ Q (.str (i ++ j)) H) := by
  intro pins s σ H x y v u Q I rx ry h
  obtain ⟨i, j, rfl, rfl, hz, q⟩ := h
  obtain ⟨t, rfl⟩ := rx
  obtain ⟨t', rfl⟩ := ry
  exact iadd_str (fun t' tk => ⟨.str (i ++ j), H, I.tok _, ⟨_, rfl⟩, q⟩) hz
/-! ### scalar builtins, by CallR -/
theorem vals1 {x : V} {us : List Value} (r : Vals [x] us) : ∃ u, us = [u] ∧ RelV x u := by
  cases r with
  | cons r1 r2 => cases r2; exact ⟨_, rfl, r1⟩
theorem vals2 {x y : V} {us : List Value} (r : Vals [x, y] us) : ∃ u w', us = [u, w'] ∧ RelV x u ∧ RelV y w' := by
  cases r with
  | cons r1 r2 =>
    cases r2 with
    | cons r3 r4 => cases r4; exact ⟨_, _, rfl, r1, r3⟩
theorem call_int1 : CallR X (.type "int") (fun xs H Q => (∃ i, xs = [.int i] ∧ Q (.int i) H) ∨ ∃ k, xs = [.bl k] ∧ Q (.int (if k then 1 else 0)) H) := by
  intro pins s σ H xs us Q I r h
  rcases h with ⟨i, rfl, q⟩ | ⟨k, rfl, q⟩
  · obtain ⟨u, rfl, t, rfl⟩ := vals1 r
    exact call_int_int ⟨.int i, H, I, ⟨_, rfl⟩, q⟩
  · obtain ⟨u, rfl, r1⟩ := vals1 r
    cases r1
    exact call_int_bool ⟨.int (if k then 1 else 0), H, I.tok _, ⟨_, rfl⟩, q⟩
end
end L2

namespace L2
open PySem PySem.Spec PyProof.Rows

/-! ### an instance, its attributes a map -/
structure ObjM (h : Heap) (x dx C : Addr) (mA : Str → Option Value) : Prop where
  obj : h.get? x = some (PySem.W.instObj C dx)
  ns : h.Ns1 dx mA
  ne : dx ≠ x

theorem lookIn_ns {h : Heap} {dx : Addr} {mA : Str → Option Value} (n : h.Ns1 dx mA) : ∃ od, h.get? dx = some od ∧ ∀ name, PySem.W.lookIn name od = some (mA name) := by
  obtain ⟨o, es, ep, ho, hd, hk, _, hm⟩ := n
  refine ⟨o, ho, fun name => ?_⟩
  have e := hm name
  unfold nsFind findBy at e
  rw [← Array.find?_toList] at e
  unfold PySem.W.lookIn
  rw [hd]
  dsimp only
  split
  · rename_i y q
    rw [q] at e
    exact congrArg some e
  · rename_i q
    rw [q] at e
    have a : es.toList.any (·.refKey) = false := by
      rw [List.any_eq_false]
      intro y hy
      obtain ⟨z, t, hkey⟩ := hk y (Array.mem_toList_iff.mp hy)
      simp [DictEntry.refKey, hkey]
    have a' : ¬ es.toList.any (·.refKey) = true := by rw [a]; exact Bool.false_ne_true
    rw [if_neg a']
    exact congrArg some e

theorem ObjM.look {h : Heap} {x dx C : Addr} {mA : Str → Option Value} (I : ObjM h x dx C mA) : ∃ od, PySem.W.InstAt h x (PySem.W.instObj C dx) C (some od) ∧ ∀ name, PySem.W.lookIn name od = some (mA name) :=
  let ⟨od, ho, hl⟩ := lookIn_ns I.ns
  ⟨od, ⟨I.obj, rfl, rfl, ho⟩, hl⟩

section
variable {prog : Program} {w : World} {A : Around} {E : Value → Shared → Prop} {s : Shared} {K : PySem.W.Frag} {x dx C f : Addr} {mA : Str → Option Value} {name : Str} {v : Value}

end

/-! ### the attributes as a list of pairs -/
theorem RelO.none_of {o : Option Value} (r : RelO none o) : o = none := by
  cases o with
  | none => rfl
  | some u => exact (show False from r).elim
section
variable {P : Program} {w : World} {H H' : Hp} {h h' : Heap} {a C dx : Addr} {fs fs' : List (Str × V)}
theorem ins_get (hok : HOk P w H h) (e : H a = some (.ins C dx fs)) : ∃ mA, ObjM h a dx C mA ∧ (∀ f, RelO (fs.lookup f) (mA f)) ∧ PySem.Within mA (fs.map (·.1)) ∧ fs.length ≤ 1000 ∧ H dx = some (.own a) := by
  obtain ⟨d, z, ne, ob, mA, n, r, q⟩ := (show ObjOk P w H h a (.ins C dx fs) from hok a _ e)
  exact ⟨mA, ⟨ob, n, ne⟩, r, q, z, d⟩
end

/-! ### what of the text a class must have -/
structure Cls (K : PySem.W.Frag) (C : Addr) : Prop where
  pg : PySem.W.plainGet K C Str.empty = true
  hd : PySem.W.hasDictIn K C = true
  po : PySem.W.plainOver K C = true
  sa : PySem.W.findIn K (.ref C) "__setattr__" = some (some (.builtin "object.__setattr__"))
theorem Cls.get {K : PySem.W.Frag} {C : Addr} (c : Cls K C) (f : Str) : PySem.W.plainGet K C f = true := c.pg
/-- a constant of the class -/
structure Con (K : PySem.W.Frag) (C : Addr) (f : Str) (v : V) (u : Value) : Prop where
  at_ : PySem.W.findIn K (.ref C) f = some (some u)
  rel : RelV v u
  get : PySem.W.specialIn K u "__get__" = some none
  cp : PySem.W.copiedNames.contains f = false
/-- a method: a plain def of the class or of one above it -/
structure Meth (K : PySem.W.Frag) (C : Addr) (m : Str) (f : Addr) : Prop where
  at_ : PySem.W.findIn K (.ref C) m = some (some (.ref f))
  fn : PySem.W.isFn K (.ref f) = true
  kp : PySem.W.keepIn K (.ref f) = true

section
variable {X : Cx} {pins : List (Addr × Obj)} {σ : St} {H : Hp} {s : Shared} {a C dx : Addr} {fs : List (Str × V)} {f : Str} {v : V} {A : Around} {E : Value → Shared → Prop}

/-- a new instance, tracked, without attributes -/
theorem Inv.made (I : Inv X pins σ H s) : Inv X pins σ (upd (upd H s.heap.objs.size (.own (s.heap.objs.size + 1))) (s.heap.objs.size + 1) (.ins C s.heap.objs.size []))
    { s with heap := (s.heap.push PySem.W.emptyDict).push (PySem.W.instObj C s.heap.objs.size) } := by
  have e1 : (s.heap.push PySem.W.emptyDict).get? s.heap.objs.size = some PySem.W.emptyDict := Heap.get?_push_size s.heap rfl
  have e2 : ((s.heap.push PySem.W.emptyDict).push (PySem.W.instObj C s.heap.objs.size)).get? (s.heap.objs.size + 1) = some (PySem.W.instObj C s.heap.objs.size) := by
    have := Heap.get?_push_size (s.heap.push PySem.W.emptyDict) (o := PySem.W.instObj C s.heap.objs.size) rfl
    rwa [Heap.size_push] at this
  have e3 : (s.heap.push PySem.W.emptyDict).Ns s.heap.objs.size (fun _ => none) := ⟨PySem.W.emptyDict, #[], _, e1, rfl, (fun e he => absurd he (by simp)), fun _ => rfl⟩
  have I1 := I.laid (a := s.heap.objs.size) (o := .own (s.heap.objs.size + 1)) (h' := s.heap.push PySem.W.emptyDict) (t' := s.toks) (fun b u q => Heap.get?_push_of_some _ q) (Nat.le_refl _) ⟨_, e1⟩
  refine I1.laid (a := s.heap.objs.size + 1) (o := .ins C s.heap.objs.size []) (t' := s.toks) (fun b u q => Heap.get?_push_of_some _ q) (Nat.le_of_eq (Heap.size_push _ _)) ?_
  have ne : s.heap.objs.size ≠ s.heap.objs.size + 1 := Nat.ne_of_lt (Nat.lt_succ_self _)
  refine ⟨by rw [upd_ne ne, upd_same], Nat.zero_le _, ne, e2, fun _ => none, (Heap.Ns1.of_empty e3).at fun o q => Heap.get?_push_of_some _ q, fun _ => True.intro, fun y hy => absurd rfl hy⟩

end

/-! ### readings and rules -/
section
variable {X : Cx} {o e value : Expr} {f : Str} {pos pos' tpos : Pos} {ta tv : TE}
end

/-! ### isinstance -/
section
variable {X : Cx} {pins : List (Addr × Obj)} {σ : St} {H : Hp} {s : Shared} {A : Around} {E : Value → Shared → Prop} {Q : Value → Shared → Prop} {c : Value} {b : Bool}
/-- the type of a value, as the fragment's deciders take it; for an instance its class -/
inductive TyOf (K : PySem.W.Frag) (H : Hp) : V → Value → Prop where
  | non : TyOf K H .non (.type "NoneType")
  | bl (x : Bool) : TyOf K H (.bl x) (.type "bool")
  | int (i : Int) : TyOf K H (.int i) (.type "int")
  | str (x : Str) : TyOf K H (.str x) (.type "str")
  | flt (x : UInt64) : TyOf K H (.flt x) (.type "float")
  | lst {a : Addr} {xs : List V} (e : H a = some (.lst xs)) : TyOf K H (.ref a) (.type "list")
  | frz {a : Addr} {o : Obj} {xs : List V} (e : H a = some (.frz o (.lst xs))) : TyOf K H (.ref a) (.type "list")
  | tup {a : Addr} {xs : List V} (e : H a = some (.tup xs)) : TyOf K H (.ref a) (.type "tuple")
  | dK {a : Addr} {kvs : List (Key × V)} (e : H a = some (.dK kvs)) : TyOf K H (.ref a) (.type "dict")
  | dT {a : Addr} {kvs : List (List Key × V)} (e : H a = some (.dT kvs)) : TyOf K H (.ref a) (.type "dict")
  | ins {a C dx : Addr} {fs : List (Str × V)} (e : H a = some (.ins C dx fs)) (cl : Cls K C) (ha : PySem.W.findIn K (.ref C) "__class__" = some (some (.builtin "object.__class__")))
      (hn : PySem.W.specialIn K (.builtin "object.__class__") "__get__" = some (some (.builtin "getset_descriptor.__get__"))) (htk : PySem.W.takesIn K (.builtin "object.__class__") = some true)
      (hm : PySem.W.mroIn K C (.type "object") = some true) : TyOf K H (.ref a) (.ref C)
/-- isinstance(x, c) for one class c, a built-in or an own one: kitOne's answer -/
theorem isinst_ok {x : V} {u t : Value} (I : Inv X pins σ H s) (rx : RelV x u) (ty : TyOf X.K H x t) (e : PySem.W.kitOne X.K t c = some b) (h : ∀ tk, Q (.bool b) { s with toks := tk }) :
    wpAny (model X.prog X.w) A (call (.builtin "isinstance") [u, c]) Q E s := by
  cases ty with
  | non => cases (show u = Value.none from rx); exact PySem.W.kia_one PySem.W.kitx_none I.kIn True.intro e (fun z => nomatch z) h
  | bl y => cases (show u = Value.bool y from rx); exact PySem.W.kia_one PySem.W.kitx_bool I.kIn True.intro e (fun z => nomatch z) h
  | int i => obtain ⟨t, q⟩ := (show ∃ t, u = Value.int i t from rx); cases q; exact PySem.W.kia_one PySem.W.kitx_int I.kIn True.intro e (fun z => nomatch z) h
  | str y => obtain ⟨t, q⟩ := (show ∃ t, u = Value.str y t from rx); cases q; exact PySem.W.kia_one PySem.W.kitx_str I.kIn True.intro e (fun z => nomatch z) h
  | flt y => obtain ⟨t, q⟩ := (show ∃ t, u = Value.float y t from rx); cases q; exact PySem.W.kia_one PySem.W.kitx_float I.kIn True.intro e (fun z => nomatch z) h
  | @lst a xs ea =>
    cases (show u = Value.ref a from rx)
    obtain ⟨_, _, n, _, h1⟩ := (show ObjOk X.prog X.w H s.heap a (.lst xs) from I.hok a _ ea)
    exact PySem.W.kia_one PySem.W.kitx_list I.kIn ⟨_, h1, rfl⟩ e (fun z => nomatch z) h
  | @frz a ob xs ea =>
    cases (show u = Value.ref a from rx)
    obtain ⟨_, _, _, n, _, h1⟩ := (show ObjOk X.prog X.w H s.heap a (.frz ob (.lst xs)) from I.hok a _ ea)
    exact PySem.W.kia_one PySem.W.kitx_list I.kIn ⟨_, h1, rfl⟩ e (fun z => nomatch z) h
  | @tup a xs ea =>
    cases (show u = Value.ref a from rx)
    obtain ⟨_, _, _, p⟩ := (show ObjOk X.prog X.w H s.heap a (.tup xs) from I.hok a _ ea)
    obtain ⟨o, h1, h2, _⟩ := p
    exact PySem.W.kia_one PySem.W.kitx_tuple I.kIn ⟨o, h1, h2⟩ e (fun z => nomatch z) h
  | @dK a kvs ea =>
    cases (show u = Value.ref a from rx)
    obtain ⟨_, _, vs, _, p⟩ := (show ObjOk X.prog X.w H s.heap a (.dK kvs) from I.hok a _ ea)
    obtain ⟨o, es, ep, h1, h2, _⟩ := p
    exact PySem.W.kia_one PySem.W.kitx_dict I.kIn ⟨o, h1, h2.1⟩ e (fun z => nomatch z) h
  | @dT a kvs ea =>
    cases (show u = Value.ref a from rx)
    obtain ⟨_, _, xs, _, o, es, ep, h1, h2, _⟩ := (show ObjOk X.prog X.w H s.heap a (.dT kvs) from I.hok a _ ea)
    exact PySem.W.kia_one PySem.W.kitx_dict I.kIn ⟨o, h1, h2.1⟩ e (fun z => nomatch z) h
  | @ins a C dx fs ea cl ha hn htk hm =>
    cases (show u = Value.ref a from rx)
    obtain ⟨mA, O, _⟩ := ins_get I.hok ea
    obtain ⟨od, J, _⟩ := O.look
    exact PySem.W.kia_one (PySem.W.kitx_own (cl.get _) cl.hd ha hn htk hm) I.kIn J e (fun z => nomatch z) h
end
end L2

namespace L2
open PySem PySem.Spec PyProof.Rows

/-! ### room -/
structure Room (k : Nat) (A : Around) : Prop where
  hd : A.handled = none
  dp : A.depth + 3 * k + 5 < recursionLimit
  un : A.units + 16 * k + 200 < cLine
  gd : A.guards = some []
theorem Room.mono {j k : Nat} {A : Around} (r : Room k A) (h : j ≤ k) : Room j A := ⟨r.hd, by have := r.dp; omega, by have := r.un; omega, r.gd⟩
theorem Room.deeper {k : Nat} {A : Around} (r : Room (k + 1) A) (env : Env) : Room k (A.deeper env) :=
  ⟨r.hd, by have := r.dp; show A.depth + 1 + 3 * k + 5 < _; omega, by have := r.un; show A.units + 3 + 16 * k + 200 < _; omega, r.gd⟩
theorem Room.in1 {k : Nat} {A : Around} (r : Room (k + 1) A) : Room k A.in1 :=
  ⟨r.hd, by have := r.dp; show A.depth + 3 * k + 5 < _; omega, by have := r.un; show A.units + 1 + 16 * k + 200 < _; omega, r.gd⟩
theorem Room.depth {k : Nat} {A : Around} (r : Room k A) : A.depth < recursionLimit := by have := r.dp; omega
theorem Room.units {k : Nat} {A : Around} (r : Room k A) : A.units + 64 < cLine := by have := r.un; omega
/-! ### argument lists and displays -/
def tNil : TA := fun _ H Q => Q [] H
def tCons (ta : TE) (tr : TA) : TA := fun σ H Q => ta σ H fun x H1 => tr σ H1 fun xs H2 => Q (x :: xs) H2
section
variable {X : Cx} {e : Expr} {es : List Expr} {te : TE} {t : TA} {pos : Pos}
theorem pa_nil : PA X [] tNil := fun _ _ _ _ H Q I h => Calls.spliced_nil ⟨[], H, I, .nil, h⟩
theorem pa_cons (ha : PE X e te) (hr : PA X es t) (hs : starEach (e :: es) X.env = (false, eval e X.env) :: starEach es X.env := by rfl) : PA X (e :: es) (tCons te t) := by
  intro pos pins s σ H Q I h
  rw [hs]
  show wpAny _ _ (spliced ((false, eval e X.env) :: backTo pos (starEach es X.env))) _ _ s
  refine Calls.spliced_cons (thn (ha pins s σ H _ I h) fun u s1 ⟨x, H1, I1, r1, q1⟩ => ?_)
  exact thn (hr pos pins s1 σ H1 _ I1 q1) fun us s2 ⟨xs, H2, I2, r2, q2⟩ => ⟨x :: xs, H2, I2, .cons r1 r2, q2⟩

def tLst (t : TA) : TE := fun σ H Q => t σ H fun xs H1 => xs.length ≤ sizeLine ∧ ∀ p, H1 p = none → Q (.ref p) (upd H1 p (.lst xs))
theorem pe_lst (h : PA X es t) : PE X (.List es pos) (tLst t) := by
  intro pins s σ H Q I hq
  refine wpAny_List_spliced (thn (h pos pins s σ H _ I hq) fun us s1 ⟨xs, H1, I1, r, z, q⟩ => ⟨by rw [← r.length]; exact z, ?_⟩)
  have hf : H1 s1.heap.objs.size = none := I1.hok.fresh (Nat.le_refl _)
  refine ⟨.ref s1.heap.objs.size, upd H1 s1.heap.objs.size (.lst xs), I1.laid (t' := s1.toks) (fun b u e => Heap.get?_push_of_some _ e) (Nat.le_refl _) ?_, rfl, q _ hf⟩
  exact ⟨z, us, 0, r, Heap.get?_push_size _ rfl⟩
end

/-! ### what a def promises -/
/-- a def's promise: the bound arguments in the parameters' order, the heap, the wanted end, the wanted exception -/
abbrev Sp := List V → Hp → VK → XK → Prop
/-- how an exception lies behind a call (file 08 gives it): the callers' frames, abstract heap and state ahead of the call, the wish, the exception, the state -/
abbrev CXT := List Env → Hp → Shared → XK → Value → Shared → Prop

/-- the state at a call -/
structure Env0 (P : Program) (w : World) (K : PySem.W.Frag) (mg : Str → Option Value) (base : Heap) (A : Around) (outer : List Env) (s : Shared) (H : Hp) : Prop where
  frames : A.frames = some outer
  mod : Mod K mg base
  bs : ∀ b o, base.get? b = some o → s.heap.get? b = some o ∧ H b = none
  bsz : base.objs.size ≤ s.heap.objs.size
  funs : s.heap.FunFrames base outer
  frf : ∀ b ∈ frs outer, H b = none
  hok : HOk P w H s.heap
  bare : AllBare s.gens
/-- a call's end -/
def CE (outer : List Env) (P : Program) (w : World) (H : Hp) (s : Shared) (Q : VK) (u : Value) (s' : Shared) : Prop :=
  ∃ v H', s'.os = s.os ∧ AllBare s'.gens ∧ Un (frs outer) [] H H' s.heap s'.heap ∧ HOk P w H' s'.heap ∧ RelV v u ∧ Q v H'
def CR (CX : CXT) (outer : List Env) (P : Program) (w : World) (H : Hp) (s : Shared) (Q : VK) (E : XK) (r : Result) (s' : Shared) : Prop :=
  match r with
  | .ok (.ret u) => CE outer P w H s Q u s'
  | .ok _ => False
  | .error e => CX outer H s E e s'
structure FnOk (P : Program) (w : World) (K : PySem.W.Frag) (mg : Str → Option Value) (base : Heap) (CX : CXT) (k : Nat) (f : Addr) (fd : FuncData) (ps : List Str) (sp : Sp) : Prop where
  len : ∀ vs H Q E, sp vs H Q E → vs.length = ps.length
  run : ∀ (A : Around) (outer : List Env) (s : Shared) (H : Hp) (args : Args) (us : List Value) (vs : List V) (Q : VK) (E : XK), Room k A → Env0 P w K mg base A outer s H → BindsTo s fd args (ps.zip us) → Vals vs us → sp vs H Q E →
    codeAny (model P w) A (.call (.ref f) args) (CR CX outer P w H s Q E) s
theorem FnOk.mono {P : Program} {w : World} {K : PySem.W.Frag} {mg : Str → Option Value} {base : Heap} {CX : CXT} {j k : Nat} {f : Addr} {fd : FuncData} {ps : List Str} {sp : Sp} (F : FnOk P w K mg base CX j f fd ps sp) (h : j ≤ k) :
    FnOk P w K mg base CX k f fd ps sp := ⟨F.len, fun A outer s H args us vs Q E hr => F.run A outer s H args us vs Q E (hr.mono h)⟩
/-- a weaker promise -/
theorem FnOk.imp {P : Program} {w : World} {K : PySem.W.Frag} {mg : Str → Option Value} {base : Heap} {CX : CXT} {k : Nat} {f : Addr} {fd : FuncData} {ps : List Str} {sp sp' : Sp} (F : FnOk P w K mg base CX k f fd ps sp)
    (h : ∀ vs H Q E, sp' vs H Q E → sp vs H Q E) : FnOk P w K mg base CX k f fd ps sp' :=
  ⟨fun vs H Q E q => F.len vs H Q E (h _ _ _ _ q), fun A outer s H args us vs Q E hr he hb hv hs => F.run A outer s H args us vs Q E hr he hb hv (h _ _ _ _ hs)⟩

theorem Env0.in1 {P : Program} {w : World} {K : PySem.W.Frag} {mg : Str → Option Value} {base : Heap} {A : Around} {outer : List Env} {s : Shared} {H : Hp} (e : Env0 P w K mg base A outer s H) :
    Env0 P w K mg base A.in1 outer s H := ⟨e.frames, e.mod, e.bs, e.bsz, e.funs, e.frf, e.hok, e.bare⟩

section
variable {X : Cx} {pins : List (Addr × Obj)} {σ : St} {H : Hp} {s s' : Shared}
/-- from a body: what a callee wants -/
theorem Inv.env0 (I : Inv X pins σ H s) : Env0 X.prog X.w X.K X.mg X.base X.A X.stack s H :=
  ⟨I.ok.frames, I.ok.mod, I.bs, Nat.le_trans I.ok.bsz I.sz, I.stack, I.stkFree, I.hok, I.bare⟩
/-- behind a call -/
theorem Inv.after {Q : VK} {u : Value} (I : Inv X pins σ H s) (h : CE X.stack X.prog X.w H s Q u s') : EP X pins σ Q u s' := by
  obtain ⟨v, H', os, bare, un, hok, r, q⟩ := h
  obtain ⟨hh, g, d, t, os'⟩ := s'
  obtain rfl : os' = s.os := os
  exact ⟨v, H', I.call (h' := hh) (g' := g) (d' := d) (t' := t) (ch := []) un hok bare (fun b z => absurd z (by simp)), r, q⟩
end

/-! ### calls -/
/-- f(..): the written arguments, then the defaults dvs; E: what is wanted of an exception -/
def tCall (sp : Sp) (dvs : List V) (E : XK) (t : TA) : TE := fun σ H Q => t σ H fun vs H1 => sp (vs ++ dvs) H1 Q E
/-- how the parameters are bound: us the positional arguments, kw the keywords' values by name, ds the defaults that fill up -/
def Binds (K : PySem.W.Frag) (fd : FuncData) (ps : List Str) (ds : List Value) : Prop :=
  ∀ (s : Shared) (us : List Value), K.In s.heap → (us ++ ds).length = ps.length → BindsTo s fd ⟨us, []⟩ (ps.zip (us ++ ds))
/-- every parameter is given -/
theorem Binds.all {K : PySem.W.Frag} {fd : FuncData} {ps : List Str} (h : ∀ us : List Value, us.length = ps.length → bindArgs fd ⟨us, []⟩ = pure (ps.zip us)) : Binds K fd ps [] := fun s us _ hl => by
  rw [List.append_nil] at hl ⊢
  exact .of_eq (h us hl)

/-- an exception of a callee reaches what this body wants of exceptions -/
def Passes (CX : CXT) (X : Cx) (E : XK) : Prop := ∀ (pins : List (Addr × Obj)) (σ : St) (H : Hp) (s : Shared) (e : Value) (s' : Shared), Inv X pins σ H s → CX X.stack H s E e s' → X.xe e s'

section
variable {X : Cx} {CX : CXT} {k : Nat} {f C : Addr} {fd : FuncData} {ps : List Str} {sp : Sp} {dvs : List V} {ds : List Value} {E : XK} {x m : Str} {p pos apos : Pos} {e o : Expr} {es : List Expr} {ta : TE} {t : TA}

/-- the callee runs -/
theorem run_fn {pins : List (Addr × Obj)} {σ : St} {H : Hp} {s : Shared} {Q : VK} {us : List Value} {vs : List V} (F : FnOk X.prog X.w X.K X.mg X.base CX k f fd ps sp) (hr : Room k X.A) (hb : Binds X.K fd ps ds) (hd : Vals dvs ds) (hx : Passes CX X E)
    (I : Inv X pins σ H s) (r : Vals vs us) (h : sp (vs ++ dvs) H Q E) : wpAny (model X.prog X.w) X.A (call (.ref f) us) (EP X pins σ Q) X.xe s := by
  have r2 : Vals (vs ++ dvs) (us ++ ds) := r.append hd
  have hl : (us ++ ds).length = ps.length := by rw [← r2.length]; exact F.len _ _ _ _ h
  refine wpAny_call (codeAny_mono (F.run X.A X.stack s H ⟨us, []⟩ (us ++ ds) (vs ++ dvs) Q E hr I.env0 (hb s us I.kIn hl) r2 h) fun r s' hq => ?_)
  cases r with
  | error e => exact hx pins σ H s e s' I hq
  | ok fl =>
    cases fl with
    | ret u => exact I.after hq
    | next => exact False.elim hq
    | brk => exact False.elim hq
    | cont => exact False.elim hq

theorem pe_call (F : FnOk X.prog X.w X.K X.mg X.base CX k f fd ps sp) (hr : Room k X.A) (hg : Gl X x) (hm : X.mg x = some (.ref f)) (hk : PySem.W.keepIn X.K (.ref f) = true) (hb : Binds X.K fd ps ds) (hd : Vals dvs ds) (hx : Passes CX X E)
    (ha : PA X (e :: es) t) (hdb : (x == ("__debug__" : Str)) = false := by decide) (he : starEach (e :: es) X.env = (false, eval e X.env) :: starEach es X.env := by rfl) (hpl : (backTo pos (starEach es X.env)).any (·.1) = false := by rfl) :
    PE X (.Call (.Name x p) (e :: es) [] pos) (tCall sp dvs E t) := by
  intro pins s σ H Q I h
  refine wpAny_Call_Name_kw (ld_glob I hg hm ?_ hdb)
  refine PySem.W.callWith_K (h₀ := X.base) I.ok.mod.kin hk (thn (ha pos pins s σ H _ I h) fun us s1 ⟨vs, H1, I1, r, q⟩ => ⟨I1.kIn, ?_⟩) he hpl
  exact run_fn F hr hb hd hx I1 r q
/-- what a class must have to be made -/
structure Mk (K : PySem.W.Frag) (C f : Addr) : Prop where
  makes : PySem.W.makesIn K C = true
  init : PySem.W.findIn K (.ref C) "__init__" = some (some (.ref f))
  fn : PySem.W.isFn K (.ref f) = true
  kp : PySem.W.keepIn K (.ref C) = true

end

/-! ### keywords -/
section
variable {X : Cx} {CX : CXT} {k : Nat} {f C : Addr} {fd : FuncData} {ps ks : List Str} {sp : Sp} {E : XK} {x m : Str} {p pos apos kpos : Pos} {e o : Expr} {es : List Expr} {kws : List Keyword} {te ta : TE} {t tk : TA} {nm : Option Str}
/-- how a call with keywords binds: g puts the positional values us and the keywords' values ws (names ks) in the parameters' order, defaults among them -/
structure KBinds (K : PySem.W.Frag) (fd : FuncData) (ps ks : List Str) (g : List Value → List Value → List Value) (gV : List V → List V → List V) : Prop where
  to : ∀ (s : Shared) (us ws : List Value), K.In s.heap → (g us ws).length = ps.length → BindsTo s fd ⟨us, ks.zip ws⟩ (ps.zip (g us ws))
  rel : ∀ {vs : List V} {us : List Value} {zs : List V} {ws : List Value}, Vals vs us → Vals zs ws → Vals (gV vs zs) (g us ws)
variable {g : List Value → List Value → List Value} {gV : List V → List V → List V}
end

/-! ### a def's body keeps its promise -/
/-- names: the parameters first -/
structure FnScope (N P : List Str) (sc : Scope) : Prop where
  kind : sc.kind = .function
  co : sc.isCoroutine = false
  gen : sc.isGenerator = false
  nd : N.Nodup
  pre : N.take P.length = P
  par : ∀ x ∈ P, sc.names.lookup x = some .local ∨ sc.names.lookup x = some .cell
  nofree : ∀ y ∈ sc.names, y.2 ≠ .free

theorem bindL_out {kindOf : Str → Option NameKind} {x : Str} : ∀ {binds : List (Str × Value)} {m : Str → Option Value}, (∀ v, (x, v) ∉ binds) → bindL kindOf binds m x = m x
  | [], _, _ => rfl
  | (n, v) :: r, m, h => by
    unfold bindL
    rw [bindL_out fun w hw => h w (List.mem_cons_of_mem _ hw)]
    split
    · have : x ≠ n := by rintro rfl; exact h v List.mem_cons_self
      simp [this]
    · rfl
theorem bindC_out {kindOf : Str → Option NameKind} {x : Str} : ∀ {binds : List (Str × Value)} {m : Str → Option Value}, (∀ v, (x, v) ∉ binds) → bindC kindOf binds m x = m x
  | [], _, _ => rfl
  | (n, v) :: r, m, h => by
    unfold bindC
    rw [bindC_out fun w hw => h w (List.mem_cons_of_mem _ hw)]
    split
    · rfl
    · have : x ≠ n := by rintro rfl; exact h v List.mem_cons_self
      simp [this]
theorem bindL_get {kindOf : Str → Option NameKind} {x : Str} {v : Value} : ∀ {P : List Str} {vs : List Value} {i : Nat} {m : Str → Option Value}, P.Nodup → P[i]? = some x → vs[i]? = some v → kindOf x = some .local →
    bindL kindOf (P.zip vs) m x = some v
  | [], _, _, _, _, h, _, _ => by simp at h
  | _ :: _, [], _, _, _, _, h, _ => by simp at h
  | p :: P, w :: vs, 0, m, nd, h1, h2, hk => by
    simp at h1 h2; subst h1; subst h2
    show bindL kindOf ((p, w) :: P.zip vs) m p = _
    unfold bindL
    rw [bindL_out fun v hv => (List.nodup_cons.mp nd).1 (List.of_mem_zip hv).1, if_pos hk]
    simp
  | p :: P, w :: vs, i + 1, m, nd, h1, h2, hk => by
    show bindL kindOf ((p, w) :: P.zip vs) m x = _
    unfold bindL
    exact bindL_get (i := i) (List.nodup_cons.mp nd).2 (by simpa using h1) (by simpa using h2) hk
theorem bindC_get {kindOf : Str → Option NameKind} {x : Str} {v : Value} : ∀ {P : List Str} {vs : List Value} {i : Nat} {m : Str → Option Value}, P.Nodup → P[i]? = some x → vs[i]? = some v → kindOf x ≠ some .local →
    bindC kindOf (P.zip vs) m x = some v
  | [], _, _, _, _, h, _, _ => by simp at h
  | _ :: _, [], _, _, _, _, h, _ => by simp at h
  | p :: P, w :: vs, 0, m, nd, h1, h2, hk => by
    simp at h1 h2; subst h1; subst h2
    show bindC kindOf ((p, w) :: P.zip vs) m p = _
    unfold bindC
    rw [bindC_out fun v hv => (List.nodup_cons.mp nd).1 (List.of_mem_zip hv).1, if_neg hk]
    simp
  | p :: P, w :: vs, i + 1, m, nd, h1, h2, hk => by
    show bindC kindOf ((p, w) :: P.zip vs) m x = _
    unfold bindC
    exact bindC_get (i := i) (List.nodup_cons.mp nd).2 (by simpa using h1) (by simpa using h2) hk

/-- the names' values at the entry -/
def start (N : List Str) (vs : List V) : St := vs.map some ++ List.replicate (N.length - vs.length) none

/-- the context of a def's body, at its entry; an exception leaves the frame, then lies as CX says -/
def cxOf (CX : CXT) (P : Program) (w : World) (K : PySem.W.Frag) (mg : Str → Option Value) (base : Heap) (N : List Str) (qual : Str) (scope : Scope) (f : Addr) (cd : Value) (A : Around) (outer : List Env) (s : Shared) (H : Hp) (E : XK) : Cx where
  prog := P
  w := w
  K := K
  mg := mg
  base := base
  A := A.deeper (envOfC qual scope s.heap.objs.size f cd)
  N := N
  s₀ := s
  H₀ := H
  env := envOfC qual scope s.heap.objs.size f cd
  outer := outer
  stack := envOfC qual scope s.heap.objs.size f cd :: outer
  ex := []
  calm := true
  fn := fun _ => true
  pn := []
  xe := fun e s' => wpAny (model P w) (A.deeper (envOfC qual scope s.heap.objs.size f cd)) (leaving (envOfC qual scope s.heap.objs.size f cd) e) (fun _ s'' => CX outer H s E e s'') (fun e' s'' => CX outer H s E e' s'') s'

theorem cell_has {sc : Scope} {n : Nat} {x : Str} (h : sc.names.lookup x = some .cell) : ∃ c, (cellsFrom n sc.names []).lookup x = some c := by
  have q := PySem.W.cellsFrom_some sc.names n [] (.inl h)
  exact Option.isSome_iff_exists.mp q

theorem inv_start {CX : CXT} {P : Program} {w : World} {K : PySem.W.Frag} {mg : Str → Option Value} {base : Heap} {N ps : List Str} {qual : Str} {scope : Scope} {f : Addr} {cd : Value} {A : Around} {outer : List Env} {s s1 : Shared} {H : Hp} {E : XK} {us : List Value} {vs : List V}
    (S : FnScope N ps scope) (hd : A.handled = none) (e0 : Env0 P w K mg base A outer s H) (hl : vs.length = ps.length) (r : Vals vs us)
    (x : InCallC s s.heap.objs.size (bindL (envOfC qual scope s.heap.objs.size f cd).kindOf (ps.zip us) fun _ => none) (cellsFrom (s.heap.objs.size + 1) scope.names []) (bindC (envOfC qual scope s.heap.objs.size f cd).kindOf (ps.zip us) fun _ => none) s1) :
    Inv (cxOf CX P w K mg base N qual scope f cd A outer s H E) [] (start N vs) H s1 := by
  have hpl : ps.length ≤ N.length := by have := congrArg List.length S.pre; rw [List.length_take] at this; omega
  obtain ⟨h1, tk, rfl, hk⟩ := x.done
  have noA : ∀ b : Addr, b ∉ (cxOf CX P w K mg base N qual scope f cd A outer s H E).ex := fun b z => absurd (show b ∈ ([] : List Addr) from z) (by simp)
  refine ⟨⟨e0.mod, S.kind, rfl, rfl, Nat.le_refl _, fun y z c h1 h2 => ?_, fun y hy => ?_, fun y c _ h => ?_, fun _ => hd, Around.frames_deeper e0.frames, .inr ⟨rfl, rfl⟩, fun b z => absurd z (noA b), e0.bs, e0.bsz, fun b _ _ => noA b, fun b z => absurd z (noA b), e0.funs, e0.frf⟩,
    rfl, e0.bare, Un.kept hk, ⟨_, x.toInCall.ns, fun i y v h1 h2 h3 => ?_⟩, fun y c h => ⟨_, x.cell y c h⟩, e0.hok.fresh (Nat.le_refl _), fun y c h => ?_, fun p hp => absurd (show p ∈ ([] : List (Addr × Obj)) from hp) (by simp), e0.hok.kept hk, ?_⟩
  · exact name_of_addr x.apart (PySem.mem_of_lookup h1) (PySem.mem_of_lookup h2)
  · have hy : scope.names.lookup y = some .cell ∨ scope.names.lookup y = some .free := hy
    rcases hy with hy | hy
    · exact cell_has hy
    · exact absurd rfl (S.nofree _ (PySem.mem_of_lookup hy))
  · exact Nat.le_of_lt (x.above y c (PySem.mem_of_lookup h))
  · have hi : i < vs.length := by
      unfold start at h2
      by_cases hi : i < vs.length
      · exact hi
      · rw [List.getElem?_append_right (by simpa using hi)] at h2
        rw [List.getElem?_replicate] at h2
        split at h2 <;> cases h2
    have ha : vs[i]? = some v := by
      unfold start at h2
      rw [List.getElem?_append_left (by simpa using hi), List.getElem?_map] at h2
      cases e : vs[i]? with
      | none => rw [e] at h2; cases h2
      | some a => rw [e] at h2; cases h2; rfl
    obtain ⟨u, hu, rv⟩ := r.get ha
    have hp : ps[i]? = some y := by
      rw [← S.pre, List.getElem?_take_of_lt (by omega)]; exact h1
    have ndP : ps.Nodup := by rw [← S.pre]; exact S.nd.sublist (List.take_sublist _ _)
    refine ⟨u, rv, ?_⟩
    rcases S.par y (List.mem_of_getElem? hp) with k | k
    · exact .inl ⟨k, bindL_get ndP hp hu k⟩
    · obtain ⟨c, e⟩ := cell_has (n := s.heap.objs.size + 1) k
      refine .inr ⟨.inl k, c, e, ?_⟩
      have q := x.cell y c e
      rw [bindC_get ndP hp hu (by show scope.names.lookup y ≠ _; rw [k]; decide)] at q
      exact q
  · exact e0.hok.fresh (Nat.le_of_lt (x.above y c (PySem.mem_of_lookup h)))
  · unfold start
    show _ = N.length
    rw [List.length_append, List.length_map, List.length_replicate]
    omega

/-- THE RULE: a def (or a method) of the text, by its body. The body's reading t is chosen for each entry; it is run at the parameters' values -/
theorem fn_of {CX : CXT} {P : Program} {w : World} {K : PySem.W.Frag} {mg : Str → Option Value} {base : Heap} {k : Nat} {f : Addr} {name qual : Str} {params : Arguments} {body : List Stmt} {scope : Scope} {dV kV doc pm cdv ct oc : Value} {an od : Option Addr}
    {osl : Array (Option Value)} {N ps : List Str} {sp : Sp} (lk : K.lookup f = some ⟨oc, od, .func (PySem.W.fnOf name qual params body scope dV kV doc pm an cdv ct), osl⟩) (hcd : PySem.W.codeIn K cdv qual = true) (S : FnScope N ps scope)
    (len : ∀ vs H Q E, sp vs H Q E → vs.length = ps.length)
    (hbody : ∀ (A : Around) (outer : List Env) (s : Shared) (H : Hp) (vs : List V) (Q : VK) (E : XK), Room k (A.deeper (envOfC qual scope s.heap.objs.size f cdv)) → sp vs H Q E →
      ∃ t, PSs (cxOf CX P w K mg base N qual scope f cdv A outer s H E) body t ∧ t { nx := fun _ H' => Q .non H', rt := Q } (start N vs) H) :
    FnOk P w K mg base CX (k + 1) f (PySem.W.fnOf name qual params body scope dV kV doc pm an cdv ct) ps sp := by
  refine ⟨len, fun A outer s H args us vs Q E hr e0 hb r hsp => ?_⟩
  have hl := len _ _ _ _ hsp
  have KX : K.In s.heap := e0.mod.kin.keeps fun b o e => (e0.bs b o e).1
  have lim : s.heap.NoLimit := e0.mod.nolimit.keeps fun b o e => (e0.bs b o e).1
  have hkind : ∀ y ∈ ps.zip us, scope.names.lookup y.1 = some .local ∨ (scope.names.lookup y.1 = some .cell ∧ ((cellsFrom (s.heap.objs.size + 1) scope.names []).lookup y.1).isSome = true) := fun ⟨n, v⟩ hy => by
    rcases S.par n (List.of_mem_zip hy).1 with q | q
    · exact .inl q
    · exact .inr ⟨q, PySem.W.cellsFrom_some _ _ _ (.inl q)⟩
  refine codeAny_call_function hr.depth (KX _ _ lk) rfl S.co S.gen rfl (PySem.W.codeRec_of KX hcd) (hb _ _ _ _ ?_)
  refine wpAny_newFunctionEnv_cells S.kind hkind fun env he s1 x => ?_
  subst he
  refine ⟨lim.keeps x.toInCall.keep, codeAny_func ?_⟩
  obtain ⟨t, ht, hq⟩ := hbody A outer s H vs Q E (hr.deeper _) hsp
  have I : Inv (cxOf CX P w K mg base N qual scope f cdv A outer s H E) [] (start N vs) H s1 := inv_start S hr.hd e0 hl r x
  refine wpAny_mono (ht [] s1 (start N vs) H _ I hq) (fun fl s' hs => ?_) fun e s' hs => hs
  have fin : ∀ {σ' : St} {H' : Hp} {v : V} {u : Value}, Inv (cxOf CX P w K mg base N qual scope f cdv A outer s H E) [] σ' H' s' → RelV v u → Q v H' → CE outer P w H s Q u s' :=
    fun {σ' H' v u} J rv q => ⟨v, H', J.os, J.bare, J.base, J.hok, rv, q⟩
  cases fl with
  | ret u =>
    obtain ⟨v, σ', H', J, rv, q⟩ := hs
    exact fin J rv q
  | next =>
    obtain ⟨σ', H', J, q⟩ := hs
    exact fin (v := V.non) (u := Value.none) J rfl q
  | brk =>
    obtain ⟨_, _, _, q⟩ := hs
    exact False.elim q
  | cont =>
    obtain ⟨_, _, _, q⟩ := hs
    exact False.elim q
end L2

namespace L2
open PySem PySem.Spec PyProof.Rows
section
variable {X : Cx} {x : Str} {p pos : Pos} {e : Expr} {es : List Expr} {t : TA} {id T : String} {r : List V → Hp → VK → Prop}

def tCB (r : List V → Hp → VK → Prop) (t : TA) : TE := fun σ H Q => t σ H fun vs H1 => r vs H1 Q
/-- f(e, ..), f a built-in function -/
theorem pe_callB (hc : CallR X (.builtin id) r) (hg : Gl X x) (hm : X.mg x = none) (hv : bootBuiltins x = some (.builtin id)) (ha : PA X (e :: es) t) (hn : x ≠ "__name__" := by decide) (hdb : (x == ("__debug__" : Str)) = false := by decide)
    (he : starEach (e :: es) X.env = (false, eval e X.env) :: starEach es X.env := by rfl) (hpl : (backTo pos (starEach es X.env)).any (·.1) = false := by rfl) : PE X (.Call (.Name x p) (e :: es) [] pos) (tCB r t) := by
  intro pins s σ H Q I h
  refine wpAny_Call_Name_kw (ld_blt I hg hm hv ?_ hn hdb)
  exact PyProof.Rows.callWith_builtin1 (thn (ha pos pins s σ H _ I h) fun us s1 ⟨vs, H1, I1, r1, q1⟩ => hc pins s1 σ H1 vs us Q I1 r1 q1) he hpl
/-- T(e, ..), T a built-in type -/
theorem pe_callTy (hc : CallR X (.type T) r) (hg : Gl X x) (hm : X.mg x = none) (hv : bootBuiltins x = some (.type T)) (ha : PA X (e :: es) t) (hn : x ≠ "__name__" := by decide) (hdb : (x == ("__debug__" : Str)) = false := by decide)
    (he : starEach (e :: es) X.env = (false, eval e X.env) :: starEach es X.env := by rfl) (hpl : (backTo pos (starEach es X.env)).any (·.1) = false := by rfl) : PE X (.Call (.Name x p) (e :: es) [] pos) (tCB r t) := by
  intro pins s σ H Q I h
  refine wpAny_Call_Name_kw (ld_blt I hg hm hv ?_ hn hdb)
  exact PyProof.Rows.callWith_type1 (thn (ha pos pins s σ H _ I h) fun us s1 ⟨vs, H1, I1, r1, q1⟩ => hc pins s1 σ H1 vs us Q I1 r1 q1) he hpl
end
end L2

namespace HT
open PySem PyProof.Rows

section
open PySem.SeqAt
open PySem.AutoSeq1 (wpAny_loadPart')
open PySem.MeetsSeq PySem.MeetsSeq2 PySem.MeetsSeq3

end

section
variable {prog : Program} {w : World} {A : Around} {E : Value → Shared → Prop} {s : Shared}

/-! ### t[a:b], not the whole -/
/-- a slice's bound as a place among n (d where it is left out) -/
def sIx (n d : Nat) : Option Int → Nat
  | none => d
  | some v => if v < 0 then (v + (n : Int)).toNat else min v.toNat n
theorem sIx_none (n d : Nat) : sIx n d none = d := rfl
theorem sIx_nat (n d k : Nat) : sIx n d (some (k : Int)) = min k n := by
  show (if (k : Int) < 0 then ((k : Int) + (n : Int)).toNat else min (k : Int).toNat n) = min k n
  rw [if_neg (by omega), Int.toNat_natCast]
theorem sIx_le (n d : Nat) (hd : d ≤ n) (o : Option Int) : sIx n d o ≤ n := by
  cases o with
  | none => exact hd
  | some v =>
    show (if v < 0 then (v + (n : Int)).toNat else min v.toNat n) ≤ n
    by_cases hv : v < 0
    · rw [if_pos hv]; omega
    · rw [if_neg hv]; exact Nat.min_le_right _ _
end
end HT

namespace L2
open PySem PySem.Spec PyProof.Rows

/-! ### the parts of a slice -/
abbrev TO := St → Hp → (Option Int → Hp → Prop) → Prop
/-- a slice's part (left out, or an int) -/
def PO (X : Cx) (e : Option Expr) (t : TO) : Prop :=
  ∀ (pins : List (Addr × Obj)) (s : Shared) (σ : St) (H : Hp) (Q : Option Int → Hp → Prop), Inv X pins σ H s → t σ H Q →
    wpAny (model X.prog X.w) X.A (evalPart e X.env) (fun u s' => ∃ o H', Inv X pins σ H' s' ∧ IsPart u o ∧ Q o H') X.xe s
def tNoPart : TO := fun _ H Q => Q none H
def tPart (t : TE) : TO := fun σ H Q => t σ H fun x H1 => ∃ i, x = .int i ∧ Q (some i) H1

theorem intsAre_of {ns : List Int} : ∀ {us : List Value}, Vals (ns.map V.int) us → IntsAre us ns := by
  induction ns with
  | nil => intro us r; rw [List.map_nil] at r; cases r; exact .nil
  | cons n ns ih =>
    intro us r
    rw [List.map_cons] at r
    cases r with
    | cons r1 r2 =>
      obtain ⟨t, e⟩ := r1
      subst e
      exact .cons n t (ih r2)

section
variable {X : Cx} {e : Expr} {te : TE} {lo hi : Option Expr} {tl th : TO} {pos p2 : Pos}

theorem po_none : PO X none tNoPart := by
  intro pins s σ H Q I h
  rw [evalPart_none]
  exact wpAny_pure ⟨none, H, I, .none, h⟩
theorem po_some (h : PE X e te) : PO X (some e) (tPart te) := by
  intro pins s σ H Q I hw
  rw [evalPart_some]
  refine thn (h pins s σ H _ I hw) fun u s1 ⟨x, H1, I1, r1, q1⟩ => ?_
  obtain ⟨i, rfl, q⟩ := q1
  obtain ⟨t, rfl⟩ := r1
  exact ⟨some i, H1, I1, .int i t, q⟩

/-- what a slice of a value is, by values: the slice object stands at sl -/
def SlR (X : Cx) (r : V → Option Int → Option Int → Hp → VK → Prop) : Prop :=
  ∀ (pins : List (Addr × Obj)) (s : Shared) (σ : St) (H : Hp) (x : V) (v vl vu : Value) (lo hi : Option Int) (sl : Addr) (Q : VK), Inv X pins σ H s → RelV x v → s.heap.IsSliceOf sl vl vu .none → IsPart vl lo → IsPart vu hi → r x lo hi H Q →
    ∃ T id, typeLookup (.type T) "__getitem__" = pure (some (.builtin id)) ∧ s.TypeIs v T ∧ wpAny (model X.prog X.w) X.A (getItem v (.ref sl)) (EP X pins σ Q) X.xe s
theorem SlR.or {r r' : V → Option Int → Option Int → Hp → VK → Prop} (h : SlR X r) (h' : SlR X r') : SlR X (fun x lo hi H Q => r x lo hi H Q ∨ r' x lo hi H Q) := by
  intro pins s σ H x v vl vu lo hi sl Q I rx hs pl pu q
  rcases q with q | q
  · exact h pins s σ H x v vl vu lo hi sl Q I rx hs pl pu q
  · exact h' pins s σ H x v vl vu lo hi sl Q I rx hs pl pu q
def tSl (r : V → Option Int → Option Int → Hp → VK → Prop) (te : TE) (tl th : TO) : TE := fun σ H Q => te σ H fun x H1 => tl σ H1 fun l H2 => th σ H2 fun u H3 => r x l u H3 Q
/-- a[lo:hi], any a -/
theorem pe_slice {r : V → Option Int → Option Int → Hp → VK → Prop} (hr : SlR X r) (he : PE X e te) (hl : PO X lo tl) (hu : PO X hi th) : PE X (.Subscript e (.Slice lo hi none p2) pos) (tSl r te tl th) := by
  intro pins s σ H Q I h
  refine Subscript_ (thn (he pins s σ H _ I h) fun v s1 ⟨x, H1, I1, r1, q1⟩ => ?_)
  refine wpAny_Slice (thn (hl pins s1 σ H1 _ I1 q1) fun vl s2 ⟨l, H2, I2, pl, q2⟩ => thn (hu pins s2 σ H2 _ I2 q2) fun vu s3 ⟨u, H3, I3, pu, q3⟩ => ?_)
  rw [evalPart_none]
  refine wpAny_pure ?_
  have I4 : Inv X pins σ H3 { s3 with heap := s3.heap.push { cls := .type "slice", data := .fields #[vl, vu, .none] } } := I3.kept (t' := s3.toks) fun b ob q => Heap.get?_push_of_some _ q
  obtain ⟨T, id, hT, ht, hg⟩ := hr pins { s3 with heap := s3.heap.push { cls := .type "slice", data := .fields #[vl, vu, .none] } } σ H3 x v vl vu l u s3.heap.objs.size Q I4 r1 (Heap.IsSliceOf.new ..) pl pu q3
  show wpAny (model X.prog X.w) X.A (subscriptTail e (.Slice lo hi none p2) v (.ref s3.heap.objs.size)) (EP X pins σ Q) X.xe { s3 with heap := s3.heap.push { cls := .type "slice", data := .fields #[vl, vu, .none] } }
  exact tail_any (ops := [.ref s3.heap.objs.size, v]) ht hT hg (by with_unfolding_all rfl)

/-- the items of xs[lo:hi] -/
def cutV (xs : List V) (lo hi : Option Int) : List V := (xs.drop (HT.sIx xs.length 0 lo)).take (HT.sIx xs.length xs.length hi - HT.sIx xs.length 0 lo)
theorem cutV_length (xs : List V) (lo hi : Option Int) : (cutV xs lo hi).length ≤ xs.length := by
  unfold cutV
  rw [List.length_take, List.length_drop]
  omega
/-! ### t < u, t + u -/
end
end L2

namespace L2
open PySem PySem.Spec PyProof.Rows

/-! ### places -/
/-- the place that an index of any sign means -/
def ixN (n : Nat) (i : Int) : Option Nat := if 0 ≤ i then (if i < n then some i.toNat else none) else if -(n : Int) ≤ i then some (i + n).toNat else none
def atI {α : Type} (xs : List α) (i : Int) : Option α := (ixN xs.length i).bind fun j => xs[j]?
theorem ixN_seq {n : Nat} {i : Int} {j : Nat} (h : ixN n i = some j) : seqIndex? i n = some j ∧ j < n ∧ -(n : Int) ≤ i ∧ i < n := by
  unfold ixN at h
  by_cases h0 : 0 ≤ i
  · rw [if_pos h0] at h
    by_cases h1 : i < n
    · rw [if_pos h1] at h
      have e : i.toNat = j := Option.some.inj h
      exact ⟨by rw [seqIndex_of h0 h1, e], by omega, by omega, h1⟩
    · rw [if_neg h1] at h; cases h
  · rw [if_neg h0] at h
    by_cases h1 : -(n : Int) ≤ i
    · rw [if_pos h1] at h
      have e : (i + n).toNat = j := Option.some.inj h
      exact ⟨by rw [seqIndex_neg (by omega) h1, e], by omega, h1, by omega⟩
    · rw [if_neg h1] at h; cases h
theorem atI_get {α : Type} {xs : List α} {i : Int} {v : α} (h : atI xs i = some v) : ∃ j, seqIndex? i xs.length = some j ∧ xs[j]? = some v ∧ j < xs.length ∧ -(xs.length : Int) ≤ i ∧ i < xs.length := by
  unfold atI at h
  cases e : ixN xs.length i with
  | none => rw [e] at h; cases h
  | some j =>
    rw [e] at h
    obtain ⟨h1, h2, h3, h4⟩ := ixN_seq e
    exact ⟨j, h1, h, h2, h3, h4⟩
theorem atI_nat {α : Type} {xs : List α} {j : Nat} {v : α} (h : xs[j]? = some v) : atI xs (j : Int) = some v := by
  have hj : j < xs.length := (List.getElem?_eq_some_iff.mp h).1
  have e : ixN xs.length (j : Int) = some j := by
    unfold ixN
    rw [if_pos (by omega), if_pos (by omega)]; simp
  unfold atI; rw [e]; exact h
theorem atI_last {α : Type} (xs : List α) (v : α) : atI (xs ++ [v]) (-1) = some v := by
  have hl : (xs ++ [v]).length = xs.length + 1 := by simp
  have e : ixN (xs ++ [v]).length (-1) = some xs.length := by
    unfold ixN
    rw [hl, if_neg (by decide), if_pos (by omega)]
    congr 1
    omega
  unfold atI
  rw [e]
  show (xs ++ [v])[xs.length]? = some v
  simp

/-! ### what may be subscripted -/
/-- what stands as an index of a plain subscript -/
def PlainIx (b : Expr) : Prop := ∀ o i, subscripted b false o i = operate [o, i] (getItem o i)
/-- a subscript by values -/
def IxR (X : Cx) (r : R2) : Prop :=
  ∀ (value slice : Expr) (pins : List (Addr × Obj)) (s : Shared) (σ : St) (H : Hp) (x y : V) (v u : Value) (Q : VK), Inv X pins σ H s → RelV x v → RelV y u → r x y H Q →
    subscripted slice false v u = operate [v, u] (getItem v u) → wpAny (model X.prog X.w) X.A (subscriptTail value slice v u) (EP X pins σ Q) X.xe s
/-- a call of a builtin's method by values: the receiver, the arguments -/
def MtR (X : Cx) (id : String) (r : V → List V → Hp → VK → Prop) : Prop :=
  ∀ (pins : List (Addr × Obj)) (s : Shared) (σ : St) (H : Hp) (x : V) (xs : List V) (v : Value) (us : List Value) (Q : VK), Inv X pins σ H s → RelV x v → Vals xs us → r x xs H Q →
    wpAny (model X.prog X.w) X.A (call (.builtin id) (v :: us)) (EP X pins σ Q) X.xe s
section
variable {X : Cx} {a b : Expr} {ta tb : TE} {pos : Pos}
theorem IxR.or {r r' : R2} (h : IxR X r) (h' : IxR X r') : IxR X (fun x y H Q => r x y H Q ∨ r' x y H Q) := by
  intro value slice pins s σ H x y v u Q I rx ry q hs
  rcases q with q | q
  · exact h value slice pins s σ H x y v u Q I rx ry q hs
  · exact h' value slice pins s σ H x y v u Q I rx ry q hs
theorem MtR.or {id : String} {r r' : V → List V → Hp → VK → Prop} (h : MtR X id r) (h' : MtR X id r') : MtR X id (fun x xs H Q => r x xs H Q ∨ r' x xs H Q) := by
  intro pins s σ H x xs v us Q I rx rs q
  rcases q with q | q
  · exact h pins s σ H x xs v us Q I rx rs q
  · exact h' pins s σ H x xs v us Q I rx rs q
/-- a[b] -/
theorem pe_ix {r : R2} (hr : IxR X r) (ha : PE X a ta) (hb : PE X b tb) (hs : PlainIx b) : PE X (.Subscript a b pos) (tOp r ta tb) := by
  intro pins s σ H Q I h
  exact Subscript_ (binT ha hb I h fun v u s2 x y H2 I2 rx ry q => hr a b pins s2 σ H2 x y v u Q I2 rx ry q (hs _ _))

def rIxL (K : PySem.W.Frag) : R2 := fun x y H Q => ∃ p xs i v, x = .ref p ∧ y = .int i ∧ SqL K H p xs ∧ atI xs i = some v ∧ Q v H
def rIxT (K : PySem.W.Frag) : R2 := fun x y H Q => ∃ p xs i v, x = .ref p ∧ y = .int i ∧ SqT K H p xs ∧ atI xs i = some v ∧ Q v H
def rIxS : R2 := fun x y H Q => ∃ z i c, x = .str z ∧ y = .int i ∧ z.length ≤ sizeLine ∧ atI z.cps.toList i = some c ∧ Q (.str ⟨#[c]⟩) H
theorem ix_list : IxR X (rIxL X.K) := by
  intro value slice pins s σ H x y v u Q I rx ry h hs
  obtain ⟨p, xs, i, z, rfl, rfl, hq, he, q⟩ := h
  cases rx
  obtain ⟨t, rfl⟩ := ry
  obtain ⟨its, r, pl, hz⟩ := I.list hq
  obtain ⟨j, h1, h2, h3, h4, h5⟩ := atI_get he
  obtain ⟨w, ew, rw'⟩ := r.get h2
  have hl := r.length
  have hn := line63
  have fin : EP X pins σ Q w s := ⟨z, H, I, rw', q⟩
  by_cases h0 : 0 ≤ i
  · have hj : i.toNat = j := by
      rw [seqIndex_of h0 h5] at h1
      exact Option.some.inj h1
    exact item_listR pl.isList h0 (by omega) (by rw [hj]; simpa using ew) fin hs
  · have hj : (i + (its.toArray.size : Int)).toNat = j := by
      rw [seqIndex_neg (by omega) h4] at h1
      rw [List.size_toArray, ← hl]
      exact Option.some.inj h1
    exact subscriptTail_builtinR (x := w) pl.isList.typeIs slot_list_getitem.lookup
      (wpAny_getItem_list_neg (Q := fun r s' => r = w ∧ EP X pins σ Q r s') pl.isList (by omega) (by rw [List.size_toArray] <;> omega) (by omega) (by rw [hj]; simpa using ew) ⟨rfl, fin⟩) hs
theorem ix_tup : IxR X (rIxT X.K) := by
  intro value slice pins s σ H x y v u Q I rx ry h hs
  obtain ⟨p, xs, i, z, rfl, rfl, hq, he, q⟩ := h
  cases rx
  obtain ⟨t, rfl⟩ := ry
  obtain ⟨its, r, pl, hz⟩ := I.tuple hq
  obtain ⟨j, h1, h2, h3, h4, h5⟩ := atI_get he
  obtain ⟨w, ew, rw'⟩ := r.get h2
  have hl := r.length
  have hn := line63
  have fin : EP X pins σ Q w s := ⟨z, H, I, rw', q⟩
  exact subscriptTail_builtinR (x := w) pl.typeIs slot_tuple_getitem.lookup
    (getItem_tuple (j := j) (Q := fun r s' => r = w ∧ EP X pins σ Q r s') pl (by omega) (by omega) (by rw [List.size_toArray, ← hl]; exact h1) (by simpa using ew) ⟨rfl, fin⟩) hs
theorem ix_str : IxR X rIxS := by
  intro value slice pins s σ H x y v u Q I rx ry h hs
  obtain ⟨z, i, c, rfl, rfl, hz, he, q⟩ := h
  obtain ⟨t, rfl⟩ := rx
  obtain ⟨t', rfl⟩ := ry
  obtain ⟨j, h1, h2, h3, h4, h5⟩ := atI_get he
  have hl : z.cps.toList.length = z.length := by simp [Str.length]
  rw [hl] at h1 h4 h5
  have hn := line63
  exact tail_any (typeIs_str s z t) slot_str_getitem.lookup (getItem_str (c := c) (by
    have e1 : decide (i < -(2 ^ 63 : Int)) = false := decide_eq_false (by omega)
    have e2 : decide (i ≥ 2 ^ 63) = false := decide_eq_false (by omega)
    rw [e1, e2, Bool.or_false]) (by rw [h1]; simpa using h2) ⟨.str ⟨#[c]⟩, H, I.tok _, ⟨_, rfl⟩, q⟩) hs
/-! ### xs[i] = v, any sign -/
/-- the list's object behind a store -/
theorem mapSeq_set (its : List Value) (n j : Nat) (u : Value) : Obj.mapSeq (·.setIfInBounds j u) { cls := .type "list", data := .seq its.toArray n } = { cls := .type "list", data := .seq (its.set j u).toArray n } := by
  simp [Obj.mapSeq]
theorem Inv.lst {pins : List (Addr × Obj)} {σ : St} {H : Hp} {s : Shared} {p : Addr} {xs : List V} (I : Inv X pins σ H s) (h : H p = some (.lst xs)) :
    ∃ (its : List Value) (n : Nat), Vals xs its ∧ s.heap.get? p = some { cls := .type "list", data := .seq its.toArray n } ∧ xs.length ≤ sizeLine := by
  obtain ⟨z, its, n, r, e⟩ := I.hok p _ h
  exact ⟨its, n, r, e, z⟩
/-- the list at p is written by an update of its object -/
theorem Inv.lstUpd {pins : List (Addr × Obj)} {σ : St} {H : Hp} {s : Shared} {p : Addr} {xs ys : List V} {its its' : List Value} {n n' : Nat} {f : Obj → Obj} (I : Inv X pins σ H s) (h : H p = some (.lst xs))
    (ho : s.heap.get? p = some { cls := .type "list", data := .seq its.toArray n }) (hf : f { cls := .type "list", data := .seq its.toArray n } = { cls := .type "list", data := .seq its'.toArray n' }) (r : Vals ys its') (hz : ys.length ≤ sizeLine) (t : Nat) :
    Inv X pins σ (upd H p (.lst ys)) { s with heap := s.heap.update p f, toks := t } := by
  have e : (s.heap.update p f).get? p = some { cls := .type "list", data := .seq its'.toArray n' } := by
    rw [Heap.get?_update_self f ho (by rw [hf] <;> rfl), hf]
  refine I.write (x := p) (e := p) (by rw [h]; trivial) (.inl rfl) (fun b u hb q => (Heap.get?_update_other _ _ (Ne.symm hb)).trans q) ⟨_, e⟩ ?_
  exact ⟨hz, its', n', r, e⟩
def rSetL : V → V → V → Hp → (Hp → Prop) → Prop := fun o i v H Q => ∃ p xs k j, o = .ref p ∧ i = .int k ∧ H p = some (.lst xs) ∧ ixN xs.length k = some j ∧ Q (upd H p (.lst (xs.set j v)))
theorem set_list : PSet X rSetL := by
  intro pins s σ H o i v ov iv u Q I ro ri rv h
  obtain ⟨p, xs, k, j, rfl, rfl, hp, hj, q⟩ := h
  cases ro
  obtain ⟨t, rfl⟩ := ri
  obtain ⟨its, n, r, ho, hz⟩ := I.lst hp
  obtain ⟨h1, h2, h3, h4⟩ := ixN_seq hj
  have hl := r.length
  have hn := line63
  have I' : Inv X pins σ (upd H p (.lst (xs.set j v))) { s with heap := s.heap.update p (Obj.mapSeq (·.setIfInBounds j u)) } :=
    I.lstUpd hp ho (mapSeq_set its n j u) (r.set rv j) (by rw [List.length_set]; exact hz) s.toks
  by_cases h0 : 0 ≤ k
  · have hk : k.toNat = j := by
      rw [seqIndex_of h0 h4] at h1
      exact Option.some.inj h1
    exact PySem.W.ki_setAt ho h0 (by omega) (by rw [List.size_toArray, ← hl]; exact h4) (by rw [hk]; exact ⟨_, I', q⟩)
  · have hk : (k + (its.toArray.size : Int)).toNat = j := by
      rw [seqIndex_neg (by omega) h3] at h1
      rw [List.size_toArray, ← hl]
      exact Option.some.inj h1
    exact PySem.W.ki_setBack ho (by omega) (by rw [List.size_toArray, ← hl]; exact h3) (by omega) (by rw [hk]; exact ⟨_, I', q⟩)

/-! ### slices -/
theorem slice_bounds (lo hi : Option Int) (n : Nat) : (sliceBounds lo hi none n).1 = ((HT.sIx n 0 lo : Nat) : Int) ∧ (sliceBounds lo hi none n).2.1 = ((HT.sIx n n hi : Nat) : Int) ∧ (sliceBounds lo hi none n).2.2 = 1 := by
  refine ⟨?_, ?_, rfl⟩
  · cases lo with
    | none => simp [sliceBounds, HT.sIx]
    | some i =>
      simp only [sliceBounds, HT.sIx, Option.getD_none, show (1 : Int) > 0 by decide, if_true]
      by_cases h : i < 0
      · simp only [h, if_true] <;> omega
      · simp only [h, if_false] <;> omega
  · cases hi with
    | none => simp [sliceBounds, HT.sIx]
    | some i =>
      simp only [sliceBounds, HT.sIx, Option.getD_none, show (1 : Int) > 0 by decide, if_true]
      by_cases h : i < 0
      · simp only [h, if_true] <;> omega
      · simp only [h, if_false] <;> omega
theorem slicePick_cut (its : List Value) (lo hi : Option Int) : slicePick its.toArray lo hi none = ((its.drop (HT.sIx its.length 0 lo)).take (HT.sIx its.length its.length hi - HT.sIx its.length 0 lo)).toArray := by
  obtain ⟨h1, h2, h3⟩ := slice_bounds lo hi its.toArray.size
  unfold slicePick
  rw [h1, h2, h3]
  simp only [sliceRange_one, pick_run, List.size_toArray] <;> rfl
/-- xs[lo:hi] of a list: a new list -/
def rSlL (K : PySem.W.Frag) : V → Option Int → Option Int → Hp → VK → Prop := fun x lo hi H Q => ∃ a xs, x = .ref a ∧ SqL K H a xs ∧ ∀ p, H p = none → Q (.ref p) (upd H p (.lst (cutV xs lo hi)))
theorem sl_list : SlR X (rSlL X.K) := by
  intro pins s σ H x v vl vu lo hi sl Q I rx hs pl pu h
  obtain ⟨a, xs, rfl, hx, q⟩ := h
  cases rx
  obtain ⟨its, r, ht, hz⟩ := I.list hx
  have hlen := r.length
  refine ⟨"list", _, slot_list_getitem.lookup, ht.isList.typeIs, ?_⟩
  refine wpAny_getItem_list_slice ht.isList hs pl pu .none (by simp) ?_ (by rw [List.size_toArray] <;> omega)
  rw [slicePick_cut, ← hlen]
  refine ⟨.ref s.heap.objs.size, _, I.laid (t' := s.toks) (o := .lst (cutV xs lo hi)) (fun b ob q => Heap.get?_push_of_some _ q) (Nat.le_refl _) ?_, rfl, q _ (I.hok.fresh (Nat.le_refl _))⟩
  exact ⟨Nat.le_trans (cutV_length xs lo hi) hz, _, 0, (r.drop (HT.sIx xs.length 0 lo)).take (HT.sIx xs.length xs.length hi - HT.sIx xs.length 0 lo), Heap.get?_push_size _ rfl⟩

/-! ### in, not in: flat items -/
/-! ### len, list(x), tuple(x) of any list or tuple that is read -/
theorem call_len_seq : CallR X (.builtin "len") (fun xs H Q => ∃ p ys, xs = [.ref p] ∧ (SqL X.K H p ys ∨ SqT X.K H p ys) ∧ Q (.int ys.length) H) := by
  intro pins s σ H xs us Q I r h
  obtain ⟨p, ys, rfl, hq, q⟩ := h
  obtain ⟨u, rfl, rx⟩ := vals1 r
  cases rx
  have hn := line63
  rcases hq with hq | hq
  · obtain ⟨its, r', pl, hz⟩ := I.list hq
    have hlen := r'.length
    exact Calls.call_len_list pl.isList (by simp only [List.size_toArray] <;> omega) ⟨.int ys.length, H, I.tok _, ⟨s.toks + 1, by rw [List.size_toArray, hlen]⟩, q⟩
  · obtain ⟨its, r', pl, hz⟩ := I.tuple hq
    have hlen := r'.length
    exact len_tuple pl (by simp only [List.size_toArray] <;> omega) ⟨.int ys.length, H, I.tok _, ⟨s.toks + 1, by rw [List.size_toArray, hlen]⟩, q⟩
theorem call_len_str : CallR X (.builtin "len") (fun xs H Q => ∃ z, xs = [.str z] ∧ z.length ≤ sizeLine ∧ Q (.int z.length) H) := by
  intro pins s σ H xs us Q I r h
  obtain ⟨z, rfl, hz, q⟩ := h
  obtain ⟨u, rfl, t, rfl⟩ := vals1 r
  have hn := line63
  exact len_str (by omega) ⟨.int z.length, H, I.tok _, ⟨_, rfl⟩, q⟩
theorem CallR.or {f : Value} {r r' : List V → Hp → VK → Prop} (h : CallR X f r) (h' : CallR X f r') : CallR X f (fun xs H Q => r xs H Q ∨ r' xs H Q) := by
  intro pins s σ H xs us Q I rs q
  rcases q with q | q
  · exact h pins s σ H xs us Q I rs q
  · exact h' pins s σ H xs us Q I rs q
theorem call_list_of : CallR X (.type "list") (fun xs H Q => ∃ p ys, xs = [.ref p] ∧ (SqL X.K H p ys ∨ SqT X.K H p ys) ∧ ∀ l, H l = none → Q (.ref l) (upd H l (.lst ys))) := by
  intro pins s σ H xs us Q I r h
  obtain ⟨p, ys, rfl, hq, q⟩ := h
  obtain ⟨u, rfl, rx⟩ := vals1 r
  cases rx
  have fin : ∀ (its : List Value), Vals ys its → ys.length ≤ sizeLine → ∀ (h' : Heap) (c' : Nat), (∀ b o', s.heap.get? b = some o' → h'.get? b = some o') →
      h'.get? s.heap.objs.size = some { cls := .type "list", dict := none, data := .seq its.toArray c', slots := #[] } → EP X pins σ Q (.ref s.heap.objs.size) { s with heap := h' } := fun its r' hz h' c' kp e =>
    ⟨.ref s.heap.objs.size, _, I.laid (t' := s.toks) kp (Nat.le_refl _) (show ObjOk X.prog X.w _ h' _ (.lst ys) from ⟨hz, its, c', r', e⟩), rfl, q _ (I.hok.fresh (Nat.le_refl _))⟩
  rcases hq with hq | hq
  · obtain ⟨its, r', pl, hz⟩ := I.list hq
    have hlen := r'.length
    obtain ⟨o, ho, hc, n, hd⟩ := pl.isList
    exact call_list_seq p (.inl rfl) ho hc hd (fun h' c' kp e => fin its r' hz h' c' kp e) (by simp only [List.size_toArray] <;> omega)
  · obtain ⟨its, r', pl, hz⟩ := I.tuple hq
    have hlen := r'.length
    obtain ⟨o, ho, hc, n, hd⟩ := pl
    exact call_list_seq p (.inr rfl) ho hc hd (fun h' c' kp e => fin its r' hz h' c' kp e) (by simp only [List.size_toArray] <;> omega)
theorem call_tuple_of : CallR X (.type "tuple") (fun xs H Q => ∃ p ys, xs = [.ref p] ∧ ((SqL X.K H p ys ∧ ∀ l, H l = none → Q (.ref l) (upd H l (.tup ys))) ∨ (SqT X.K H p ys ∧ Q (.ref p) H))) := by
  intro pins s σ H xs us Q I r h
  obtain ⟨p, ys, rfl, h⟩ := h
  obtain ⟨u, rfl, rx⟩ := vals1 r
  cases rx
  rcases h with ⟨hq, q⟩ | ⟨hq, q⟩
  · obtain ⟨its, r', pl, hz⟩ := I.list hq
    have hlen := r'.length
    refine call_tuple_list pl.isList (fun h' kp => ?_) (by simp only [List.size_toArray] <;> omega)
    have I1 : Inv X pins σ H { s with heap := h' } := I.kept (t' := s.toks) kp
    have I2 : Inv X pins σ (upd H h'.objs.size (.tup ys)) { s with heap := h'.push { cls := .type "tuple", data := .seq its.toArray } } :=
      I1.laid (t' := s.toks) (fun b o e => Heap.get?_push_of_some _ e) (Nat.le_refl _) (show ObjOk X.prog X.w _ _ _ (.tup ys) from ⟨hz, its, r', IsTup.new _ _⟩)
    exact ⟨.ref h'.objs.size, _, I2, rfl, q _ (I1.hok.fresh (Nat.le_refl _))⟩
  · obtain ⟨its, r', pl, hz⟩ := I.tuple hq
    exact call_tuple_same pl ⟨.ref p, H, I, rfl, q⟩

/-! ### the call of a builtin's method: o.m(..) -/
/-- the value is of that builtin type -/
def tyV (K : PySem.W.Frag) (T : String) (x : V) (H : Hp) : Prop := match x with
  | .str _ => T = "str"
  | .int _ => T = "int"
  | .ref p => (T = "list" ∧ ∃ xs, SqL K H p xs) ∨ (T = "tuple" ∧ ∃ o, K.lookup p = some o ∧ o.cls = .type "tuple" ∧ o.dict = none) ∨
      (T = "dict" ∧ ((∃ kvs, H p = some (.dK kvs)) ∨ ∃ kvs, H p = some (.dT kvs))) ∨ (T = "set" ∧ ∃ S n, H p = some (.set S n))
  | _ => False
theorem tyV_is {pins : List (Addr × Obj)} {σ : St} {H : Hp} {s : Shared} {T : String} {x : V} {v : Value} (I : Inv X pins σ H s) (r : RelV x v) (ty : tyV X.K T x H) :
    s.TypeIs v T ∧ ∀ a, v = .ref a → ∃ ob, s.heap.get? a = some ob ∧ ob.dict = none := by
  cases x with
  | str z =>
    obtain ⟨t, rfl⟩ := r
    cases (show T = "str" from ty)
    exact ⟨typeIs_str s z t, fun _ e => nomatch e⟩
  | int i =>
    obtain ⟨t, rfl⟩ := r
    cases (show T = "int" from ty)
    exact ⟨typeIs_int s i t, fun _ e => nomatch e⟩
  | ref p =>
    cases r
    rcases ty with ⟨rfl, xs, hq⟩ | ⟨rfl, o, hk, hc, hd⟩ | ⟨rfl, hk⟩ | ⟨rfl, S, n, hk⟩
    · obtain ⟨its, _, pl, _⟩ := I.list hq
      refine ⟨pl.isList.typeIs, fun a e => ?_⟩
      cases e
      obtain ⟨o, n, e, c, hd, _⟩ := pl
      exact ⟨o, e, hd⟩
    · refine ⟨⟨o, I.kIn p o hk, hc⟩, fun a e => ?_⟩
      cases e
      exact ⟨o, I.kIn _ o hk, hd⟩
    · have z : ∃ o, s.heap.get? p = some o ∧ o.ExactDict := by
        rcases hk with ⟨kvs, hk⟩ | ⟨kvs, hk⟩
        · obtain ⟨_, _, _, _, o, _, _, e, ex, _⟩ := I.hok p _ hk
          exact ⟨o, e, ex⟩
        · obtain ⟨_, _, _, _, o, _, _, e, ex, _⟩ := I.hok p _ hk
          exact ⟨o, e, ex⟩
      obtain ⟨o, e, ex⟩ := z
      refine ⟨⟨o, e, ex.1⟩, fun a e2 => ?_⟩
      cases e2
      exact ⟨o, e, ex.2.1⟩
    · obtain ⟨o, _, _, _, e, ex, _⟩ := I.hok p _ hk
      refine ⟨⟨o, e, ex.1⟩, fun a e2 => ?_⟩
      cases e2
      exact ⟨o, e, ex.2.1⟩
  | _ => exact False.elim ty
def tBM0 (K : PySem.W.Frag) (T : String) (r : V → List V → Hp → VK → Prop) (to : TE) : TE := fun σ H Q => to σ H fun x H1 => tyV K T x H1 ∧ r x [] H1 Q
def tBM (K : PySem.W.Frag) (T : String) (r : V → List V → Hp → VK → Prop) (to : TE) (t : TA) : TE := fun σ H Q => to σ H fun x H1 => tyV K T x H1 ∧ t σ H1 fun xs H2 => r x xs H2 Q
variable {o e : Expr} {es : List Expr} {to : TE} {t : TA} {name : Str} {apos cpos : Pos} {T id : String} {r : V → List V → Hp → VK → Prop}
theorem pe_bm0 (pa : PlainAttrs T) (slot : Slot T name id) (hty : typeOf (.builtin id) = pure (.type "method_descriptor")) (hm : MtR X id r) (ho : PE X o to)
    (hbase : attributeBase o name X.env (eval o X.env) = eval o X.env := by rfl) (hline : (apos.endLine == cpos.line) = true := by rfl) : PE X (.Call (.Attribute o name apos) [] [] cpos) (tBM0 X.K T r to) := by
  intro pins s σ H Q I h
  refine wpAny_Call_method0_late hbase hline (thn (ho pins s σ H _ I h) fun v s1 ⟨x, H1, I1, r1, ty, q1⟩ => ?_)
  obtain ⟨h1, h2⟩ := tyV_is I1 r1 ty
  exact ⟨T, id, pa, slot, hty, h1, h2, Calls.callWith_builtin rfl (PySem.evalArgs_none (hm pins s1 σ H1 x [] v [] Q I1 r1 .nil q1))⟩
theorem pe_bm (pa : PlainAttrs T) (slot : Slot T name id) (hty : typeOf (.builtin id) = pure (.type "method_descriptor")) (hm : MtR X id r) (ho : PE X o to) (ha : PA X (e :: es) t)
    (hbase : attributeBase o name X.env (eval o X.env) = eval o X.env := by rfl)
    (hfew : ((backTo cpos (starEach (e :: es) X.env)).all (fun x => !x.1) && (backToKw cpos (keywordEach [] X.env)).all (fun x => x.1.isSome)
      && decide ((e :: es).length + ([] : List Keyword).length + (if ([] : List Keyword).isEmpty then 0 else 1) < 30)) = true := by rfl)
    (hline : (apos.endLine == cpos.line) = true := by rfl) (hs : starEach (e :: es) X.env = (false, eval e X.env) :: starEach es X.env := by rfl) (hplain : (backTo cpos (starEach es X.env)).any (·.1) = false := by rfl) :
    PE X (.Call (.Attribute o name apos) (e :: es) [] cpos) (tBM X.K T r to t) := by
  intro pins s σ H Q I h
  refine wpAny_Call_method_late hbase hfew hline rfl (thn (ho pins s σ H _ I h) fun v s1 ⟨x, H1, I1, r1, ty, q1⟩ => ?_)
  obtain ⟨h1, h2⟩ := tyV_is I1 r1 ty
  refine ⟨T, id, pa, slot, hty, h1, h2, ?_⟩
  have hA := ha cpos pins s1 σ H1 _ I1 q1
  rw [hs] at hA ⊢
  refine Calls.callWith_builtin (by show (false || (backTo cpos (starEach es X.env)).any (·.1)) = false; rw [hplain] <;> rfl) (Calls.evalArgs_plain ?_)
  exact thn hA fun us s2 ⟨vs, H2, I2, r2, q2⟩ => hm pins s2 σ H2 x vs v us Q I2 r1 r2 q2
/- xs.append(e), list.index on a module's tuple .. are MtR facts of 06m -/
end
end L2

namespace L2
open PySem PySem.Spec PyProof.Rows

def MtM (X : Cx) (id : String) (r : V → List V → Hp → VK → Prop) : Prop :=
  ∀ (pins : List (Addr × Obj)) (s : Shared) (σ : St) (H : Hp) (x : V) (xs : List V) (v : Value) (us : List Value) (Q : VK), Inv X pins σ H s → RelV x v → Vals xs us → r x xs H Q →
    wpAny (model X.prog X.w) X.A (call (.builtin id) (v :: us)) (EP X pins σ Q) X.xe s

/-! ### lists of values -/
theorem Vals.one : ∀ {x : V} {us : List Value}, Vals [x] us → ∃ u, us = [u] ∧ RelV x u
  | _, _, .cons r .nil => ⟨_, rfl, r⟩
theorem Vals.two : ∀ {x y : V} {us : List Value}, Vals [x, y] us → ∃ u v, us = [u, v] ∧ RelV x u ∧ RelV y v
  | _, _, _, .cons r (.cons q .nil) => ⟨_, _, rfl, r, q⟩
theorem Vals.zero : ∀ {us : List Value}, Vals [] us → us = []
  | _, .nil => rfl
theorem Vals.dropLast {xs : List V} {us : List Value} (h : Vals xs us) : Vals xs.dropLast us.dropLast := by
  induction h with
  | nil => exact .nil
  | cons r t ih =>
    cases t with
    | nil => exact .nil
    | cons q t' => exact .cons r ih
theorem Vals.eraseIdx : ∀ {xs : List V} {us : List Value} (i : Nat), Vals xs us → Vals (xs.eraseIdx i) (us.eraseIdx i)
  | _, _, _, .nil => .nil
  | _, _, 0, .cons _ t => t
  | _, _, i + 1, .cons r t => .cons r (Vals.eraseIdx i t)
theorem Vals.reverse {xs : List V} {us : List Value} (h : Vals xs us) : Vals xs.reverse us.reverse := by
  induction h with
  | nil => exact .nil
  | cons r t ih => rw [List.reverse_cons, List.reverse_cons]; exact Vals.append ih (.cons r .nil)
theorem erase_last {α : Type} (l : List α) : l.eraseIdx (l.length - 1) = l.dropLast := by
  induction l with
  | nil => rfl
  | cons a r ih =>
    cases r with
    | nil => rfl
    | cons b r =>
      have e : (a :: b :: r).length - 1 = ((b :: r).length - 1) + 1 := by
        have h1 : (a :: b :: r).length = r.length + 2 := rfl
        have h2 : (b :: r).length = r.length + 1 := rfl
        omega
      rw [e, List.eraseIdx_cons_succ, ih]
      all_goals rfl
theorem len_erase {α : Type} : ∀ (l : List α) (i : Nat), (l.eraseIdx i).length ≤ l.length
  | [], _ => Nat.le_refl _
  | _ :: _, 0 => Nat.le_succ _
  | _ :: r, i + 1 => Nat.succ_le_succ (len_erase r i)
section
variable {X : Cx} {pins : List (Addr × Obj)} {σ : St} {H : Hp} {s : Shared} {l b : Addr} {xs ys zs : List V}

/-! ### the two steps: a tracked list is rewritten, a new list is laid -/
theorem Inv.lset {its its' : List Value} {n : Nat} {f : Array Value → Array Value} {t' : Nat} (I : Inv X pins σ H s) (hH : H l = some (.lst xs))
    (e : s.heap.get? l = some { cls := .type "list", data := .seq its.toArray n }) (hf : f its.toArray = its'.toArray) (hv : Vals ys its') (hz : ys.length ≤ sizeLine) :
    Inv X pins σ (upd H l (.lst ys)) { s with heap := s.heap.update l (Obj.mapSeq f), toks := t' } := by
  have q := PySem.IsL.update e f
  rw [hf] at q
  refine I.write (x := l) (e := l) (by rw [hH]; exact trivial) (.inl rfl) (fun b' u hb hu => (Heap.get?_update_other s.heap (Obj.mapSeq f) (Ne.symm hb)).trans hu) ⟨_, q⟩ ?_
  exact ⟨hz, its', _, hv, q⟩
theorem Inv.lnew {its : List Value} {t' : Nat} (I : Inv X pins σ H s) (hv : Vals ys its) (hz : ys.length ≤ sizeLine) :
    Inv X pins σ (upd H s.heap.objs.size (.lst ys)) { s with heap := s.heap.push { cls := .type "list", data := .seq its.toArray }, toks := t' } :=
  I.laid (fun _ _ q => Heap.get?_push_of_some _ q) (Nat.le_refl _) ⟨hz, its, 0, hv, Heap.get?_push_size _ rfl⟩
theorem Inv.fresh (I : Inv X pins σ H s) : H s.heap.objs.size = none := I.hok.fresh (Nat.le_refl _)
theorem Inv.lstM (I : Inv X pins σ H s) (hH : H l = some (.lst xs)) : xs.length ≤ sizeLine ∧ ∃ (its : List Value) (n : Nat), Vals xs its ∧ xs.length = its.length ∧ s.heap.get? l = some { cls := .type "list", data := .seq its.toArray n } := by
  obtain ⟨z, its, n, r, e⟩ := I.hok l _ hH
  exact ⟨z, its, n, r, r.length, e⟩

end

section
variable {X : Cx}

/-! ### methods -/
def rAppend : V → List V → Hp → VK → Prop := fun x vs H Q => ∃ l xs y, x = .ref l ∧ vs = [y] ∧ H l = some (.lst xs) ∧ xs.length < sizeLine ∧ Q .non (upd H l (.lst (xs ++ [y])))
theorem mt_append : MtM X "list.append" rAppend := by
  intro pins s σ H x vs v us Q I rx rv h
  obtain ⟨l, xs, y, rfl, rfl, hH, hz, q⟩ := h
  cases rx
  obtain ⟨u, rfl, ru⟩ := rv.one
  obtain ⟨z, its, n, r, hl, e⟩ := I.lstM hH
  refine call_meets F.slot_list_append ⟨_, e, rfl⟩ F.entry_list_append (F.args_list_append_2 _ _) (PySem.list_append l its.toArray n u (by rw [List.size_toArray]; omega)) ⟨e, ?_⟩
  refine ⟨.non, _, I.lset (its' := its ++ [u]) hH e (by simp) (r.append (.cons ru .nil)) ?_, rfl, q⟩
  rw [List.length_append, List.length_singleton]
  omega

def rPop : V → List V → Hp → VK → Prop := fun x vs H Q => ∃ l xs y, x = .ref l ∧ vs = [] ∧ H l = some (.lst xs) ∧ xs[xs.length - 1]? = some y ∧ Q y (upd H l (.lst xs.dropLast))
theorem mt_pop : MtM X "list.pop" rPop := by
  intro pins s σ H x vs v us Q I rx rv h
  obtain ⟨l, xs, y, rfl, rfl, hH, hy, q⟩ := h
  cases rx
  have hus := rv.zero
  subst hus
  obtain ⟨z, its, n, r, hl, e⟩ := I.lstM hH
  obtain ⟨u, hu, ru⟩ := r.get hy
  have hy' : its.toArray[its.toArray.size - 1]? = some u := by
    show its.toArray[its.length - 1]? = some u
    rw [← Array.getElem?_toList, ← hl]
    exact hu
  refine call_meets F.slot_list_pop ⟨_, e, rfl⟩ F.entry_list_pop (F.args_list_pop_1 _) (MeetsSeq.list_pop_last l its.toArray n u hy' (by rw [List.size_toArray]; omega)) ⟨e, ?_⟩
  refine ⟨y, _, I.lset (its' := its.dropLast) hH e ?_ r.dropLast ?_, ru, q⟩
  · show its.toArray.eraseIdxIfInBounds (its.toArray.size - 1) = its.dropLast.toArray
    rw [List.size_toArray, List.eraseIdxIfInBounds_toArray, erase_last]
  · rw [List.length_dropLast]
    omega

def rPopAt : V → List V → Hp → VK → Prop := fun x vs H Q => ∃ l xs i k y, x = .ref l ∧ vs = [.int i] ∧ H l = some (.lst xs) ∧ -(2 ^ 63) ≤ i ∧ i < 2 ^ 63 ∧ seqIndex? i xs.length = some k ∧ xs[k]? = some y ∧ Q y (upd H l (.lst (xs.eraseIdx k)))
theorem mt_popAt : MtM X "list.pop" rPopAt := by
  intro pins s σ H x vs v us Q I rx rv h
  obtain ⟨l, xs, i, k, y, rfl, rfl, hH, h1, h2, hk, hy, q⟩ := h
  cases rx
  obtain ⟨u, rfl, ru⟩ := rv.one
  obtain ⟨t, rfl⟩ := ru
  obtain ⟨z, its, n, r, hl, e⟩ := I.lstM hH
  obtain ⟨w, hw, rw'⟩ := r.get hy
  refine call_meets F.slot_list_pop ⟨_, e, rfl⟩ F.entry_list_pop (F.args_list_pop_2 _ _)
    (MeetsSeq.list_pop_at l its.toArray n i t k w (fitsIndex_both h1 h2) (by rw [List.size_toArray, ← hl]; exact hk) (by rw [← Array.getElem?_toList]; exact hw) (by rw [List.size_toArray]; omega)) ⟨e, ?_⟩
  refine ⟨y, _, I.lset (its' := its.eraseIdx k) hH e ?_ (r.eraseIdx k) ?_, rw', q⟩
  · show its.toArray.eraseIdxIfInBounds k = (its.eraseIdx k).toArray
    rw [List.eraseIdxIfInBounds_toArray]
  · have := len_erase xs k
    omega

/-! ### list + list, list += list, list * int -/
def rCat : R2 := fun x y H Q => ∃ l b xs zs, x = .ref l ∧ y = .ref b ∧ H l = some (.lst xs) ∧ H b = some (.lst zs) ∧ xs.length + zs.length ≤ sizeLine ∧ ∀ p, H p = none → Q (.ref p) (upd H p (.lst (xs ++ zs)))
theorem op_cat : OpR X (binaryOp .Add) rCat := by
  intro pins s σ H x y v u Q I rx ry h
  obtain ⟨l, b, xs, zs, rfl, rfl, hH, hB, hz, q⟩ := h
  cases rx
  cases ry
  obtain ⟨z, its, n, r, hl, e⟩ := I.lstM hH
  obtain ⟨z2, its2, n2, r2, hl2, e2⟩ := I.lstM hB
  refine PySem.P.add_list e e2 ?_ (by rw [List.size_toArray, List.size_toArray]; omega)
  have ea : its.toArray ++ its2.toArray = (its ++ its2).toArray := by simp
  rw [ea]
  exact ⟨.ref _, _, I.lnew (t' := s.toks) (r.append r2) (by rw [List.length_append]; omega), rfl, q _ I.fresh⟩
/-! ### del xs[i] -/
end

/-! ### xs[a:b] = ys -/
section
variable {prog : Program} {w : World} {A : Around} {E : Value → Shared → Prop} {s : Shared}
end

section
variable {X : Cx}
end
end L2

namespace Att
open PySem PySem.W PySem.Calls PyProof.Rows

/-! ### the script -/
theorem ints_of_wellAll {P : Params} {h : Heap} : ∀ (ns : List Int) (vs : List Value), WellAll P h vs (ns.map WData.int) → IntsAre vs ns := by
  intro ns
  induction ns with
  | nil =>
    intro vs w
    rw [List.map_nil] at w
    cases w
    exact .nil
  | cons n ns ih =>
    intro vs w
    rw [List.map_cons] at w
    cases w with
    | cons a b =>
      cases a
      exact .cons _ _ (ih _ b)

theorem script_of {l : OpenLaw} {n : Nat} (hn : l.most = some n) {P : Params} {h : Heap} {args : List WData} {vals : List Value}
    (hpre : l.row.toRowW.claim.pre args = true) (hwl : WellAll P h vals args) :
    ∃ a vs ns, vals = [Value.ref a] ∧ args = [WData.list (ns.map WData.int)] ∧ h.get? a = some { cls := .type "list", data := .seq vs.toArray } ∧ IntsAre vs ns ∧ ns.length ≤ n := by
  have hsh : WShape.hasAll [] args [.list .int] = true := (pre_splitW hpre).1
  have hc : l.pre.holds [] { args := args } = true := (pre_splitW hpre).2
  obtain ⟨d, r, rfl, h1, h2⟩ := hasAllW_cons hsh
  obtain rfl := hasAllW_nil h2
  obtain ⟨xs, rfl, h3⟩ := hasW_list h1
  obtain ⟨ns, rfl⟩ := items_int h3
  have hlen : ns.length ≤ n := by
    unfold OpenLaw.pre at hc
    have h4 : (WTm.not (.lt (.lit (.int (n : Int))) (.len (.arg 0)))).holds [] { args := [.list (ns.map .int)] } = true := by
      have h4 := (holds_andW hc).1
      rw [hn] at h4
      exact h4
    have h5 := condW_of h4 (w_not (w_lt w_lit (w_len_list (w_arg rfl))))
    rw [List.length_map] at h5
    refine Nat.le_of_not_lt fun q => ?_
    have q' : (n : Int) < ((ns.length : Nat) : Int) := by omega
    first
      | (rw [decide_eq_true q'] at h5; exact absurd h5 (by decide))
      | (simp at h5; omega)
  cases hwl with
  | cons w1 w2 =>
    cases w2
    cases w1 with
    | list ho hall => exact ⟨_, _, ns, rfl, rfl, ho, ints_of_wellAll ns _ hall, hlen⟩

theorem post_true (l : OpenLaw) (args : List WData) : l.row.toRowW.claim.post args (.bool true) args = true :=
  postW_of (r := l.row.toRowW) (X := (true == true))
    (show WShape.has [] (.bool true) .bool = true by first | rfl | decide | simp [WShape.has, WShape.arms, WShape.armsAll])
    (show (WTm.eq .res (.lit (.bool true))).value [] { args := args, res := some (.bool true), after := args } = some (.bool (true == true)) from w_eq_bool (w_res rfl) w_lit) rfl

/-! ### the attachment: holds_open's last premise (the goal 'hc' behind k_head) from a wpAny of the law's body -/
/-- the same from a codeAny of the CALL (for a layer whose function contracts speak of calls) -/
theorem attach_call {l : OpenLaw} {n : Nat} {q : Program} {loose : List Str} {XP : (Str → Option Value) → Heap → Prop} {YP : World → Heap → Prop} {d : DefRec}
    (hn : l.most = some n) (hdf : d.params.defaults = [])
    (call : ∀ (w : World) (s₀ s₁ : Shared) (mg mb : Str → Option Value) (fa : Addr) (o : Obj) (pm cd doc : Value) (a : Addr) (vs : List Value) (ns : List Int),
      Ground q loose [] XP w s₀ mg mb s₁.heap → YP w s₁.heap →
      s₁.heap.get? fa = some o → o.data = .func (docDef d.name d.params d.body d.scope pm cd doc) → s₁.heap.CodeRec cd d.name → mg d.name = some (.ref fa) →
      s₁.heap.get? a = some { cls := .type "list", data := .seq vs.toArray } → IntsAre vs ns → ns.length ≤ n → s₁.gens = #[] →
      codeAny (model l.prog w) callerA (.call (.ref fa) ⟨[.ref a], []⟩) (fun r s' => r = .ok (.ret (.bool true)) ∧ OldK s₁.heap s'.heap ∧ s'.os = s₁.os ∧ AllBare s'.gens) s₁) :
    WalkO q loose XP YP l.row.toRowW d [] (fun f vs => PySem.call f vs) := by
  intro w s₀ s₁ mg mb G Y fa o pm cd doc dV kV ho hd hcd hD hmg hg args vals as hpre hlay hrd hwl hlo
  obtain rfl : dV = .none := Dflts.none hD hdf
  obtain rfl : kV = .none := Dflts.noKw hD
  obtain ⟨a, vs, ns, rfl, rfl, hobj, hints, hlen⟩ := script_of hn hpre hwl
  refine enter_call (codeAny_mono (call w s₀ s₁ mg mb fa o pm cd doc a vs ns G Y ho (fd_plain hd) hcd hmg hobj hints hlen hg) fun r s' hq => ?_)
  obtain ⟨rfl, h2, h3, h4⟩ := hq
  exact ⟨.inl ⟨.bool true, .bool true, [], rfl, fun _ => rfl, .bool true, post_true l _, fun _ => ⟨List.Pairwise.nil, fun _ hm => (nomatch hm)⟩⟩, h2, h3, h4⟩

/-! ### rules over ANY heap (no ledger) from facts about the written part K: the library's own take a ledger (News) for what they write -/
section
variable {prog : Program} {w : World} {A : Around} {E : Value → Shared → Prop} {s : Shared} {K : Frag}

/-! the whole heap as the ledger: makes every rule that writes through a ledger a rule over any heap -/
def ledger (h : Heap) (L d : Addr) : List (Addr × Obj) := (List.range h.objs.size).filterMap fun a => if a = L ∨ a = d then none else (h.get? a).map fun o => (a, o)
end
end Att

namespace L2
open PySem PySem.Spec PyProof.Rows

theorem vals_ints : ∀ {vs : List Value} {ns : List Int}, IntsAre vs ns → Vals (ns.map V.int) vs
  | _, _, .nil => .nil
  | _, _, .cons n t h => .cons ⟨t, rfl⟩ (vals_ints h)

/-- nothing is tracked but the script, known to the object (or it is an object of the module) -/
def Only (H : Hp) : Prop := ∀ b, H b = none ∨ ∃ o xs, H b = some (.frz o (.lst xs))

/-- THE HEAD: the law's promise, at the heap behind the top. F, the promise of the law's def, may use that base is part of the heap (so K.In base, base.Ns mainGlobals mg stand in Mod) -/
theorem law_call {P : Program} {w : World} {K : PySem.W.Frag} {mg mb : Str → Option Value} {CX : CXT} {k : Nat} {fa a : Addr} {fd : FuncData} {x : Str} {sp : Sp} {s₁ : Shared} {vs : List Value} {ns : List Int}
    (KX : K.In s₁.heap) (hns : s₁.heap.Ns mainGlobals mg) (hb : s₁.heap.Ns builtinsNs mb) (hbb : ∀ x : Str, x ≠ "__name__" → mb x = bootBuiltins x) (hlim : s₁.heap.NoLimit) (hg : s₁.gens = #[])
    (ha : s₁.heap.get? a = some { cls := .type "list", data := .seq vs.toArray }) (hi : IntsAre vs ns) (hl : ns.length ≤ sizeLine) (hr : Room k callerA)
    (F : ∀ base : Heap, K.In base → base.Ns mainGlobals mg → FnOk P w K mg base CX k fa fd [x] sp) (hbind : ∀ (s : Shared) (u : Value), BindsTo s fd ⟨[u], []⟩ [(x, u)])
    (hsp : ∀ H : Hp, Only H → SqL K H a (ns.map V.int) → sp [.ref a] H (fun v _ => v = .bl true) fun _ _ _ => False)
    (hCX : ∀ H e s', CX [] H s₁ (fun _ _ _ => False) e s' → False) :
    codeAny (model P w) callerA (.call (.ref fa) ⟨[.ref a], []⟩) (fun r s' => r = .ok (.ret (.bool true)) ∧ OldK s₁.heap s'.heap ∧ s'.os = s₁.os ∧ AllBare s'.gens) s₁ := by
  have rv := vals_ints hi
  have lenV := hi.length
  -- from an abstract heap in which nothing but the script may be tracked
  have core : ∀ H : Hp, Only H → SqL K H a (ns.map V.int) → HOk P w H s₁.heap → (∀ b, H b ≠ none → b = a) → (H a ≠ none → K.lookup a = none) →
      codeAny (model P w) callerA (.call (.ref fa) ⟨[.ref a], []⟩) (fun r s' => r = .ok (.ret (.bool true)) ∧ OldK s₁.heap s'.heap ∧ s'.os = s₁.os ∧ AllBare s'.gens) s₁ := by
    intro H hO hS hok hA hK
    have base_of : ∀ {b : Addr} {o : Obj}, s₁.heap.get? b = some o → H b = none → (hidT s₁.heap H).get? b = some o := fun e n => hidT_get e n
    have noA : ∀ {b : Addr} {o : Obj} {es : Array DictEntry} {ep : Nat}, s₁.heap.get? b = some o → o.data = .dict es ep → H b = none := fun {b o es ep} e d => by
      cases q : H b with
      | none => rfl
      | some u =>
        have e' : b = a := hA b (by rw [q]; simp)
        subst e'
        rw [ha] at e; cases e
        have d' : Data.seq vs.toArray _ = Data.dict es ep := d
        cases d'
    have nsK : ∀ {b : Addr} {m : Str → Option Value}, s₁.heap.Ns b m → (hidT s₁.heap H).Ns b m := fun {b m} ⟨o, es, ep, e, d, r⟩ => ⟨o, es, ep, base_of e (noA e d), d, r⟩
    have hKb : K.In (hidT s₁.heap H) := fun b o e => base_of (KX b o e) (by
      cases q : H b with
      | none => rfl
      | some u =>
        have e' : b = a := hA b (by rw [q]; simp)
        subst e'
        rw [hK (by rw [q]; simp)] at e; cases e)
    have hM : Mod K mg (hidT s₁.heap H) := ⟨hKb, nsK hns, ⟨mb, nsK hb, hbb⟩, let ⟨mc, h1, h2⟩ := hlim; ⟨mc, nsK h1, h2⟩⟩
    have e0 : Env0 P w K mg (hidT s₁.heap H) callerA [] s₁ H := ⟨rfl, hM, fun b o e => of_hidT e, Nat.le_of_eq (hidT_size _ _), trivial, fun b hb => absurd (show b ∈ ([] : List Addr) from hb) (by simp), hok, .of_eq hg⟩
    refine codeAny_mono ((F _ hKb (nsK hns)).run callerA [] s₁ H ⟨[.ref a], []⟩ [.ref a] [.ref a] _ _ hr e0 (hbind s₁ (.ref a)) (.cons rfl .nil) (hsp H hO hS)) fun r s' h => ?_
    cases r with
    | error e => exact (hCX H e s' h).elim
    | ok fl =>
      cases fl with
      | next => exact False.elim h
      | brk => exact False.elim h
      | cont => exact False.elim h
      | ret u =>
        obtain ⟨v, H', os, bare, un, hok', r', q⟩ := h
        have q' : v = .bl true := q
        subst q'
        obtain rfl : u = Value.bool true := r'
        refine ⟨rfl, OldK.of_keep fun b o e => ?_, os, bare⟩
        cases q : H b with
        | none => exact un.keep b o e q (by intro z; exact absurd (show b ∈ ([] : List Addr) from z) (by simp)) (by simp)
        | some u =>
          rcases hO b with z | ⟨ob, xs, z⟩
          · rw [q] at z; cases z
          · have z2 := un.frzs b ob _ z
            obtain ⟨e1, _⟩ := hok b _ z
            obtain ⟨e2, _⟩ := hok' b _ z2
            rw [e] at e1; cases e1
            exact e2
  cases hk : K.lookup a with
  | some o =>
    -- the script is one of the module's own objects
    have e := KX a o hk
    rw [ha] at e
    cases e
    refine core (fun _ => none) (fun _ => .inl rfl) (.inr ⟨_, vs.toArray, _, hk, rfl, rfl, rfl, by rw [List.size_toArray, lenV]; exact hl, by simpa using rv⟩) (fun b u z => by have z' : (none : Option HO) = some u := z; cases z') (fun b z => absurd rfl z) fun z => absurd rfl z
  | none =>
    refine core (fun b => if b = a then some (.frz { cls := .type "list", data := .seq vs.toArray } (.lst (ns.map V.int))) else none) (fun b => ?_) (.inl (.inr ⟨{ cls := .type "list", data := .seq vs.toArray }, if_pos rfl⟩)) (fun b u z => ?_) (fun b z => ?_) fun _ => hk
    · by_cases hb : b = a
      · exact .inr ⟨_, _, if_pos hb⟩
      · exact .inl (if_neg hb)
    · by_cases hb : b = a
      · have z' := (if_pos hb).symm.trans z
        cases z'
        subst hb
        exact ⟨ha, by rw [List.length_map]; exact hl, vs, _, rv, ha⟩
      · have z' := (if_neg hb).symm.trans z
        cases z'
    · by_cases hb : b = a
      · exact hb
      · exact absurd (if_neg hb) z
end L2

namespace L2
open PySem PySem.Spec PyProof.Rows

abbrev KOf {K : PySem.W.Frag} {h : Heap} (_ : K.In h) : PySem.W.Frag := K

/-- the goal that k_head leaves (case hc), from the law's promise. F gives the function object fd (K's own) once, then the promise over every base -/
theorem walk_of {l : PySem.W.OpenLaw} {n k : Nat} {q : Program} {loose : List Str} {XP : (Str → Option Value) → Heap → Prop} {YP : World → Heap → Prop} {d : DefRec} {K : Params → PySem.W.Frag} {CX : World → CXT} {sp : World → Sp} {x : Str}
    (hn : l.most = some n) (hn2 : n ≤ sizeLine) (hdf : d.params.defaults = []) (hr : Room k callerA)
    (hY : ∀ (w : World) (h : Heap), YP w h → (K w.params).In h)
    (F : ∀ (w : World) (mg : Str → Option Value) (fa : Addr) (h : Heap), (K w.params).In h → h.Ns mainGlobals mg → mg d.name = some (.ref fa) →
      ∃ fd : FuncData, (∀ (s : Shared) (u : Value), BindsTo s fd ⟨[u], []⟩ [(x, u)]) ∧
        ∀ base : Heap, (K w.params).In base → base.Ns mainGlobals mg → FnOk l.prog w (K w.params) mg base (CX w) k fa fd [x] (sp w))
    (hsp : ∀ (w : World) (H : Hp) (a : Addr) (ns : List Int), ns.length ≤ n → Only H → SqL (K w.params) H a (ns.map V.int) → sp w [.ref a] H (fun v _ => v = .bl true) fun _ _ _ => False)
    (hCX : ∀ (w : World) (H : Hp) (s : Shared) (e : Value) (s' : Shared), CX w [] H s (fun _ _ _ => False) e s' → False) :
    PySem.W.WalkO q loose XP YP l.row.toRowW d [] (fun f vs => PySem.call f vs) := by
  refine Att.attach_call hn hdf fun w s₀ s₁ mg mb fa o pm cd doc a vs ns G Y ho hd hcd hmg hobj hints hlen hg => ?_
  have KX := hY w _ Y
  obtain ⟨fd, hb, hF⟩ := F w mg fa _ KX G.T.g hmg
  exact law_call KX G.T.g G.T.b G.T.builtins G.T.nolimit hg hobj hints (Nat.le_trans hlen hn2) hr hF hb (fun H hO hS => hsp w H a ns hlen hO hS) fun H e s' => hCX w H s₁ e s'
end L2

/- THE LAST THEOREM (shape; LID, My.* are yours):
   My.Adr: a structure of the addresses that your layer names (classes, functions); My.Txt K t: a structure (Prop) of the equations over K;
   My.txt_mk : {K} {implicit addresses ..} (e1 : nsIn K mainGlobals "law" = some (some (.ref f))) (e2 : K.lookup f = some ⟨oc, od, .func (fnOf "law" "law" params body scope dV kV doc pm an cdv ct), sl⟩) (e3 : codeIn K cdv "law" = true) .. : ∃ t, My.Txt K t

set_option maxRecDepth 100000 in
set_option maxHeartbeats 0 in
theorem PySem.Challenge.cw_LID_holds : PySem.Challenge.rw_LID.Holds := by
  w_on; o_law; k_head; (case hw => w_witness2)
  k_fill
  refine L2.walk_of (l := PySem.Challenge.rw_LID) (n := 63) (k := 40) (x := "script") (CX := fun w => ..) (sp := fun _ => My.sp_law) rfl (by decide) rfl ⟨rfl, by decide, by decide⟩ (fun w h Y => PySem.W.kIn_of Y) ?F ?S ?C
  case F =>
    intro w mg fa h KX G hmg
    have T : ∃ t, My.Txt (L2.KOf KX) t := by
      dsimp only [L2.KOf]                          -- K must stand as «<heap const> w.params» for k_is
      refine' My.txt_mk ?e1 ?e2 ?e3 ..
      (case e1 => PySem.W.k_is)                    -- in the order: a name -> its address -> its object -> its parts
      (case e2 => PySem.W.k_is)
      ..
    obtain ⟨t, T⟩ := T
    have e0 := hmg.symm.trans (PySem.W.mg_of KX G T.law)
    cases e0                                       -- fa is the law's own address
    exact ⟨_, fun s u => .of_eq rfl, fun base kb nb => My.law_fn T kb nb⟩     -- if «.of_eq rfl» comes too early: refine' ⟨_, ?b, fun base kb nb => My.law_fn T kb nb⟩; exact fun s u => .of_eq rfl
  case S => exact fun w H a ns hl hO hS => ..
  case C => exact ..
(the tactic k_is has no namespace: write k_is) -/

/-! SHORT WORDS over the layer: a def of the text, its body, what a loop and a test want. -/
namespace L2
open PySem PySem.Spec PyProof.Rows

/-! ### the text by places -/
def defArgs (s : Stmt) : Arguments := match s with
  | .FunctionDef _ a _ _ _ _ _ _ _ _ => a
  | _ => { posonlyargs := [], args := [], vararg := none, kwonlyargs := [], kw_defaults := [], kwarg := none, defaults := [] }
def defBody (s : Stmt) : List Stmt := match s with
  | .FunctionDef _ _ b _ _ _ _ _ _ _ => b
  | _ => []
def defScope (s : Stmt) : Scope := match s with
  | .FunctionDef _ _ _ _ _ _ sc _ _ _ => sc
  | _ => { kind := .function, names := [], isGenerator := false, isCoroutine := false }

/-! ### no exception leaves a def -/
abbrev CX0 : CXT := fun _ _ _ _ _ _ => False
abbrev E0 : XK := fun _ _ _ => False
theorem pass0 {X : Cx} : Passes CX0 X E0 := fun _ _ _ _ _ _ _ h => h.elim

/-! ### a def (or method) of the text as it stands behind the top -/
structure Fun (K : PySem.W.Frag) (x qual : Str) (st : Stmt) (f : Addr) (fd : FuncData) : Prop where
  ex : ∃ (oc : Value) (od : Option Addr) (kV doc pm : Value) (an : Option Addr) (cdv ct : Value) (osl : Array (Option Value)),
    fd = PySem.W.fnOf x qual (defArgs st) (defBody st) (defScope st) .none kV doc pm an cdv ct ∧ K.lookup f = some ⟨oc, od, .func fd, osl⟩ ∧ PySem.W.codeIn K cdv qual = true
  kp : PySem.W.keepIn K (.ref f) = true
section
variable {P : Program} {w : World} {K : PySem.W.Frag} {mg : Str → Option Value} {base : Heap}
/-- THE RULE for a def: its body as a term of rules, and the reading of that term -/
theorem Fun.ok {x qual : Str} {st : Stmt} {f : Addr} {fd : FuncData} {N ps : List Str} {k : Nat} {sp : Sp} (F : Fun K x qual st f fd) (S : FnScope N ps (defScope st)) (len : ∀ vs H Q E, sp vs H Q E → vs.length = ps.length)
    (hbody : ∀ (cdv : Value) (A : Around) (outer : List Env) (s : Shared) (H : Hp) (vs : List V) (Q : VK) (E : XK), Room k (A.deeper (envOfC qual (defScope st) s.heap.objs.size f cdv)) → sp vs H Q E →
      ∃ t, PSs (cxOf CX0 P w K mg base N qual (defScope st) f cdv A outer s H E).nox (defBody st) t ∧ t { nx := fun _ H' => Q .non H', rt := Q } (start N vs) H) : FnOk P w K mg base CX0 (k + 1) f fd ps sp := by
  obtain ⟨oc, od, kV, doc, pm, an, cdv, ct, osl, rfl, lk, hcd⟩ := F.ex
  refine fn_of lk hcd S len fun A outer s H vs Q E hr hsp => ?_
  obtain ⟨t, h, q⟩ := hbody cdv A outer s H vs Q E hr hsp
  exact ⟨t, h.nox, q⟩
/-- how its arguments bind (no defaults): h is «fun _ _ _ _ _ _ us hl => match us, hl with | [_, _], _ => rfl», one _ a parameter -/
theorem Fun.binds {x qual : Str} {st : Stmt} {f : Addr} {fd : FuncData} {ps : List Str} (F : Fun K x qual st f fd)
    (h : ∀ (kV doc pm : Value) (an : Option Addr) (cdv ct : Value) (us : List Value), us.length = ps.length → bindArgs (PySem.W.fnOf x qual (defArgs st) (defBody st) (defScope st) .none kV doc pm an cdv ct) ⟨us, []⟩ = pure (ps.zip us)) : Binds K fd ps [] := by
  obtain ⟨oc, od, kV, doc, pm, an, cdv, ct, osl, rfl, lk, hcd⟩ := F.ex
  exact .all (h kV doc pm an cdv ct)
theorem fun_mk {x qual : Str} {st : Stmt} {f : Addr} {oc : Value} {od an : Option Addr} {osl : Array (Option Value)} {kV doc pm cdv ct : Value} (l : K.lookup f = some ⟨oc, od, .func (PySem.W.fnOf x qual (defArgs st) (defBody st) (defScope st) .none kV doc pm an cdv ct), osl⟩)
    (c : PySem.W.codeIn K cdv qual = true) (k : PySem.W.keepIn K (.ref f) = true) : Fun K x qual st f (PySem.W.fnOf x qual (defArgs st) (defBody st) (defScope st) .none kV doc pm an cdv ct) := ⟨⟨oc, od, kV, doc, pm, an, cdv, ct, osl, rfl, l, c⟩, k⟩
end
theorem hu_of {A : Around} {k : Nat} (hr : Room k A) : A.units + 1 < cLine := Nat.lt_of_le_of_lt (Nat.add_le_add_left (by decide : 1 ≤ 64) _) hr.units
/-! ### expressions in short: the name that stands in the i-th slot -/
section
variable {X : Cx}
theorem pv (i : Nat) {x : Str} {pos : Pos} (hN : X.N[i]? = some x := by rfl) (hv : Vis X.env.scope x := by first | exact Or.inl rfl | exact Or.inr (Or.inl rfl) | exact Or.inr (Or.inr rfl)) (hd : (x == ("__debug__" : Str)) = false := by decide)
    (hcd : (x == ("__classdict__" : Str)) = false := by decide) : PE X (.Name x pos) (tVar i) := pe_var hN hv hd hcd
end

/-! ### tests -/
theorem iteF {A B : Prop} (h : B) : if false = true then A else B := by
  rw [if_neg Bool.false_ne_true]
  exact h
theorem iteT {A B : Prop} (h : A) : if true = true then A else B := by
  rw [if_pos rfl]
  exact h
theorem ite2 {c A B : Prop} [Decidable c] (h1 : c → A) (h2 : ¬ c → B) : if c then A else B := by
  by_cases h : c
  · rw [if_pos h]
    exact h1 h
  · rw [if_neg h]
    exact h2 h
/-! ### heaps -/
/-- all that was tracked is as it was -/
def Same (H H' : Hp) : Prop := ∀ b o, H b = some o → H' b = some o
theorem Same.refl (H : Hp) : Same H H := fun _ _ h => h
theorem Same.trans {H H1 H2 : Hp} (a : Same H H1) (b : Same H1 H2) : Same H H2 := fun c o h => b c o (a c o h)
theorem Same.free {H H' : Hp} (e : Same H H') {l : Addr} (h : H' l = Option.none) : H l = Option.none := by
  cases q : H l with
  | none => rfl
  | some o =>
    rw [e l o q] at h
    cases h
theorem Same.seq {K : PySem.W.Frag} {H H' : Hp} {a : Addr} {xs : List V} (e : Same H H') (h : SqL K H a xs) : SqL K H' a xs := by
  rcases h with (h | ⟨o, h⟩) | h
  · exact .inl (.inl (e _ _ h))
  · exact .inl (.inr ⟨o, e _ _ h⟩)
  · exact .inr h

end L2
namespace L2
open PySem PySem.Spec PyProof.Rows

def clOf (env : Env) : List (Str × NameKind) → List (Str × Addr) → List (Str × Addr)
  | [], acc => acc
  | (n, k) :: r, acc => clOf env r (if k == .free then (match env.cells.lookup n with | some a => (n, a) :: acc | none => acc) else acc)
theorem closureFor_loop {env : Env} : ∀ (names : List (Str × NameKind)) (acc : List (Str × Addr)), (∀ y ∈ names, y.2 = .free → ∃ c, env.cells.lookup y.1 = some c) →
    (forIn names acc fun (x : Str × NameKind) (cs : List (Str × Addr)) => (if (x.2 == NameKind.free) = true then do let a ← cellOf env x.1; pure (ForInStep.yield ((x.1, a) :: cs)) else pure (ForInStep.yield cs) : Sem (ForInStep (List (Str × Addr))))) = pure (clOf env names acc)
  | [], acc, _ => rfl
  | (n, k) :: r, acc, h => by
    rw [List.forIn_cons]
    have hr : ∀ y ∈ r, y.2 = .free → ∃ c, env.cells.lookup y.1 = some c := fun y hy => h y (List.mem_cons_of_mem _ hy)
    cases hk : (k == NameKind.free) with
    | false =>
      have e1 : clOf env ((n, k) :: r) acc = clOf env r acc := by
        show clOf env r (if (k == NameKind.free) = true then (match env.cells.lookup n with | some a => (n, a) :: acc | none => acc) else acc) = _
        rw [hk, if_neg Bool.false_ne_true]
      rw [e1, ← closureFor_loop r acc hr]
      simp only [hk, Bool.false_eq_true, if_false, pure_bind]
    | true =>
      obtain ⟨c, hc⟩ := h (n, k) List.mem_cons_self (by simpa using hk)
      have e1 : clOf env ((n, k) :: r) acc = clOf env r ((n, c) :: acc) := by
        have hc' : env.cells.lookup n = some c := hc
        show clOf env r (if (k == NameKind.free) = true then (match env.cells.lookup n with | some a => (n, a) :: acc | none => acc) else acc) = _
        rw [hk, hc', if_pos rfl]
      have e2 : cellOf env n = pure c := by
        have hc' : env.cells.lookup n = some c := hc
        unfold cellOf
        rw [hc']
      rw [e1, ← closureFor_loop r ((n, c) :: acc) hr]
      simp only [hk, if_true, e2, pure_bind]
theorem closureFor_cl {scope : Scope} {env : Env} (h : ∀ y ∈ scope.names, y.2 = .free → ∃ c, env.cells.lookup y.1 = some c) : closureFor scope env = pure (clOf env scope.names []) := by
  have e := closureFor_loop scope.names [] h
  simp only [closureFor]
  rw [e]
  rfl
theorem clOf_from {env : Env} {x : Str} {c : Addr} : ∀ (names : List (Str × NameKind)) (acc : List (Str × Addr)), (∀ y d, acc.lookup y = some d → env.cells.lookup y = some d) → (clOf env names acc).lookup x = some c → env.cells.lookup x = some c
  | [], acc, ha, h => ha x c h
  | (n, k) :: r, acc, ha, h => by
    refine clOf_from r _ (fun y d q => ?_) h
    by_cases hk : (k == NameKind.free) = true
    · rw [if_pos hk] at q
      cases e : env.cells.lookup n with
      | none => rw [e] at q; exact ha y d q
      | some a =>
        rw [e] at q
        have q' : List.lookup y ((n, a) :: acc) = some d := q
        rw [List.lookup_cons] at q'
        cases hy : (y == n) with
        | true =>
          rw [hy] at q'
          have : y = n := by simpa using hy
          subst this
          rw [e]; exact q'
        | false => rw [hy] at q'; exact ha y d q'
    · rw [if_neg hk] at q; exact ha y d q
theorem clOf_acc {env : Env} {x : Str} : ∀ (names : List (Str × NameKind)) (acc : List (Str × Addr)), (∃ c, acc.lookup x = some c) → ∃ c, (clOf env names acc).lookup x = some c
  | [], acc, h => h
  | (n, k) :: r, acc, ⟨c, hc⟩ => by
    refine clOf_acc r _ ?_
    by_cases hk : (k == NameKind.free) = true
    · rw [if_pos hk]
      cases e : env.cells.lookup n with
      | none => exact ⟨c, hc⟩
      | some a =>
        show ∃ c, List.lookup x ((n, a) :: acc) = some c
        rw [List.lookup_cons]
        cases hy : (x == n) with
        | true => exact ⟨a, rfl⟩
        | false => exact ⟨c, hc⟩
    · rw [if_neg hk]; exact ⟨c, hc⟩
theorem clOf_has {env : Env} {x : Str} : ∀ (names : List (Str × NameKind)) (acc : List (Str × Addr)), (∀ y ∈ names, y.2 = .free → ∃ c, env.cells.lookup y.1 = some c) → names.lookup x = some .free → ∃ c, (clOf env names acc).lookup x = some c
  | [], acc, _, h => by simp at h
  | (n, k) :: r, acc, hf, h => by
    have hr : ∀ y ∈ r, y.2 = .free → ∃ c, env.cells.lookup y.1 = some c := fun y hy => hf y (List.mem_cons_of_mem _ hy)
    rw [List.lookup_cons] at h
    cases hy : (x == n) with
    | true =>
      rw [hy] at h
      have hk : k = .free := Option.some.inj h
      subst hk
      have hx : x = n := by simpa using hy
      subst hx
      obtain ⟨c, hc⟩ := hf (x, .free) List.mem_cons_self rfl
      have hc' : env.cells.lookup x = some c := hc
      refine clOf_acc r _ ⟨c, ?_⟩
      rw [if_pos (show (NameKind.free == NameKind.free) = true by decide), hc']
      show List.lookup x ((x, c) :: acc) = some c
      rw [List.lookup_cons]
      simp
    | false =>
      rw [hy] at h
      exact clOf_has r _ hr h

theorem relabel_free {env : Env} : ∀ {names : List (Str × NameKind)} {x : Str}, names.lookup x = some .free →
    ((names.map fun (n, k) => if (k == NameKind.free && env.scope.kind == .function && env.kindOf n == some .cell) then (n, NameKind.cell) else (n, k)).lookup x = some .cell ∨
     (names.map fun (n, k) => if (k == NameKind.free && env.scope.kind == .function && env.kindOf n == some .cell) then (n, NameKind.cell) else (n, k)).lookup x = some .free)
  | [], _, h => by simp at h
  | (n, k) :: r, x, h => by
    have ih := @relabel_free env r x
    show (List.lookup x ((if (k == NameKind.free && env.scope.kind == .function && env.kindOf n == some .cell) = true then (n, NameKind.cell) else (n, k)) :: _) = _ ∨ List.lookup x ((if (k == NameKind.free && env.scope.kind == .function && env.kindOf n == some .cell) = true then (n, NameKind.cell) else (n, k)) :: _) = _)
    cases hx : x == n with
    | true =>
      simp only [List.lookup_cons, hx] at h
      cases h
      by_cases hc : ((NameKind.free == NameKind.free) && env.scope.kind == .function && env.kindOf n == some .cell) = true
      · rw [if_pos hc]; simp [List.lookup_cons, hx]
      · rw [if_neg hc]; simp [List.lookup_cons, hx]
    | false =>
      simp only [List.lookup_cons, hx] at h
      by_cases hc : (k == NameKind.free && env.scope.kind == .function && env.kindOf n == some .cell) = true
      · rw [if_pos hc]; simp only [List.lookup_cons, hx]; exact ih h
      · rw [if_neg hc]; simp only [List.lookup_cons, hx]; exact ih h
theorem relabel_back {env : Env} : ∀ {names : List (Str × NameKind)} {x : Str}, (∀ y ∈ names, y.2 ≠ .cell) →
    ((names.map fun (n, k) => if (k == NameKind.free && env.scope.kind == .function && env.kindOf n == some .cell) then (n, NameKind.cell) else (n, k)).lookup x = some .cell ∨
     (names.map fun (n, k) => if (k == NameKind.free && env.scope.kind == .function && env.kindOf n == some .cell) then (n, NameKind.cell) else (n, k)).lookup x = some .free) → names.lookup x = some .free
  | [], _, _, h => by simp at h
  | (n, k) :: r, x, hn, h => by
    have ih := @relabel_back env r x (fun y hy => hn y (List.mem_cons_of_mem _ hy))
    have hk := hn (n, k) List.mem_cons_self
    have h' : (List.lookup x ((if (k == NameKind.free && env.scope.kind == .function && env.kindOf n == some .cell) = true then (n, NameKind.cell) else (n, k)) :: (r.map fun (n, k) => if (k == NameKind.free && env.scope.kind == .function && env.kindOf n == some .cell) then (n, NameKind.cell) else (n, k))) = some .cell ∨ List.lookup x ((if (k == NameKind.free && env.scope.kind == .function && env.kindOf n == some .cell) = true then (n, NameKind.cell) else (n, k)) :: (r.map fun (n, k) => if (k == NameKind.free && env.scope.kind == .function && env.kindOf n == some .cell) then (n, NameKind.cell) else (n, k))) = some .free) := h
    cases hx : x == n with
    | true =>
      rw [List.lookup_cons, hx]
      by_cases hc : (k == NameKind.free && env.scope.kind == .function && env.kindOf n == some .cell) = true
      · have : (k == NameKind.free) = true := by
          rw [Bool.and_eq_true, Bool.and_eq_true] at hc; exact hc.1.1
        have hk' : k = .free := by simpa using this
        rw [hk']
      · rw [if_neg hc] at h'
        simp only [List.lookup_cons, hx] at h'
        rcases h' with h' | h'
        · exact absurd (Option.some.inj h') hk
        · exact h'
    | false =>
      rw [List.lookup_cons, hx]
      by_cases hc : (k == NameKind.free && env.scope.kind == .function && env.kindOf n == some .cell) = true
      · rw [if_pos hc] at h'; simp only [List.lookup_cons, hx] at h'; exact ih h'
      · rw [if_neg hc] at h'; simp only [List.lookup_cons, hx] at h'; exact ih h'

/-! ### the loop of a comprehension, any target -/
abbrev noE : Value → Shared → Prop := fun _ _ => False
theorem compLoop_gen {prog : Program} {w : World} {A : Around} {R : Result → Shared → Prop} {s : Shared} {elt target iter : Expr} {ifs : List Expr} {scope : Scope} {pos : Pos} {it acc : Value} {env : Env} (I : Nat → Shared → Prop)
    (turn : ∀ n s, I n s → wpAny (model prog w) A (pyNext it) (fun r s₁ => match r with
      | none => R (.ok .next) s₁
      | some v => wpAny (model prog w) A (letOwnedTupleGo target it v) (fun _ s₁' => wpAny (model prog w) A (assign target env v) (fun _ s₂ =>
          wpAny (model prog w) A (forIn ifs true fun c r => if r = true then do let ok ← isTrue c env (eval c env); pure (ForInStep.yield ok) else pure (ForInStep.yield r)) (fun ok s₃ =>
            if ok = true then wpAny (model prog w) A (eval elt env) (fun x s₄ =>
              wpAny (model prog w) A (call (.builtin "list.append") [acc, x]) (fun _ s₅ => ∃ m, m < n ∧ I m s₅) noE s₄) noE s₃
            else ∃ m, m < n ∧ I m s₃) noE s₂) noE s₁') noE s₁) noE s)
    (n : Nat) (h : I n s) : codeAny (model prog w) A (.compLoop (.ListComp elt [⟨target, iter, ifs, 0⟩] scope pos) 0 it acc env) R s := by
  refine codeAny_loop rfl I (fun n s hI => ?_) n h
  show wpAny _ A ((compTurn (.ListComp elt [⟨target, iter, ifs, 0⟩] scope pos) 0 it acc env).onRaise (fun x => do noteFrame x env; theTreesLotGoes x)) _ _ s
  refine wpAny_noted ?_
  rw [compTurn_list]
  have no : ∀ {F : Value → Shared → Prop} (e : Value) (s' : Shared), noE e s' → F e s' := fun _ _ h => h.elim
  refine wpAny_bind (wpAny_standAt (wpAny_bind (wpAny_mono (turn n s hI) (fun r s₁ h₁ => ?_) no)))
  cases r with
  | none => exact wpAny_pure h₁
  | some v =>
    refine wpAny_bind (wpAny_mono h₁ (fun _ s₁' h₁' => ?_) no)
    refine wpAny_bind (wpAny_mono h₁' (fun _ s₂ h₂ => wpAny_bind (wpAny_mono h₂ (fun ok s₃ h₃ => ?_) no)) no)
    cases ok with
    | false => exact wpAny_pure ⟨rfl, h₃⟩
    | true =>
      exact wpAny_bind (wpAny_bind (wpAny_mono h₃ (fun x s₄ h₄ => wpAny_bind (wpAny_mono h₄ (fun _ s₅ h₅ => wpAny_pure (wpAny_pure ⟨rfl, h₅⟩)) no)) no))

/-! ### the context of a comprehension's block -/
/-- C: its own names' dict; Nc: its names (targets first, then those of the def around); s, H: ahead of it; fp: the iterator's records -/
def cxComp (X : Cx) (scope : Scope) (C : Addr) (Nc : List Str) (s : Shared) (H : Hp) (fp : List Addr) : Cx where
  prog := X.prog
  w := X.w
  K := X.K
  mg := X.mg
  base := X.base
  A := X.A
  N := Nc
  s₀ := s
  H₀ := H
  env := compEnvC scope (clOf X.env scope.names []) C X.env
  outer := X.stack
  stack := X.stack
  ex := fp
  fn := fun _ => false
  calm := X.calm
  pn := []
  xe := noE
/-- where the block's names stand in the def around: none for its own -/
def IxOk (X : Cx) (scope : Scope) : List Str → List (Option Nat) → Prop
  | [], [] => True
  | _ :: ys, none :: os => IxOk X scope ys os
  | y :: ys, some j :: os => (X.N[j]? = some y ∧ scope.names.lookup y = some .free ∧ (X.env.kindOf y = some .cell ∨ X.env.kindOf y = some .free)) ∧ IxOk X scope ys os
  | _, _ => False
def subSt (σ : St) (ix : List (Option Nat)) : St := ix.map fun o => match o with | none => none | some j => (σ[j]?).getD none
def Wk : St → St → Prop
  | [], [] => True
  | none :: a, _ :: b => Wk a b
  | some v :: a, w :: b => w = some v ∧ Wk a b
  | _, _ => False
theorem Wk.len : ∀ {a b : St}, Wk a b → a.length = b.length
  | [], [], _ => rfl
  | none :: a, _ :: b, h => congrArg (· + 1) (Wk.len (a := a) (b := b) h)
  | some _ :: a, _ :: b, h => congrArg (· + 1) (Wk.len (a := a) (b := b) h.2)
theorem Wk.get : ∀ {a b : St} {i : Nat} {v : V}, Wk a b → a[i]? = some (some v) → b[i]? = some (some v)
  | [], [], i, v, _, h => by simp at h
  | none :: a, x :: b, 0, v, _, h => by simp at h
  | none :: a, x :: b, i + 1, v, k, h => by
    have := Wk.get (a := a) (b := b) (i := i) (v := v) k (by simpa using h)
    simpa using this
  | some y :: a, x :: b, 0, v, k, h => by
    have e : y = v := by simpa using h
    subst e
    simp [k.1]
  | some y :: a, x :: b, i + 1, v, k, h => by
    have := Wk.get (a := a) (b := b) (i := i) (v := v) k.2 (by simpa using h)
    simpa using this
theorem IxOk.len {X : Cx} {scope : Scope} : ∀ {N : List Str} {ix : List (Option Nat)}, IxOk X scope N ix → ix.length = N.length
  | [], [], _ => rfl
  | _ :: ys, none :: os, h => congrArg (· + 1) (IxOk.len (N := ys) (ix := os) h)
  | _ :: ys, some _ :: os, h => congrArg (· + 1) (IxOk.len (N := ys) (ix := os) h.2)
theorem IxOk.get {X : Cx} {scope : Scope} : ∀ {N : List Str} {ix : List (Option Nat)} {i j : Nat}, IxOk X scope N ix → ix[i]? = some (some j) → ∃ y, N[i]? = some y ∧ X.N[j]? = some y ∧ scope.names.lookup y = some .free ∧ (X.env.kindOf y = some .cell ∨ X.env.kindOf y = some .free)
  | [], [], i, j, _, h => by simp at h
  | y :: ys, none :: os, 0, j, _, h => by simp at h
  | y :: ys, none :: os, i + 1, j, k, h => by
    obtain ⟨z, h1, h2⟩ := IxOk.get (N := ys) (ix := os) (i := i) (j := j) k (by simpa using h)
    exact ⟨z, by simpa using h1, h2⟩
  | y :: ys, some j' :: os, 0, j, k, h => by
    have e : j' = j := by simpa using h
    subst e
    exact ⟨y, by simp, k.1⟩
  | y :: ys, some j' :: os, i + 1, j, k, h => by
    obtain ⟨z, h1, h2⟩ := IxOk.get (N := ys) (ix := os) (i := i) (j := j) k.2 (by simpa using h)
    exact ⟨z, by simpa using h1, h2⟩
theorem subSt_get {σ : St} {ix : List (Option Nat)} {i : Nat} {v : V} (h : (subSt σ ix)[i]? = some (some v)) : ∃ j, ix[i]? = some (some j) ∧ σ[j]? = some (some v) := by
  unfold subSt at h
  rw [List.getElem?_map] at h
  cases e : ix[i]? with
  | none => rw [e] at h; cases h
  | some o =>
    rw [e] at h
    cases o with
    | none => cases h
    | some j =>
      refine ⟨j, rfl, ?_⟩
      have h' : some ((σ[j]?).getD none) = some (some v) := h
      cases q : σ[j]? with
      | none => rw [q] at h'; cases h'
      | some z => rw [q] at h'; cases h'; rfl
end L2
namespace L2
open PySem PySem.Spec PyProof.Rows

theorem comp_start {X : Cx} {pins : List (Addr × Obj)} {σ : St} {H : Hp} {s : Shared} (I : Inv X pins σ H s) {scope : Scope} {Nc : List Str} {ix : List (Option Nat)} (hix : IxOk X scope Nc ix) (hcell : ∀ y ∈ scope.names, y.2 ≠ .cell)
    (hkind : scope.kind = .function) (hfr : ∀ y ∈ scope.names, y.2 = .free → X.env.kindOf y.1 = some .cell ∨ X.env.kindOf y.1 = some .free) {fp : List Addr} (hf : ∀ b ∈ fp, FpOk X pins H b) (hfo : ∀ b ∈ fp, ∃ o, s.heap.get? b = some o)
    {C : Addr} {h' : Heap} {t' : Nat} {m0 : Str → Option Value} (hC : s.heap.objs.size ≤ C) (hns : h'.Ns C m0) (k : ∀ b o, s.heap.get? b = some o → h'.get? b = some o) :
    Inv (cxComp X scope C Nc s H fp) [] (subSt σ ix) H { s with heap := h', toks := t' } := by
  have hfc : ∀ y ∈ scope.names, y.2 = .free → ∃ c, X.env.cells.lookup y.1 = some c := fun y hy e => I.ok.has y.1 (hfr y hy e)
  have from_ : ∀ {x : Str} {c : Addr}, (clOf X.env scope.names []).lookup x = some c → X.env.cells.lookup x = some c := fun {x c} e => clOf_from scope.names [] (fun y d q => by simp at q) e
  refine ⟨⟨I.ok.mod, hkind, I.ok.glob, I.ok.blt, hC, fun x y c h1 h2 => I.ok.inj x y c (from_ h1) (from_ h2), fun x hx => ?_, fun x c h => ?_, I.ok.hd, I.ok.frames, .inl rfl, fun b hb => ?_, I.bs, Nat.le_trans I.ok.bsz I.sz, fun b o e hb => ?_, fun b hb hs => ?_, I.stack, I.stkFree⟩,
    rfl, I.bare, Un.kept k, ⟨m0, hns, fun i x v h1 h2 h3 => ?_⟩, fun x c e => ?_, I.hok.fresh hC, fun x c e => I.freeC x c (from_ e), fun p hp => absurd (show p ∈ ([] : List (Addr × Obj)) from hp) (by simp), I.hok.kept k, ?_⟩
  · have hx' : scope.names.lookup x = some .free := relabel_back hcell hx
    exact clOf_has scope.names [] hfc hx'
  · exact absurd (show false = true from h) (by decide)
  · refine ⟨?_, fun x c e => (hf b hb).2.2.2.2.1 x c (from_ e)⟩
    obtain ⟨o, ho⟩ := hfo b hb
    exact Nat.ne_of_lt (Nat.lt_of_lt_of_le (Heap.lt_size ho) hC)
  · rcases (hf b hb).2.2.2.1 with z | z
    · exact I.ok.noex b o e z
    · exact absurd (Nat.lt_of_lt_of_le (Heap.lt_size e) (Nat.le_trans I.ok.bsz z)) (Nat.lt_irrefl _)
  · rcases List.mem_cons.mp (I.stkSub b hs) with z | z
    · exact (hf b hb).2.1 z
    · exact (hf b hb).2.2.1 z
  · obtain ⟨j, e1, e2⟩ := subSt_get h2
    obtain ⟨y, y1, y2, y3, y4⟩ := hix.get e1
    have h1' : Nc[i]? = some x := h1
    rw [y1] at h1'
    cases h1'
    obtain ⟨m, hn, hl⟩ := I.loc
    have hv : Vis X.env.scope x := by
      rcases y4 with z | z
      · exact .inr (.inl z)
      · exact .inr (.inr z)
    obtain ⟨u, r, l⟩ := hl j x v y2 e2 hv
    refine ⟨u, r, .inr ⟨relabel_free y3, ?_⟩⟩
    rcases l with ⟨l, _⟩ | ⟨_, c, hc, q⟩
    · rcases y4 with z | z
      · rw [z] at l; cases l
      · rw [z] at l; cases l
    · obtain ⟨c', hc'⟩ := clOf_has scope.names [] hfc y3
      have e := from_ hc'
      rw [hc] at e
      cases e
      obtain ⟨o, ho, hd⟩ := q
      exact ⟨c, hc', o, k _ _ ho, hd⟩
  · obtain ⟨v, o, ho, hd⟩ := I.cell x c (from_ e)
    exact ⟨v, o, k _ _ ho, hd⟩
  · show (subSt σ ix).length = Nc.length
    unfold subSt
    rw [List.length_map]
    exact hix.len

theorem comp_exit {X : Cx} {pins pins' : List (Addr × Obj)} {σ σ' : St} {H H' : Hp} {s s' : Shared} (I : Inv X pins σ H s) {scope : Scope} {Nc : List Str} {fp : List Addr} {C D : Addr} (J : Inv (cxComp X scope C Nc s H fp) pins' σ' H' s')
    (hf : ∀ b ∈ fp, FpOk X pins H b) (hD : s.heap.objs.size ≤ D) (hC : s.heap.objs.size ≤ C) (hDC : D ≠ C) {its : List Value} {n : Nat} {acc : List V} (eD : s'.heap.get? D = some { cls := .type "list", data := .seq its.toArray n }) (r : Vals acc its)
    (hz : acc.length ≤ sizeLine) (nD : H' D = none) {oC : Obj} (eC : s'.heap.get? C = some oC) (dC : ∀ v, oC.data ≠ .cell v) : Inv X (pins ++ [(C, oC)]) σ (upd H' D (.lst acc)) s' := by
  have lt : ∀ b o, s.heap.get? b = some o → b ≠ D := fun b o e => Nat.ne_of_lt (Nat.lt_of_lt_of_le (Heap.lt_size e) hD)
  have U : Un (frs X.stack) fp H H' s.heap s'.heap := J.base
  have U' : Un (frs X.stack) fp H (upd H' D (.lst acc)) s.heap s'.heap :=
    ⟨U.keep, U.slot, fun b o e n hx => by rw [upd_ne (lt b o e)]; exact U.free b o e n hx, U.there, fun b xs e => by rw [upd_ne (ne_of_none (U.tups b xs e) nD)]; exact U.tups b xs e,
      fun b o u e => by rw [upd_ne (ne_of_none (U.frzs b o u e) nD)]; exact U.frzs b o u e, fun b ps e => by
        obtain ⟨more, q⟩ := U.tbls b ps e
        exact ⟨more, by rw [upd_ne (ne_of_none q nD)]; exact q⟩⟩
  have hok : HOk X.prog X.w (upd H' D (.lst acc)) s'.heap := fun b u e => by
    by_cases hb : b = D
    · subst hb
      rw [upd_same] at e; cases e
      exact ⟨hz, its, n, r, eD⟩
    · rw [upd_ne hb] at e
      exact (J.hok b u e).stay (fun c v _ q => q) (fun c q => by rw [upd_ne (ne_of_none q nD)]; exact q) fun c xs q => by rw [upd_ne (ne_of_none q nD)]; exact q
  have I' : Inv X pins σ (upd H' D (.lst acc)) s' := I.call' (ch := fp) J.os U' hok J.bare fun b hb => by
    obtain ⟨_, h1, _, h2, h3, h4⟩ := hf b hb
    exact ⟨h2, h1, h3, h4⟩
  refine I'.pins_of fun p hp => ?_
  rcases List.mem_append.mp hp with z | z
  · exact I'.pin p (List.mem_append_right _ z)
  · have e : p = (C, oC) := List.mem_singleton.mp z
    subst e
    refine ⟨eC, ?_, Nat.ne_of_gt (Nat.lt_of_lt_of_le I.lt hC), I.nofs hC, dC⟩
    rw [upd_ne (Ne.symm hDC)]
    exact J.free

/-- the tests of a comprehension -/
def PF (Y : Cx) (ifs : List Expr) (tc : TT) : Prop :=
  ∀ (pins : List (Addr × Obj)) (s : Shared) (σ : St) (H : Hp) (Q : Bool → Hp → Prop), Inv Y pins σ H s → tc σ H Q →
    wpAny (model Y.prog Y.w) Y.A (forIn ifs true fun c r => if r = true then do let ok ← isTrue c Y.env (eval c Y.env); pure (ForInStep.yield ok) else pure (ForInStep.yield r)) (TP Y pins σ Q) Y.xe s
def tYes : TT := fun _ H Q => Q true H
theorem pf_nil {Y : Cx} : PF Y [] tYes := fun _ _ _ H _ I h => wpAny_tests_nil ⟨H, I, h⟩
theorem pf_one {Y : Cx} {c : Expr} {tc : TT} (h : PT Y c tc) : PF Y [c] tc := fun pins s σ H Q I hw => wpAny_tests_one (h pins s σ H Q I hw)

/-- what a comprehension wants: W the invariant by the turn, a measure, what is made so far -/
def CompW (J : It) (σc : St) (g : TG) (tc : TT) (te : TE) (Q : VK) (H1 : Hp) : Prop :=
  ∃ W : Nat → Nat → List V → Hp → Prop, (∃ m, W 0 m [] H1) ∧ ∀ i m acc H, W i m acc H → acc.length < sizeLine ∧
  ((J.stop i H ∧ ∀ D, H D = none → Q (.ref D) (upd H D (.lst acc))) ∨
   (J.go i H ∧ ∀ x H', J.yld i H x H' → g x σc H' fun σ2 H2 => Wk σc σ2 ∧ tc σ2 H2 fun b H3 => if b = true then te σ2 H3 fun v H4 => ∃ m', m' < m ∧ W (i + 1) m' (acc ++ [v]) H4 else ∃ m', m' < m ∧ W (i + 1) m' acc H3))
def tComp (wi : TI) (ix : List (Option Nat)) (g : TG) (tc : TT) (te : TE) : TE := fun σ H Q => wi σ H fun J H1 => CompW J (subSt σ ix) g tc te Q H1

theorem comp_core {X : Cx} {tg iter elt : Expr} {ifs : List Expr} {scope : Scope} {pos : Pos} {wi : TI} {g : TG} {tc : TT} {te : TE} {Nc : List Str} {ix : List (Option Nat)} (hi : PI X tg iter wi) (hcalm : X.calm = true) (hix : IxOk X scope Nc ix)
    (hcell : ∀ y ∈ scope.names, y.2 ≠ .cell) (hkind : scope.kind = .function) (hfr : ∀ y ∈ scope.names, y.2 = .free → X.env.kindOf y.1 = some .cell ∨ X.env.kindOf y.1 = some .free)
    (hG : ∀ C s H fp, PG (cxComp X scope C Nc s H fp) tg g) (hT : ∀ C s H fp, PF (cxComp X scope C Nc s H fp) ifs tc) (hE : ∀ C s H fp, PE (cxComp X scope C Nc s H fp) elt te)
    {pins : List (Addr × Obj)} {s : Shared} {σ : St} {H : Hp} {Q : VK} (I : Inv X pins σ H s) (h : tComp wi ix g tc te σ H Q) {RR : Value → Addr → Result → Shared → Prop}
    (hRR : ∀ (D C : Addr) (oC : Obj) (m : Str → Option Value) (H' : Hp) (s' : Shared), s'.heap.get? C = some oC → s'.heap.Ns C m → FpOk X pins H' C → Inv X (pins ++ [(C, oC)]) σ H' s' → Q (.ref D) H' → RR (.ref D) C (.ok .next) s') :
    wpAny (model X.prog X.w) X.A (eval iter X.env) (fun v s1 => wpAny (model X.prog X.w) X.A (pyIter v) (fun it s2 => wpAny (model X.prog X.w) X.A (newList []) (fun acc s3 =>
      wpAny (model X.prog X.w) X.A (newFunctionEnv scope X.env.globals (clOf X.env scope.names []) [] X.env.qual none .none (some X.env)) (fun cenv s4 =>
        codeAny (model X.prog X.w) X.A (.compStart (.ListComp elt [⟨tg, iter, ifs, 0⟩] scope pos) 0 it acc { cenv with scope := relabel scope X.env }) (RR acc cenv.locals) s4) X.xe s3) X.xe s2) X.xe s1) X.xe s := by
  refine thn (hi pins s σ H _ I h) fun v s1 h1 => thn h1 fun itv s2 h2 => ?_
  obtain ⟨it, fp, tn, J, H2, e, I2, T, st2, f2, W, ⟨m0, w0⟩, turn⟩ := h2
  subst e
  refine wpAny_newObj_type (wpAny_newFunctionEnv hcell (by intro y hy; simp at hy) (fun h₁ hns₁ hsb₁ => ?_) hkind)
  dsimp only at hns₁ hsb₁ ⊢
  generalize hH2 : s2.heap.push { cls := .type "list", dict := none, data := .seq ([] : List Value).toArray } = P2 at hns₁ hsb₁ ⊢
  have hC : P2.objs.size = s2.heap.objs.size + 1 := by rw [← hH2, Heap.size_push]
  have hDC : s2.heap.objs.size ≠ P2.objs.size := by rw [hC]; exact Nat.ne_of_lt (Nat.lt_succ_self _)
  have hCle : s2.heap.objs.size ≤ P2.objs.size := by rw [hC]; exact Nat.le_succ _
  have neC : ∀ b, b < s2.heap.objs.size → b ≠ P2.objs.size := fun b hb => by rw [hC]; exact Nat.ne_of_lt (Nat.lt_succ_of_lt hb)
  have old : ∀ b o, s2.heap.get? b = some o → h₁.get? b = some o := fun b o e => hsb₁.extBut b o (neC b (Heap.lt_size e)) (Heap.get?_push_of_some _ (hH2 ▸ Heap.get?_push_of_some _ e))
  have hacc : h₁.get? s2.heap.objs.size = some { cls := .type "list", data := .seq ([] : List Value).toArray } := hsb₁.extBut _ _ hDC (Heap.get?_push_of_some _ (hH2 ▸ Heap.get?_push_size _ rfl))
  have st₁ : tn 0 h₁ := T.keep 0 _ _ st2 fun b _ o e => old b o e
  have hfo : ∀ b ∈ fp, ∃ o, s2.heap.get? b = some o := fun b hb => let ⟨o, e, _⟩ := T.obj 0 _ st2 b hb; ⟨o, e⟩
  have fpD : ∀ b ∈ fp, s2.heap.objs.size ≠ b := fun b hb => let ⟨o, e⟩ := hfo b hb; Nat.ne_of_gt (Heap.lt_size e)
  have IY := comp_start I2 hix hcell hkind hfr f2 hfo (t' := s2.toks + ([] : List (Str × Value)).length) hCle hns₁ old
  have notS : ∀ b, s2.heap.objs.size ≤ b → b ∉ frs X.stack := fun b hb hs => by
    rcases List.mem_cons.mp (I2.stkSub b hs) with z | z
    · exact absurd (Nat.lt_of_lt_of_le I2.lt hb) (by rw [z]; exact Nat.lt_irrefl _)
    · exact I2.nofs hb z
  have from_ : ∀ {x : Str} {c : Addr}, (clOf X.env scope.names []).lookup x = some c → X.env.cells.lookup x = some c := fun {x c} e => clOf_from scope.names [] (fun y d q => by simp at q) e
  have cellD : ∀ x c, (clOf X.env scope.names []).lookup x = some c → c ≠ s2.heap.objs.size := fun x c e z => by
    obtain ⟨v, q⟩ := I2.cell x c (from_ e)
    exact absurd (q.lt) (by rw [z]; exact Nat.lt_irrefl _)
  have fY : ∀ {pl : List (Addr × Obj)} {H' : Hp}, (∀ p ∈ pl, p.1 = s2.heap.objs.size) → (∀ b ∈ fp, H' b = none) → ∀ b ∈ fp, FpOk (cxComp X scope P2.objs.size Nc s2 H2 fp) pl H' b := fun {pl H'} hpl hn b hb => by
    refine ⟨hn b hb, ?_, ?_, .inl hb, fun x c e => (f2 b hb).2.2.2.2.1 x c (from_ e), fun p hp => ?_⟩
    · obtain ⟨o, e⟩ := hfo b hb
      exact neC b (Heap.lt_size e)
    · intro hs
      rcases List.mem_cons.mp (I2.stkSub b hs) with z | z
      · exact (f2 b hb).2.1 z
      · exact (f2 b hb).2.2.1 z
    · rw [hpl p hp]
      exact fpD b hb
  have loop : ∀ s₃ : Shared, s₃ = { s2 with heap := h₁, toks := s2.toks + ([] : List (Str × Value)).length } →
      codeAny (model X.prog X.w) X.A (.compLoop (.ListComp elt [⟨tg, iter, ifs, 0⟩] scope pos) 0 (.ref it) (.ref s2.heap.objs.size) (compEnvC scope (clOf X.env scope.names []) P2.objs.size X.env)) (RR (.ref s2.heap.objs.size) P2.objs.size) s₃ := by
    rintro s₃ rfl
    refine compLoop_gen (fun n s' => ∃ i acc its nn H', Inv (cxComp X scope P2.objs.size Nc s2 H2 fp) [] (subSt σ ix) H' s' ∧ tn i s'.heap ∧ (∀ b ∈ fp, H' b = none) ∧
      s'.heap.get? s2.heap.objs.size = some { cls := .type "list", data := .seq (its : List Value).toArray nn } ∧ Vals acc its ∧ H' s2.heap.objs.size = none ∧ W i n acc H') ?_ m0
      ⟨0, [], [], 0, H2, IY, st₁, fun b hb => (f2 b hb).1, hacc, .nil, I2.hok.fresh (Nat.le_refl _), w0⟩
    rintro n s3 ⟨i, acc, its, nn, H3, I3, st3, fr3, eD, rv, nD, w3⟩
    obtain ⟨hz, alt⟩ := turn i n acc H3 w3
    have IP : Inv (cxComp X scope P2.objs.size Nc s2 H2 fp) [(s2.heap.objs.size, { cls := .type "list", data := .seq its.toArray nn })] (subSt σ ix) H3 s3 := I3.pins_of fun p hp => by
      have e : p = (s2.heap.objs.size, _) := List.mem_singleton.mp hp
      subst e
      refine ⟨eD, nD, hDC, notS _ (Nat.le_refl _), fun v z => ?_⟩
      have z' : Data.seq its.toArray nn = Data.cell v := z
      cases z'
    have hpl : ∀ p ∈ [(s2.heap.objs.size, ({ cls := .type "list", data := .seq its.toArray nn } : Obj))], p.1 = s2.heap.objs.size := fun p hp => by
      have e : p = (s2.heap.objs.size, _) := List.mem_singleton.mp hp
      rw [e]
    rcases alt with ⟨stop, fin⟩ | ⟨go, step⟩
    · refine thn (T.done (cxComp X scope P2.objs.size Nc s2 H2 fp) rfl rfl rfl hcalm i _ s3 _ H3 noE IP (fY hpl fr3) st3 stop) fun r s4 ⟨hr, I4⟩ => ?_
      subst hr
      obtain ⟨m, hn, _⟩ := id I4.loc
      obtain ⟨oC, es, ep, eC, dC, _⟩ := id hn
      have eD4 := (I4.pin (s2.heap.objs.size, _) (List.mem_append_right _ (List.mem_singleton.mpr rfl))).1
      have fin' := fin _ nD
      refine hRR _ _ oC m _ s4 eC hn ?_ (comp_exit I2 I4 f2 (Nat.le_refl _) hCle hDC eD4 rv (Nat.le_of_lt hz) nD eC fun v z => ?_) fin'
      · refine I2.fpOk hCle ?_
        rw [upd_ne (Ne.symm hDC)]
        exact I4.free
      · rw [dC] at z; cases z
    · refine thn (T.item (cxComp X scope P2.objs.size Nc s2 H2 fp) rfl rfl rfl hcalm i _ s3 _ H3 noE IP (fY hpl fr3) st3 go) fun r s4 ⟨u, hr, h4⟩ => ?_
      subst hr
      refine thn h4 fun _ s5 ⟨x, H5, I5, r5, y5, st5, fr5⟩ => ?_
      have I5' := I5.pinned (fY hpl fr5) (T.obj _ _ st5)
      refine thn (hG _ s2 H2 fp _ s5 _ H5 x u _ I5' r5 (step x H5 y5)) fun _ s6 ⟨σ6, H6, I6, wk, q6⟩ => ?_
      refine thn (hT _ s2 H2 fp _ s6 σ6 H6 _ I6 q6) fun b s7 ⟨H7, I7, q7⟩ => ?_
      have again : ∀ {H9 : Hp} {s9 : Shared} {m' : Nat}, Inv (cxComp X scope P2.objs.size Nc s2 H2 fp) ([(s2.heap.objs.size, ({ cls := .type "list", data := .seq its.toArray nn } : Obj))] ++ pinsAt fp s5.heap) σ6 H9 s9 →
          (s9.heap.get? s2.heap.objs.size = some { cls := .type "list", data := .seq its.toArray nn } ∧ H9 s2.heap.objs.size = none) ∧ tn (i + 1) s9.heap ∧ (∀ b ∈ fp, H9 b = none) ∧ Inv (cxComp X scope P2.objs.size Nc s2 H2 fp) [] (subSt σ ix) H9 s9 := fun {H9 s9 m'} I9 => by
        have pD := I9.pin (s2.heap.objs.size, _) (List.mem_append_right _ (List.mem_append_left _ (List.mem_singleton.mpr rfl)))
        refine ⟨⟨pD.1, pD.2.1⟩, T.keep _ _ _ st5 fun b hb o e => (I9.pin (b, o) (List.mem_append_right _ (List.mem_append_right _ (mem_pinsAt hb e)))).1, fun b hb => ?_, ?_⟩
        · obtain ⟨o, e, d⟩ := T.obj _ _ st5 b hb
          exact (I9.pin (b, o) (List.mem_append_right _ (List.mem_append_right _ (mem_pinsAt hb e)))).2.1
        · exact (I9.weak wk.len fun i v e => wk.get e).pins_of fun p hp => absurd hp (by simp)
      cases b with
      | false =>
        rw [if_neg Bool.false_ne_true] at q7 ⊢
        obtain ⟨m', hm, w7⟩ := q7
        obtain ⟨⟨e7, n7⟩, t7, f7, J7⟩ := again (m' := 0) I7
        exact ⟨m', hm, i + 1, acc, its, nn, H7, J7, t7, f7, e7, rv, n7, w7⟩
      | true =>
        rw [if_pos rfl] at q7 ⊢
        refine thn (hE _ s2 H2 fp _ s7 σ6 H7 _ I7 q7) fun y s8 ⟨v, H8, I8, r8, m', hm, w8⟩ => ?_
        obtain ⟨⟨e8, n8⟩, t8, f8, J8⟩ := again (m' := 0) I8
        refine wpAny_list_append_plain (items := its.toArray) ⟨nn, e8⟩ (fun h9 hl9 hs9 => ?_) (by rw [List.size_toArray, ← rv.length]; exact Nat.le_of_lt hz)
        obtain ⟨n9, e9⟩ := hl9
        refine ⟨m', hm, i + 1, acc ++ [v], its ++ [y], n9, H8, J8.turned (t' := s8.toks) (fun b o hb e => (hs9.2 b hb).trans e) n8 hDC (.inr (Nat.le_refl _)) cellD (fun p hp => absurd hp (by simp [cxComp])), ?_, f8, ?_, rv.append (.cons r8 .nil), n8, w8⟩
        · exact T.keep _ _ _ t8 fun b hb o e => (hs9.2 b (Ne.symm (fpD b hb))).trans e
        · simpa using e9
  exact codeAny_compStart_list (loop _ rfl) (T.self _ 0 _ _ _ st₁ (loop _ rfl))

/-- [elt for tg in iter if ..] -/
theorem pe_comp {X : Cx} {tg iter elt : Expr} {ifs : List Expr} {scope : Scope} {pos : Pos} {wi : TI} {g : TG} {tc : TT} {te : TE} (Nc : List Str) (ix : List (Option Nat)) (hi : PI X tg iter wi) (hcalm : X.calm = true) (hix : IxOk X scope Nc ix)
    (hcell : ∀ y ∈ scope.names, y.2 ≠ .cell) (hkind : scope.kind = .function) (hfr : ∀ y ∈ scope.names, y.2 = .free → X.env.kindOf y.1 = some .cell ∨ X.env.kindOf y.1 = some .free)
    (hnames : ∀ x ∈ scope.names, x.2 = .local → scope.names.lookup x.1 = some .local)
    (hG : ∀ C s H fp, PG (cxComp X scope C Nc s H fp) tg g) (hT : ∀ C s H fp, PF (cxComp X scope C Nc s H fp) ifs tc) (hE : ∀ C s H fp, PE (cxComp X scope C Nc s H fp) elt te)
    (hs : ∀ x, foldedSetIterable iter X.env x = pure x := by intro _; rfl) : PE X (.ListComp elt [⟨tg, iter, ifs, 0⟩] scope pos) (tComp wi ix g tc te) := by
  intro pins s σ H Q I h
  rw [eval_ListComp]
  have hfc : ∀ y ∈ scope.names, y.2 = .free → ∃ c, X.env.cells.lookup y.1 = some c := fun y hy e => I.ok.has y.1 (hfr y hy e)
  refine wpAny_comprehension_free (use := none) rfl hs (closureFor_cl hfc) hkind hnames (comp_core hi hcalm hix hcell hkind hfr hG hT hE I h (RR := fun acc C => compPost (model X.prog X.w) X.A X.xe none (EP X pins σ Q) acc C) ?_)
  intro D C oC m H' s' eC hn fC I' q
  refine ⟨m, hn, fun h' hs' => ⟨.ref D, H', ?_, rfl, q⟩⟩
  exact I'.unpinned.turned (t' := s'.toks) (fun b o hb e => (hs'.2 b hb).trans e) fC.1 fC.2.1 fC.2.2.2.1 fC.2.2.2.2.1 fC.2.2.2.2.2
/-- x = [elt for tg in iter if ..] -/
theorem ps_setC {X : Cx} {i : Nat} {x : Str} {tg iter elt : Expr} {ifs : List Expr} {scope : Scope} {pos spos pos' : Pos} {wi : TI} {g : TG} {tc : TT} {te : TE} (Nc : List Str) (ix : List (Option Nat)) (hN : X.N.Nodup) (hxi : X.N[i]? = some x) (hx : Loc X.env.scope x)
    (hsw : swapsWith (.ListComp elt [⟨tg, iter, ifs, 0⟩] scope pos) (some (.Name x pos')) spos.line X.env = pure true) (hi : PI X tg iter wi) (hcalm : X.calm = true) (hix : IxOk X scope Nc ix)
    (hcell : ∀ y ∈ scope.names, y.2 ≠ .cell) (hkind : scope.kind = .function) (hfr : ∀ y ∈ scope.names, y.2 = .free → X.env.kindOf y.1 = some .cell ∨ X.env.kindOf y.1 = some .free)
    (hnames : ∀ x ∈ scope.names, x.2 = .local → scope.names.lookup x.1 = some .local)
    (hG : ∀ C s H fp, PG (cxComp X scope C Nc s H fp) tg g) (hT : ∀ C s H fp, PF (cxComp X scope C Nc s H fp) ifs tc) (hE : ∀ C s H fp, PE (cxComp X scope C Nc s H fp) elt te)
    (hs : ∀ x, foldedSetIterable iter X.env x = pure x := by intro _; rfl) (hf : X.fn x = true ∨ X.env.scope.names.lookup x = some .local := by first | exact .inl rfl | exact .inr rfl | assumption) :
    PS X (.Assign [.Name x pos'] (.ListComp elt [⟨tg, iter, ifs, 0⟩] scope pos) spos) (tAsg (tComp wi ix g tc te) (gName i)) := by
  intro pins s σ H E I h
  have hfc : ∀ y ∈ scope.names, y.2 = .free → ∃ c, X.env.cells.lookup y.1 = some c := fun y hy e => I.ok.has y.1 (hfr y hy e)
  rw [exec_Assign_Name_used _ _ _ _ hsw]
  refine wpAny_bind (wpAny_standAt (wpAny_bind ?_))
  show wpAny _ X.A (do let _ ← comprehension (.ListComp elt [⟨tg, iter, ifs, 0⟩] scope pos) scope X.env _ (newList []) false (eval iter X.env) (some (assign (.Name x pos') X.env))) _ _ s
  refine wpAny_bind (wpAny_mono (wpAny_comprehension_free (use := some (assign (.Name x pos') X.env)) (Q := fun _ s' => SP X pins E .next s') rfl hs (closureFor_cl hfc) hkind hnames
    (comp_core hi hcalm hix hcell hkind hfr hG hT hE I h (RR := fun acc C => compPost (model X.prog X.w) X.A X.xe (some (assign (.Name x pos') X.env)) (fun _ s' => SP X pins E .next s') acc C) ?_)) (fun _ s' hq => wpAny_pure (wpAny_pure hq)) fun _ _ e => e)
  intro D C oC m H' s' eC hn fC I' q
  show wpAny _ X.A (assign (.Name x pos') X.env (.ref D)) _ _ _
  refine wpAny_assign_Name (store_ok I' hN hxi hx (show RelV (.ref D) _ from rfl) (fun s'' I'' => ?_) hf)
  have pC := I''.pin (C, oC) (List.mem_append_right _ (List.mem_append_right _ (List.mem_singleton.mpr rfl)))
  refine ⟨m, ?_, fun h' hs' => ?_⟩
  · obtain ⟨o, es, ep, e, r⟩ := hn
    rw [eC] at e; cases e
    exact ⟨oC, es, ep, pC.1, r⟩
  · refine ⟨_, H', I''.unpinned.turned (t' := s''.toks) (fun b o hb e => (hs'.2 b hb).trans e) fC.1 fC.2.1 fC.2.2.2.1 fC.2.2.2.2.1 fC.2.2.2.2.2, q⟩
end L2
namespace L2
open PySem PySem.Spec PyProof.Rows
/-! ### texts as lists of codes -/
def S (l : List Nat) : Str := ⟨l.toArray⟩
theorem S_list (l : List Nat) : (S l).cps.toList = l := by simp [S]
theorem S_len (l : List Nat) : (S l).length = l.length := by simp [S, Str.length]
theorem S_size (l : List Nat) : (S l).cps.size = l.length := by simp [S]
theorem S_inj {a b : List Nat} (h : S a = S b) : a = b := by
  have := congrArg (fun x : Str => x.cps.toList) h
  simpa [S] using this
theorem S_of (x : Str) : x = S x.cps.toList := by cases x; simp [S]
theorem S_app (a b : List Nat) : S a ++ S b = S (a ++ b) := by
  apply Str.ext'
  apply Array.toList_inj.mp
  simp [S, Str.cps_append]
theorem dec_S {a b : List Nat} : decide (V.str (S a) = V.str (S b)) = decide (a = b) := by
  by_cases h : a = b
  · subst h; simp
  · rw [decide_eq_false h, decide_eq_false]
    intro q
    exact h (S_inj (V.str.inj q))
/-- a part of a list by a slice's bounds -/
def cut {α : Type} (xs : List α) (lo hi : Option Int) : List α := (xs.drop (HT.sIx xs.length 0 lo)).take (HT.sIx xs.length xs.length hi - HT.sIx xs.length 0 lo)
theorem clip_sIx (n d : Nat) (v : Int) : max 0 (min (if v < 0 then v + (n : Int) else v) (n : Int)) = ((HT.sIx n d (some v) : Nat) : Int) := by
  show _ = (((if v < 0 then (v + (n : Int)).toNat else min v.toNat n) : Nat) : Int)
  by_cases hv : v < 0
  · simp only [if_pos hv]; omega
  · simp only [if_neg hv]; omega
theorem indices_sIx (lo hi : Option Int) (n : Nat) : Builtin.Str.strSliceIndices lo hi 1 n = (List.range (HT.sIx n n hi - HT.sIx n 0 lo)).map (HT.sIx n 0 lo + ·) := by
  have h1 : (1 : Int) > 0 := by decide
  rw [← sliceRange_one]
  unfold Builtin.Str.strSliceIndices
  simp only [h1, if_true]
  congr 1
  · cases lo with
    | none => rfl
    | some v => exact clip_sIx n 0 v
  · cases hi with
    | none => rfl
    | some v => exact clip_sIx n n v
theorem slice_S (l : List Nat) (lo hi : Option Int) : Txt.slice (S l) lo hi = S (cut l lo hi) := by
  have hx : ((Builtin.Str.strSliceIndices lo hi 1 (S l).length).filterMap ((S l).cps[·]?)) = cut l lo hi := by
    rw [S_len, indices_sIx, pick_run, S_list]
    rfl
  have hlen : (Builtin.Str.strSliceIndices lo hi 1 (S l).length).length = HT.sIx l.length l.length hi - HT.sIx l.length 0 lo := by
    rw [S_len, indices_sIx, List.length_map, List.length_range]
  unfold Txt.slice
  by_cases hc : ((1 : Int) == 1 && (Builtin.Str.strSliceIndices lo hi 1 (S l).length).length == (S l).length) = true
  · rw [if_pos hc]
    rw [hlen, S_len] at hc
    have e : HT.sIx l.length l.length hi - HT.sIx l.length 0 lo = l.length := by simpa using hc
    have h2 := HT.sIx_le l.length l.length (Nat.le_refl _) hi
    have e0 : HT.sIx l.length 0 lo = 0 ∨ l.length = 0 := by omega
    unfold cut
    rw [e]
    rcases e0 with z | z
    · rw [z]; simp
    · have : l = [] := List.eq_nil_of_length_eq_zero z
      subst this
      simp
  · rw [if_neg hc]
    rw [hx]
    rfl

section
variable {X : Cx}
theorem pe_S {x : Str} {j pos} (l : List Nat) (h : x = S l) : PE X (.Constant (.str x) j pos) (tC (.str (S l))) := by
  subst h
  exact pe_str
def rAddS : R2 := fun x y H Q => ∃ a b, x = .str (S a) ∧ y = .str (S b) ∧ a.length + b.length ≤ sizeLine ∧ Q (.str (S (a ++ b))) H
theorem op_addS : OpR X (binaryOp .Add) rAddS := by
  intro pins s σ H x y v u Q I rx ry h
  obtain ⟨a, b, rfl, rfl, hz, q⟩ := h
  exact op_add_str pins s σ H _ _ v u Q I rx ry ⟨S a, S b, rfl, rfl, by rw [S_len, S_len]; exact hz, by rw [S_app]; exact q⟩
theorem iop_addS : OpR X (inplaceOp .Add) rAddS := by
  intro pins s σ H x y v u Q I rx ry h
  obtain ⟨a, b, rfl, rfl, hz, q⟩ := h
  exact iop_add_str pins s σ H _ _ v u Q I rx ry ⟨S a, S b, rfl, rfl, by rw [S_len, S_len]; exact hz, by rw [S_app]; exact q⟩
def rIxS' : R2 := fun x y H Q => ∃ l i c, x = .str (S l) ∧ y = .int i ∧ l.length ≤ sizeLine ∧ atI l i = some c ∧ Q (.str (S [c])) H
theorem ix_S : IxR X rIxS' := by
  intro value slice pins s σ H x y v u Q I rx ry h hs
  obtain ⟨l, i, c, rfl, rfl, hz, he, q⟩ := h
  exact ix_str value slice pins s σ H _ _ v u Q I rx ry ⟨S l, i, c, rfl, rfl, by rw [S_len]; exact hz, by rw [S_list]; exact he, q⟩ hs
def rSlS : V → Option Int → Option Int → Hp → VK → Prop := fun x lo hi H Q => ∃ l, x = .str (S l) ∧ l.length ≤ sizeLine ∧ Q (.str (S (cut l lo hi))) H
theorem sl_S : SlR X rSlS := by
  intro pins s σ H x v vl vu lo hi sl Q I rx hs pl pu h
  obtain ⟨l, rfl, hz, q⟩ := h
  obtain ⟨t, rfl⟩ := rx
  refine ⟨"str", _, F.slot_str_getitem.lookup, typeIs_str _ _ _, ?_⟩
  have key : ∀ (a b : Option (Int × Tok)), vl = partValue a → vu = partValue b → a.map (·.1) = lo → b.map (·.1) = hi → wpAny (model X.prog X.w) X.A (getItem (.str (S l) t) (.ref sl)) (EP X pins σ Q) X.xe s := by
    rintro a b rfl rfl rfl rfl
    obtain ⟨o, e, c, d⟩ := hs
    refine wpAny_getItem_str_slice (l := a) (u := b) (st := none) ⟨o, e, c, d⟩ rfl (post_val_or_str ⟨?_, fun t' k => ?_⟩)
    · exact Nat.le_trans (Txt.slice_le (S l) _ _) (by rw [S_len]; exact hz)
    · exact ⟨.str (S (cut l _ _)), H, I.tok _, ⟨t', congrArg (fun z => Value.str z t') (slice_S l _ _)⟩, q⟩
  cases pl with
  | none =>
    cases pu with
    | none => exact key none none rfl rfl rfl rfl
    | int i ti => exact key none (some (i, ti)) rfl rfl rfl rfl
  | int i ti =>
    cases pu with
    | none => exact key (some (i, ti)) none rfl rfl rfl rfl
    | int j tj => exact key (some (i, ti)) (some (j, tj)) rfl rfl rfl rfl
theorem call_lenS : CallR X (.builtin "len") (fun xs H Q => ∃ l, xs = [.str (S l)] ∧ l.length ≤ sizeLine ∧ Q (.int l.length) H) := by
  intro pins s σ H xs us Q I r h
  obtain ⟨l, rfl, hz, q⟩ := h
  exact call_len_str pins s σ H _ us Q I r ⟨S l, rfl, by rw [S_len]; exact hz, by rw [S_len]; exact q⟩
/-- list(text) -/
def sgs (l : List Nat) : List V := l.map fun c => V.str (S [c])
theorem vals_signs {l : List Nat} : ∀ {acc : List Value} , acc.length = l.length → (∀ j v, acc[j]? = some v → SignAt (S l) j v) → Vals (sgs l) acc := by
  induction l with
  | nil => intro acc h _; have : acc = [] := List.eq_nil_of_length_eq_zero h; subst this; exact .nil
  | cons c l ih =>
    intro acc h k
    cases acc with
    | nil => cases h
    | cons a acc =>
      refine .cons ?_ (ih (by simpa using h) fun j v e => ?_)
      · obtain ⟨c', u, e1, e2⟩ := k 0 a rfl
        have : c = c' := by simpa [S] using e1
        subst this
        exact ⟨u, e2⟩
      · obtain ⟨c', u, e1, e2⟩ := k (j + 1) v (by simpa using e)
        exact ⟨c', u, by simpa [S] using e1, e2⟩
theorem call_listS (hc : X.calm = true) : CallR X (.type "list") (fun xs H Q => ∃ l, xs = [.str (S l)] ∧ l.length ≤ sizeLine ∧ ∀ p, H p = none → Q (.ref p) (upd H p (.lst (sgs l)))) := by
  intro pins s σ H xs us Q I r h
  obtain ⟨l, rfl, hz, q⟩ := h
  obtain ⟨u, rfl, t, rfl⟩ := vals1 r
  refine call_list_str (I.ok.hd hc) (S l) t (fun h' tk acc' c' hk e hacc => ?_) (by rw [S_size]; exact hz)
  obtain ⟨h1, h2⟩ := hacc
  rw [S_size] at h1
  refine ⟨.ref s.heap.objs.size, _, I.laid (t' := tk) (o := .lst (sgs l)) hk (Nat.le_refl _) ?_, rfl, q _ I.fresh⟩
  exact ⟨by unfold sgs; rw [List.length_map]; exact hz, acc'.toList, c', vals_signs (by simpa using h1) (fun j v e => h2 j v (by simpa using e)), by simpa using e⟩
/-- one sign in a text -/
def rInS : R2 := fun x y H Q => ∃ c l, x = .str (S [c]) ∧ y = .str (S l) ∧ Q (.bl (decide (c ∈ l))) H
theorem op_inS : OpR X (compareOp .In) rInS := by
  intro pins s σ H x y v u Q I rx ry h
  obtain ⟨c, l, rfl, rfl, q⟩ := h
  refine op_in_str pins s σ H _ _ v u Q I rx ry ⟨S [c], S l, rfl, rfl, ?_⟩
  have e := StrLaws.found_one (S l) c
  rw [S_list] at e
  rw [show (S [c]) = (⟨#[c]⟩ : Str) from rfl, e]
  exact q
end
end L2
namespace L2
open PySem PySem.Spec PyProof.Rows
/-! ### the first place of a sign -/
theorem occ_stays (s sub : Str) (hi : Nat) : ∀ (l : List Nat) (st : Array Nat × Nat), 1 ≤ st.fst.size → (forIn l st (StrLaws.occBody s sub hi 1)).run.fst = st.fst
  | [], st, h => rfl
  | a :: l, st, h => by
    rw [List.forIn_cons]
    unfold StrLaws.occBody
    rw [if_neg (fun z => absurd z.1.1.1 (Nat.not_lt.mpr h))]
    exact occ_stays s sub hi l _ h
theorem occ_first (s sub : Str) (hi : Nat) : ∀ (l : List Nat) (free : Nat), (∀ i ∈ l, free ≤ i) →
    (forIn l ((#[] : Array Nat), free) (StrLaws.occBody s sub hi 1)).run.fst.toList = (l.find? fun i => decide (i + sub.length ≤ hi) && Builtin.Str.subAt s sub i).toList
  | [], free, _ => rfl
  | a :: l, free, hf => by
    rw [List.forIn_cons, List.find?_cons]
    unfold StrLaws.occBody
    have ha : free ≤ a := hf a List.mem_cons_self
    by_cases hc : a + sub.length ≤ hi ∧ Builtin.Str.subAt s sub a = true
    · rw [if_pos ⟨⟨⟨by simp, ha⟩, hc.1⟩, hc.2⟩]
      have : (decide (a + sub.length ≤ hi) && Builtin.Str.subAt s sub a) = true := by simp [hc]
      rw [this]
      show (forIn l (#[].push a, a + sub.length) (StrLaws.occBody s sub hi 1)).run.fst.toList = _
      rw [occ_stays s sub hi l _ (by simp)]
      rfl
    · rw [if_neg (fun z => hc ⟨z.1.2, z.2⟩)]
      have : (decide (a + sub.length ≤ hi) && Builtin.Str.subAt s sub a) = false := by
        cases h1 : decide (a + sub.length ≤ hi) with
        | false => rfl
        | true =>
          cases h2 : Builtin.Str.subAt s sub a with
          | false => rfl
          | true => exact absurd ⟨of_decide_eq_true h1, h2⟩ hc
      rw [this]
      exact occ_first s sub hi l free fun i hi' => hf i (List.mem_cons_of_mem _ hi')
theorem subAt_one (l : List Nat) (c i : Nat) : Builtin.Str.subAt (S l) (S [c]) i = (l[i]? == some c) := by
  unfold Builtin.Str.subAt
  rw [S_len]
  show ((S l).cps.extract i (i + 1) == #[c]) = _
  have e : ((S l).cps.extract i (i + 1)) = ((l.drop i).take 1).toArray := by
    apply Array.toList_inj.mp
    simp [S, List.take_drop]
  rw [e]
  by_cases h : i < l.length
  · have e2 : (l.drop i).take 1 = [l[i]] := by
      rw [List.drop_eq_getElem_cons h]; rfl
    rw [e2, List.getElem?_eq_getElem h]
    by_cases hc : l[i] = c
    · rw [hc]; simp
    · have h1 : ([l[i]].toArray == #[c]) = false := by
        rw [beq_eq_false_iff_ne]
        intro z
        apply hc
        have := congrArg Array.toList z
        simpa using this
      have h2 : (some l[i] == some c) = false := by simpa using hc
      rw [h1, h2]
  · have e2 : (l.drop i).take 1 = [] := by rw [List.drop_eq_nil_of_le (by omega)]; rfl
    rw [e2, List.getElem?_eq_none (by omega)]
    rfl
theorem find_idx (l : List Nat) (c : Nat) : ∀ (k n : Nat), k + n = l.length + 1 → ((List.range' k n).find? fun i => decide (i + 1 ≤ l.length) && (l[i]? == some c)) = if c ∈ l.drop k then some (k + (l.drop k).idxOf c) else none
  | k, 0, h => by
    have : l.drop k = [] := List.drop_eq_nil_of_le (by omega)
    rw [this]; simp
  | k, n + 1, h => by
    rw [List.range'_succ, List.find?_cons]
    by_cases hk : k < l.length
    · have e : l.drop k = l[k] :: l.drop (k + 1) := List.drop_eq_getElem_cons hk
      rw [List.getElem?_eq_getElem hk, e]
      by_cases hc : l[k] = c
      · have : (decide (k + 1 ≤ l.length) && (some l[k] == some c)) = true := by simp [hc]; omega
        rw [this, if_pos (by simp [hc])]
        simp [hc]
      · have : (decide (k + 1 ≤ l.length) && (some l[k] == some c)) = false := by simp [hc]
        rw [this, find_idx l c (k + 1) n (by omega)]
        have hc' : ¬ c = l[k] := fun z => hc z.symm
        by_cases hm : c ∈ l.drop (k + 1)
        · rw [if_pos hm, if_pos (List.mem_cons_of_mem _ hm), List.idxOf_cons]
          have : (l[k] == c) = false := by simpa using hc
          rw [this]
          show some (k + 1 + List.idxOf c (List.drop (k + 1) l)) = some (k + (List.idxOf c (List.drop (k + 1) l) + 1))
          congr 1
          omega
        · rw [if_neg hm, if_neg (by intro z; rcases List.mem_cons.mp z with z | z; exact hc' z; exact hm z)]
    · have : l.drop k = [] := List.drop_eq_nil_of_le (by omega)
      have e1 : (decide (k + 1 ≤ l.length) && (l[k]? == some c)) = false := by
        rw [decide_eq_false (by omega)]; rfl
      have e2 : l.drop (k + 1) = [] := List.drop_eq_nil_of_le (by omega)
      rw [e1, find_idx l c (k + 1) n (by omega), this, e2]
      simp
theorem occ_S (l : List Nat) (c : Nat) : Builtin.Str.occurrences (S l) (S [c]) 0 (S l).length 1 = if c ∈ l then [l.idxOf c] else [] := by
  rw [StrLaws.occ_eq, occ_first _ _ _ _ 0 fun _ _ => Nat.zero_le _]
  have e : (fun i => decide (i + (S [c]).length ≤ (S l).length) && Builtin.Str.subAt (S l) (S [c]) i) = fun i => decide (i + 1 ≤ l.length) && (l[i]? == some c) := by
    funext i
    rw [subAt_one, S_len, S_len]
    rfl
  rw [e, S_len, Nat.sub_zero, find_idx l c 0 (l.length + 1) (by omega), List.drop_zero]
  by_cases h : c ∈ l
  · rw [if_pos h, if_pos h, Nat.zero_add]; rfl
  · rw [if_neg h, if_neg h]; rfl

section
variable {X : Cx}
def rIndexS : V → List V → Hp → VK → Prop := fun x vs H Q => ∃ l c, x = .str (S l) ∧ vs = [.str (S [c])] ∧ c ∈ l ∧ Q (.int (l.idxOf c : Nat)) H
theorem mt_indexS : MtR X "str.index" rIndexS := by
  intro pins s σ H x xs v us Q I rx rv h
  obtain ⟨l, c, rfl, rfl, hc, q⟩ := h
  obtain ⟨t, rfl⟩ := rx
  obtain ⟨u, rfl, t', rfl⟩ := vals1 rv
  exact SC.index (i := l.idxOf c) (rest := []) (by rw [occ_S, if_pos hc]) ⟨.int (l.idxOf c : Nat), H, I.tok _, ⟨_, rfl⟩, q⟩
def rFindS : V → List V → Hp → VK → Prop := fun x vs H Q => ∃ l c, x = .str (S l) ∧ vs = [.str (S [c])] ∧ Q (.int (if c ∈ l then (l.idxOf c : Nat) else -1)) H
theorem mt_findS : MtR X "str.find" rFindS := by
  intro pins s σ H x xs v us Q I rx rv h
  obtain ⟨l, c, rfl, rfl, q⟩ := h
  obtain ⟨t, rfl⟩ := rx
  obtain ⟨u, rfl, t', rfl⟩ := vals1 rv
  refine SC.find ⟨.int _, H, I.tok _, ⟨_, rfl⟩, ?_⟩
  have e : Txt.find (S l) (S [c]) = (if c ∈ l then ((l.idxOf c : Nat) : Int) else -1) := by
    unfold Txt.find
    rw [occ_S]
    by_cases h : c ∈ l
    · rw [if_pos h, if_pos h]
    · rw [if_neg h, if_neg h]
  rw [e]
  exact q
/-- one ASCII sign: islower, isupper, upper, lower -/
def rLowS (f : Nat → Bool) : V → List V → Hp → VK → Prop := fun x vs H Q => ∃ c, x = .str (S [c]) ∧ vs = [] ∧ c < 128 ∧ Q (.bl (f c)) H
def rUpS (f : Nat → Nat) : V → List V → Hp → VK → Prop := fun x vs H Q => ∃ c, x = .str (S [c]) ∧ vs = [] ∧ c < 128 ∧ Q (.str (S [f c])) H
def isLow (c : Nat) : Bool := decide (97 ≤ c) && decide (c ≤ 122)
theorem low_all : ∀ c, c < 128 → Txt.islower ⟨#[c]⟩ = isLow c := by decide +kernel
theorem mt_islower : MtR X "str.islower" (rLowS isLow) := by
  intro pins s σ H x xs v us Q I rx rv h
  obtain ⟨c, rfl, rfl, hc, q⟩ := h
  obtain ⟨t, rfl⟩ := rx
  have e : us = [] := by cases rv; rfl
  subst e
  exact SC.islower ⟨.bl (isLow c), H, I, congrArg Value.bool (low_all c hc), q⟩
theorem upper_one {c : Nat} (hc : c < 128) : Txt.upper (S [c]) = S [up1 c] := by
  rw [upper_ascii (by intro d hd; rw [S_list] at hd; simp at hd; omega)]
  simp [S]
theorem lower_one {c : Nat} (hc : c < 128) : Txt.lower (S [c]) = S [lo1 c] := by
  rw [lower_ascii (by intro d hd; rw [S_list] at hd; simp at hd; omega)]
  simp [S]
theorem fits1 (c : Nat) : Builtin.Str.tooLong (S [c]).length = false := by
  rw [S_len]
  show Builtin.Str.tooLong 1 = false
  decide
theorem mt_upper : MtR X "str.upper" (rUpS up1) := by
  intro pins s σ H x xs v us Q I rx rv h
  obtain ⟨c, rfl, rfl, hc, q⟩ := h
  obtain ⟨t, rfl⟩ := rx
  have e : us = [] := by cases rv; rfl
  subst e
  exact SC.upper (by rw [upper_one hc]; exact fits1 _) ⟨.str (S [up1 c]), H, I.tok _, ⟨_, congrArg (fun z => Value.str z _) (upper_one hc)⟩, q⟩
theorem mt_lower : MtR X "str.lower" (rUpS lo1) := by
  intro pins s σ H x xs v us Q I rx rv h
  obtain ⟨c, rfl, rfl, hc, q⟩ := h
  obtain ⟨t, rfl⟩ := rx
  have e : us = [] := by cases rv; rfl
  subst e
  exact SC.lower (by rw [lower_one hc]; exact fits1 _) ⟨.str (S [lo1 c]), H, I.tok _, ⟨_, congrArg (fun z => Value.str z _) (lower_one hc)⟩, q⟩
/-! ### ''.join(list of texts) -/
theorem glue_S : ∀ (ls : List (List Nat)) (a : Array Nat), (ls.map S).foldl (fun acc p => acc ++ (S []).cps ++ p.cps) a = a ++ ls.flatten.toArray
  | [], a => by simp
  | l :: ls, a => by
    rw [List.map_cons, List.foldl_cons, glue_S ls]
    simp [S]
theorem join_S (ls : List (List Nat)) : Txt.join (S []) (ls.map S) = S ls.flatten := by
  unfold Txt.join Builtin.Str.glued
  cases ls with
  | nil => rfl
  | cons l ls =>
    show Str.mk ((List.map S ls).foldl (fun acc p => acc ++ (S []).cps ++ p.cps) (S l).cps) = _
    rw [glue_S]
    simp [S]
theorem strsAre_of : ∀ {ls : List (List Nat)} {us : List Value}, Vals (ls.map fun l => V.str (S l)) us → StrsAre us (ls.map S)
  | [], us, r => by cases r; exact .nil
  | l :: ls, us, r => by
    cases r with
    | cons r1 r2 =>
      obtain ⟨t, rfl⟩ := r1
      exact .cons _ t (strsAre_of r2)
def rJoinS (K : PySem.W.Frag) : V → List V → Hp → VK → Prop := fun x vs H Q => ∃ (p : Addr) (ls : List (List Nat)), x = .str (S []) ∧ vs = [.ref p] ∧ SqL K H p (ls.map fun l => V.str (S l)) ∧ (ls.map List.length).sum ≤ 16777216 ∧ Q (.str (S ls.flatten)) H
theorem mt_joinS : MtR X "str.join" (rJoinS X.K) := by
  intro pins s σ H x xs v us Q I rx rv h
  obtain ⟨p, ls, rfl, rfl, hq, hz, q⟩ := h
  obtain ⟨t, rfl⟩ := rx
  obtain ⟨u, rfl, ru⟩ := vals1 rv
  cases ru
  obtain ⟨its, r, pl, _⟩ := I.list hq
  have e : (S []).length = 0 := rfl
  refine join_list pl.isList (by simpa using strsAre_of r) ?_ fun t' k => ?_
  · rw [e, Nat.mul_zero, Nat.add_zero, List.map_map]
    have e2 : (Str.length ∘ S) = List.length := by funext l; exact S_len l
    have e3 : ((fun x : Str => x.length) ∘ S) = List.length := by funext l; exact S_len l
    first | (rw [e2]; exact hz) | (rw [e3]; exact hz)
  · exact ⟨.str (S ls.flatten), H, I.tok _, ⟨t', congrArg (fun z => Value.str z t') (join_S ls)⟩, q⟩
/-! ### isinstance(x, str) -/
/-! ### all(list of truths) -/
theorem call_allB (hc : X.calm = true) : CallR X (.builtin "all") (fun xs H Q => ∃ (p : Addr) (bs : List Bool), xs = [.ref p] ∧ SqL X.K H p (bs.map V.bl) ∧ Q (.bl (bs.all id)) H) := by
  intro pins s σ H xs us Q I r h
  obtain ⟨p, bs, rfl, hq, q⟩ := h
  obtain ⟨u, rfl, ru⟩ := vals1 r
  cases ru
  obtain ⟨its, rv, pl, hz⟩ := I.list hq
  have hlen : its.length = bs.length := by rw [← rv.length, List.length_map]
  have hp : p < s.heap.objs.size := by
    obtain ⟨o, n, e, _⟩ := pl
    exact Heap.lt_size e
  refine call_all_walk (wpAny_pyIter_list pl.isList ?_)
  refine ⟨s.heap.objs.size, _, _, _, _, _, fun i => (bs[i]?).getD true, rfl, Walks.list (A := X.A.in1) (I.ok.hd hc) s.heap.objs.size p (Nat.ne_of_lt hp) its.toArray, ⟨⟨_, Heap.get?_push_size _ rfl, rfl, rfl⟩, ?_⟩, fun i v s' Q' E' hP hQ => ?_, fun h' tk hk => ?_⟩
  · obtain ⟨o, ho, hr⟩ := pl.isList
    exact ⟨o, Heap.get?_push_of_some _ ho, hr⟩
  · have hP' : its[i]? = some v := by simpa using hP
    have hi : i < bs.length := by rw [← hlen]; exact (List.getElem?_eq_some_iff.mp hP').1
    have hb : (bs.map V.bl)[i]? = some (V.bl bs[i]) := by rw [List.getElem?_map, List.getElem?_eq_getElem hi]; rfl
    obtain ⟨u, hu, ru⟩ := rv.get hb
    rw [hP'] at hu; cases hu
    cases (show v = Value.bool bs[i] from ru)
    have e : (bs[i]?).getD true = bs[i] := by rw [List.getElem?_eq_getElem hi]; rfl
    have hQ' : Q' ((bs[i]?).getD true) s' := hQ
    rw [e] at hQ'
    exact wpAny_pure hQ'
  · have e : ((List.range its.toArray.size).all fun i => (bs[i]?).getD true) = bs.all id := by
      rw [List.size_toArray, hlen]
      clear hq rv hlen q
      rw [Bool.eq_iff_iff, List.all_eq_true, List.all_eq_true]
      constructor
      · intro h b hb
        obtain ⟨i, hi, e⟩ := List.getElem_of_mem hb
        have := h i (List.mem_range.mpr hi)
        rw [List.getElem?_eq_getElem hi, e] at this
        exact this
      · intro h i hi
        have hi' := List.mem_range.mp hi
        rw [List.getElem?_eq_getElem hi']
        exact h _ (List.getElem_mem hi')
    have I1 : Inv X pins σ H { s with heap := h', toks := tk } := by
      have I0 : Inv X pins σ H { s with heap := s.heap.push { cls := .type "list_iterator", data := .fields #[.ref p, .int 0 0] } } := I.kept (t' := s.toks) fun b o e => Heap.get?_push_of_some _ e
      have f := I.fpOk (H' := H) (b := s.heap.objs.size) (Nat.le_refl _) I.fresh
      have J := I0.turned (h' := h') (t' := tk) (it := s.heap.objs.size) (fun b o hb e => hk b o (by simpa using hb) e) f.1 f.2.1 f.2.2.2.1 f.2.2.2.2.1 f.2.2.2.2.2
      exact J
    exact ⟨.bl (bs.all id), H, I1, by rw [e]; rfl, q⟩
end
end L2
namespace L2.F2
open PySem PySem.Spec PyProof.Rows
end L2.F2
namespace L2
open PySem PySem.Spec PyProof.Rows
section
variable {prog : Program} {w : World} {A : Around} {E : Value → Shared → Prop} {s : Shared}
/-- the iterator at it: i is the next place -/
def IsRevS (h : Heap) (it : Addr) (x : Str) (t : Tok) (i : Int) : Prop := ∃ o, h.get? it = some o ∧ o.cls = .type "reversed" ∧ o.data = .fields #[.str x t, rawInt i]
theorem IsRevS.typeIs {it : Addr} {x : Str} {t : Tok} {i : Int} (h : IsRevS s.heap it x t i) : s.TypeIs (.ref it) "reversed" := let ⟨o, ho, hc, _⟩ := h; ⟨o, ho, hc⟩
end
/-! ### fixed items -/
def Itx (xs : List V) : It := ⟨fun i _ => i < xs.length, fun i H x H' => H' = H ∧ xs[i]? = some x, fun i _ => xs.length ≤ i⟩
theorem sgs_get {l : List Nat} {i : Nat} {x : V} (h : (sgs l)[i]? = some x) : ∃ c, l[i]? = some c ∧ x = .str (S [c]) := by
  unfold sgs at h
  rw [List.getElem?_map] at h
  cases e : l[i]? with
  | none => rw [e] at h; cases h
  | some c => rw [e] at h; cases h; exact ⟨c, rfl, rfl⟩
theorem sgs_len (l : List Nat) : (sgs l).length = l.length := by unfold sgs; rw [List.length_map]
theorem turn_str {P : Program} {w : World} {K : PySem.W.Frag} {tg : Expr} (it : Addr) (l : List Nat) (t : Tok) : Turn P w K tg (Itx (sgs l)) [it] it (fun i h => h.IsStrIter it (strIterType (S l)) (S l) t i) where
  mem := by simp
  obj := fun i h st b hb => by
    have e : b = it := by simpa using hb
    subst e
    obtain ⟨o, e, c, d⟩ := st
    exact ⟨o, e, fun v z => by rw [d] at z; cases z⟩
  keep := fun i h h' st k => let ⟨o, e, r⟩ := st; ⟨o, k it (by simp) o e, r⟩
  item := by
    intro X hP hw hK hc i pins s σ H E I hf st hg
    subst hP hw hK
    have hg' : i < l.length := by have : i < (sgs l).length := hg; rwa [sgs_len] at this
    obtain ⟨f0, f1, f2, f3, f4, f5⟩ := hf it (by simp)
    have fin : ∀ (v : Value) (h' : Heap) (tk : Nat), SignAt (S l) i v → h'.IsStrIter it (strIterType (S l)) (S l) t (i + 1) → (∀ b o, b ∉ [it] → s.heap.get? b = some o → h'.get? b = some o) →
        ∃ u, some v = some u ∧ wpAny (model X.prog X.w) X.A (letOwnedTupleGo tg (.ref it) u) (fun _ s2 => ∃ x H', Inv X pins σ H' s2 ∧ RelV x u ∧ (Itx (sgs l)).yld i H x H' ∧ s2.heap.IsStrIter it (strIterType (S l)) (S l) t (i + 1) ∧ ∀ b ∈ [it], H' b = none) E { s with heap := h', toks := tk } := by
      intro v h' tk hv st' kk
      obtain ⟨c, u, e1, e2⟩ := hv
      subst e2
      have I1 : Inv X pins σ H { s with heap := h', toks := tk } := I.turned (fun b o hb e => kk b o (by simpa using hb) e) f0 f1 f3 f4 f5
      obtain ⟨o, e, cc, d⟩ := id st'
      refine ⟨_, rfl, go_of (s := { s with heap := h', toks := tk }) e cc d (by unfold strIterType; split <;> decide) ⟨.str (S [c]), H, I1, ⟨u, rfl⟩, ⟨rfl, ?_⟩, st', fun b hb => (hf b hb).1⟩⟩
      unfold sgs
      rw [List.getElem?_map]
      have e1' : l[i]? = some c := by simpa [S] using e1
      rw [e1']
      rfl
    have hsz : i < (S l).cps.size := by rw [S_size]; exact hg'
    by_cases ha : (S l).cps.all (· < 128) = true
    · have et : strIterType (S l) = "str_ascii_iterator" := by unfold strIterType; rw [if_pos ha]
      rw [et] at st
      exact (Walks.strAscii (prog := X.prog) (w := X.w) (I.ok.hd hc) it (S l) t).item i s _ _ hsz st fun v h' tk hv st' kk => fin v h' tk hv (by rw [et]; exact st') kk
    · have et : strIterType (S l) = "str_iterator" := by unfold strIterType; rw [if_neg ha]
      rw [et] at st
      exact (Walks.strWide (prog := X.prog) (w := X.w) (I.ok.hd hc) it (S l) t).item i s _ _ hsz st fun v h' tk hv st' kk => fin v h' tk hv (by rw [et]; exact st') kk
  done := by
    intro X hP hw hK hc i pins s σ H E I hf st hg
    subst hP hw hK
    obtain ⟨f0, f1, f2, f3, f4, f5⟩ := hf it (by simp)
    have hg' : l.length ≤ i := by have : (sgs l).length ≤ i := hg; rwa [sgs_len] at this
    have hx : (S l).cps[i]? = none := by rw [Array.getElem?_eq_none_iff, S_size]; exact hg'
    by_cases ha : (S l).cps.all (· < 128) = true
    · have et : strIterType (S l) = "str_ascii_iterator" := by unfold strIterType; rw [if_pos ha]
      rw [et] at st
      exact wpAny_pyNext_ascii_end (I.ok.hd hc) st hx fun h' eb => ⟨rfl, I.turned (t' := s.toks) (fun b o hb e => eb b o hb e) f0 f1 f3 f4 f5⟩
    · have et : strIterType (S l) = "str_iterator" := by unfold strIterType; rw [if_neg ha]
      rw [et] at st
      exact wpAny_pyNext_wide_end (I.ok.hd hc) st hx fun h' eb => ⟨rfl, I.turned (t' := s.toks) (fun b o hb e => eb b o hb e) f0 f1 f3 f4 f5⟩
  self := fun _ _ s _ _ st h => by
    by_cases ha : (S l).cps.all (· < 128) = true
    · have et : strIterType (S l) = "str_ascii_iterator" := by unfold strIterType; rw [if_pos ha]
      rw [et] at st
      exact wpAny_pyIter_striter_ascii st h
    · have et : strIterType (S l) = "str_iterator" := by unfold strIterType; rw [if_neg ha]
      rw [et] at st
      exact wpAny_pyIter_striter_wide st h
section
variable {X : Cx} {tg : Expr}
def iStr (tl : TE) : TI := fun σ H R => tl σ H fun x H1 => ∃ l, x = .str (S l) ∧ R (Itx (sgs l)) H1
theorem pi_str {l : Expr} {tl : TE} (hl : PE X l tl) : PI X tg l (iStr tl) := by
  intro pins s σ H R I h
  refine thn (hl pins s σ H _ I h) fun v s1 ⟨x, H1, I1, r1, q1⟩ => ?_
  obtain ⟨l, rfl, q⟩ := q1
  obtain ⟨t, rfl⟩ := r1
  refine wpAny_pyIter_strU ?_
  refine ⟨s1.heap.objs.size, [s1.heap.objs.size], _, _, H1, rfl, I1.kept (t' := s1.toks) fun b o e => Heap.get?_push_of_some _ e, turn_str _ l t, ⟨_, Heap.get?_push_size _ rfl, rfl, rfl⟩, fun b hb => ?_, q⟩
  have e : b = s1.heap.objs.size := by simpa using hb
  subst e
  exact I1.fpOk (Nat.le_refl _) (I1.hok.fresh (Nat.le_refl _))
end
/-! ### loops and comprehensions over fixed items -/
theorem for_fix {xs : List V} {g : TG} {tb : TS} {D : Ends} {σ : St} {H : Hp} (Pv : Nat → St → Hp → Prop) (h0 : Pv 0 σ H)
    (hs : ∀ i x σ H, xs[i]? = some x → Pv i σ H → g x σ H fun σ2 H2 => tb { D with nx := Pv (i + 1), ct := Pv (i + 1), bk := D.nx } σ2 H2) (hd : ∀ σ H, Pv xs.length σ H → D.nx σ H) :
    ∃ W : Nat → Nat → St → Hp → Prop, (∃ m, W 0 m σ H) ∧ ∀ i m σ H, W i m σ H →
      ((Itx xs).stop i H ∧ D.nx σ H) ∨ ((Itx xs).go i H ∧ ∃ N : St → Hp → Prop, (∀ σ' H', N σ' H' → ∃ m', m' < m ∧ W (i + 1) m' σ' H') ∧ ∀ x H', (Itx xs).yld i H x H' → g x σ H' fun σ2 H2 => tb { D with nx := N, ct := N, bk := D.nx } σ2 H2) := by
  refine ⟨fun i m σ H => m = xs.length - i ∧ i ≤ xs.length ∧ Pv i σ H, ⟨xs.length, by simp, Nat.zero_le _, h0⟩, ?_⟩
  rintro i m σ H ⟨rfl, hi, p⟩
  by_cases hlt : i < xs.length
  · refine .inr ⟨hlt, Pv (i + 1), fun σ' H' p' => ⟨xs.length - (i + 1), by omega, rfl, hlt, p'⟩, fun x H' y => ?_⟩
    obtain ⟨e, y⟩ := y
    subst e
    exact hs i x σ _ y p
  · have e : i = xs.length := by omega
    subst e
    exact .inl ⟨Nat.le_refl _, hd σ H p⟩
theorem comp_by {J : It} {n : Nat} {xs : Nat → V → Prop} {σc : St} {g : TG} {tc : TT} {te : TE} {Q : VK} {H1 : Hp} (Pv : Nat → List V → Hp → Prop) (hn : n < sizeLine) (hgo : ∀ i acc H, i < n → Pv i acc H → J.go i H) (hstop : ∀ acc H, Pv n acc H → J.stop n H)
    (hy : ∀ i acc H x H', i < n → Pv i acc H → J.yld i H x H' → H' = H ∧ xs i x) (h0 : Pv 0 [] H1)
    (hs : ∀ (i : Nat) (x : V) (acc : List V) (H : Hp) (Nx : List V → Hp → Prop), i < n → xs i x → acc.length ≤ i → Pv i acc H → (∀ acc' H', acc'.length ≤ i + 1 → Pv (i + 1) acc' H' → Nx acc' H') →
      g x σc H fun σ2 H2 => Wk σc σ2 ∧ tc σ2 H2 fun b H3 => if b = true then te σ2 H3 fun v H4 => Nx (acc ++ [v]) H4 else Nx acc H3)
    (hd : ∀ acc H D, acc.length ≤ n → Pv n acc H → H D = none → Q (.ref D) (upd H D (.lst acc))) : CompW J σc g tc te Q H1 := by
  refine ⟨fun i m acc H => m = n - i ∧ i ≤ n ∧ acc.length ≤ i ∧ Pv i acc H, ⟨n, by simp, Nat.zero_le _, Nat.le_refl _, h0⟩, ?_⟩
  rintro i m acc H ⟨rfl, hi, hl, p⟩
  refine ⟨by omega, ?_⟩
  by_cases hlt : i < n
  · refine .inr ⟨hgo i acc H hlt p, fun x H' y => ?_⟩
    obtain ⟨rfl, y2⟩ := hy i acc H x H' hlt p y
    exact hs i x acc _ (fun acc' H' => ∃ m', m' < n - i ∧ (m' = n - (i + 1) ∧ i + 1 ≤ n ∧ acc'.length ≤ i + 1 ∧ Pv (i + 1) acc' H')) hlt y2 hl p fun acc' H' h1 h2 => ⟨n - (i + 1), by omega, rfl, hlt, h1, h2⟩
  · have e : i = n := by omega
    subst e
    exact .inl ⟨hstop acc H p, fun D hD => hd acc H D hl p hD⟩
theorem comp_fix {xs : List V} {σc : St} {g : TG} {tc : TT} {te : TE} {Q : VK} {H1 : Hp} (Pv : Nat → List V → Hp → Prop) (hn : xs.length < sizeLine) (h0 : Pv 0 [] H1)
    (hs : ∀ (i : Nat) (x : V) (acc : List V) (H : Hp) (Nx : List V → Hp → Prop), i < xs.length → xs[i]? = some x → acc.length ≤ i → Pv i acc H → (∀ acc' H', acc'.length ≤ i + 1 → Pv (i + 1) acc' H' → Nx acc' H') →
      g x σc H fun σ2 H2 => Wk σc σ2 ∧ tc σ2 H2 fun b H3 => if b = true then te σ2 H3 fun v H4 => Nx (acc ++ [v]) H4 else Nx acc H3)
    (hd : ∀ acc H D, acc.length ≤ xs.length → Pv xs.length acc H → H D = none → Q (.ref D) (upd H D (.lst acc))) : CompW (Itx xs) σc g tc te Q H1 :=
  comp_by (xs := fun i x => xs[i]? = some x) Pv hn (fun i _ _ h _ => h) (fun _ _ _ => Nat.le_refl _) (fun i _ H x H' _ _ y => y) h0 hs hd
theorem comp_rng {lo : Int} {n : Nat} {σc : St} {g : TG} {tc : TT} {te : TE} {Q : VK} {H1 : Hp} (Pv : Nat → List V → Hp → Prop) (hn : n < sizeLine) (h0 : Pv 0 [] H1)
    (hs : ∀ (i : Nat) (acc : List V) (H : Hp) (Nx : List V → Hp → Prop), i < n → acc.length ≤ i → Pv i acc H → (∀ acc' H', acc'.length ≤ i + 1 → Pv (i + 1) acc' H' → Nx acc' H') →
      g (.int (lo + i)) σc H fun σ2 H2 => Wk σc σ2 ∧ tc σ2 H2 fun b H3 => if b = true then te σ2 H3 fun v H4 => Nx (acc ++ [v]) H4 else Nx acc H3)
    (hd : ∀ acc H D, acc.length ≤ n → Pv n acc H → H D = none → Q (.ref D) (upd H D (.lst acc))) : CompW (Itr lo n) σc g tc te Q H1 :=
  comp_by (xs := fun i x => x = .int (lo + i)) Pv hn (fun i _ _ h _ => h) (fun _ _ _ => Nat.le_refl _) (fun i _ H x H' _ _ y => y) h0 (fun i x acc H Nx h1 h2 => by subst h2; exact hs i acc H Nx h1) hd
theorem comp_list {K : PySem.W.Frag} {a : Addr} {xs : List V} {σc : St} {g : TG} {tc : TT} {te : TE} {Q : VK} {H1 : Hp} (Pv : Nat → List V → Hp → Prop) (hn : xs.length < sizeLine) (hl : ∀ i acc H, Pv i acc H → SqL K H a xs) (h0 : Pv 0 [] H1)
    (hs : ∀ (i : Nat) (x : V) (acc : List V) (H : Hp) (Nx : List V → Hp → Prop), i < xs.length → xs[i]? = some x → acc.length ≤ i → Pv i acc H → (∀ acc' H', acc'.length ≤ i + 1 → Pv (i + 1) acc' H' → Nx acc' H') →
      g x σc H fun σ2 H2 => Wk σc σ2 ∧ tc σ2 H2 fun b H3 => if b = true then te σ2 H3 fun v H4 => Nx (acc ++ [v]) H4 else Nx acc H3)
    (hd : ∀ acc H D, acc.length ≤ xs.length → Pv xs.length acc H → H D = none → Q (.ref D) (upd H D (.lst acc))) : CompW (Itl K a) σc g tc te Q H1 :=
  comp_by (xs := fun i x => xs[i]? = some x) Pv hn (fun i acc H h p => ⟨xs, xs[i], hl i acc H p, by simp [h]⟩) (fun acc H p => ⟨xs, hl _ acc H p, Nat.le_refl _⟩) (fun i acc H x H' h p y => ⟨y.1, y.2 xs (hl i acc H p)⟩) h0 hs hd

/-! ### while, its measure within the word -/
def tWhileN (c : TT) (tb : TS) : TS := fun D σ H => ∃ W : Nat → St → Hp → Prop, (∃ m, W m σ H) ∧ ∀ m σ H, W m σ H →
  c σ H fun b H1 => if b = true then tb { D with nx := fun σ' H' => ∃ m', m' < m ∧ W m' σ' H', ct := fun σ' H' => ∃ m', m' < m ∧ W m' σ' H', bk := D.nx } σ H1 else D.nx σ H1
theorem ps_whileN {X : Cx} {c : Expr} {body : List Stmt} {tc : TT} {tb : TS} {pos : Pos} (hp : PassesOwn (model X.prog X.w) X.A X.env X.xe) (hc : PT X c tc) (hb : PSs X body tb) : PS X (.While c body [] pos) (tWhileN tc tb) := by
  intro pins s σ H D I h
  obtain ⟨W, ⟨m0, w0⟩, turn⟩ := h
  refine wpAny_While (codeAny_whileLoop (fun n s' => ∃ σ' H', Inv X pins σ' H' s' ∧ W n σ' H') ?_ m0 ⟨σ, H, I, w0⟩)
  rintro n s1 ⟨σ1, H1, I1, w1⟩
  refine wpAny_passesOwn hp (thn (hc pins s1 σ1 H1 _ I1 (turn n σ1 H1 w1)) fun b s2 ⟨H2, I2, q2⟩ => ?_)
  cases b with
  | true =>
    rw [if_pos rfl] at q2 ⊢
    refine wpAny_passesOwn hp (thn (hb pins s2 σ1 H2 _ I2 q2) fun f s3 q3 => ?_)
    cases f with
    | next =>
      obtain ⟨σ3, H3, I3, m', hm, w3⟩ := q3
      exact ⟨m', hm, σ3, H3, I3, w3⟩
    | cont =>
      obtain ⟨σ3, H3, I3, m', hm, w3⟩ := q3
      exact ⟨m', hm, σ3, H3, I3, w3⟩
    | brk => exact q3
    | ret v => exact q3
  | false =>
    rw [if_neg Bool.false_ne_true] at q2 ⊢
    exact wpAny_execs_nil ⟨σ1, H2, I2, q2⟩

/-! ### the comprehension's rule with its checks reckoned -/
def compOk (X : Cx) (scope : Scope) : Bool := (scope.names.all fun y => y.2 != .cell) && (scope.kind == .function) && (scope.names.all fun y => y.2 != .free || X.env.kindOf y.1 == some .cell || X.env.kindOf y.1 == some .free) && (scope.names.all fun y => y.2 != .local || scope.names.lookup y.1 == some .local)
theorem compOk_parts {X : Cx} {scope : Scope} (h : compOk X scope = true) : (∀ y ∈ scope.names, y.2 ≠ .cell) ∧ scope.kind = .function ∧ (∀ y ∈ scope.names, y.2 = .free → X.env.kindOf y.1 = some .cell ∨ X.env.kindOf y.1 = some .free) ∧ (∀ x ∈ scope.names, x.2 = .local → scope.names.lookup x.1 = some .local) := by
  unfold compOk at h
  simp only [Bool.and_eq_true] at h
  obtain ⟨⟨⟨h1, h2⟩, h3⟩, h4⟩ := h
  refine ⟨fun y hy e => ?_, by simpa using h2, fun y hy e => ?_, fun y hy e => ?_⟩
  · have := List.all_eq_true.mp h1 y hy
    rw [e] at this; simp at this
  · have := List.all_eq_true.mp h3 y hy
    rw [e] at this
    simpa using this
  · have := List.all_eq_true.mp h4 y hy
    rw [e] at this
    simpa using this
theorem pe_compB {X : Cx} {tg iter elt : Expr} {ifs : List Expr} {scope : Scope} {pos : Pos} {wi : TI} {g : TG} {tc : TT} {te : TE} (Nc : List Str) (ix : List (Option Nat)) (hi : PI X tg iter wi) (hix : IxOk X scope Nc ix)
    (hG : ∀ C s H fp, PG (cxComp X scope C Nc s H fp) tg g) (hT : ∀ C s H fp, PF (cxComp X scope C Nc s H fp) ifs tc) (hE : ∀ C s H fp, PE (cxComp X scope C Nc s H fp) elt te) (hok : compOk X scope = true := by rfl) (hcalm : X.calm = true := by rfl)
    (hs : ∀ x, foldedSetIterable iter X.env x = pure x := by intro _; rfl) : PE X (.ListComp elt [⟨tg, iter, ifs, 0⟩] scope pos) (tComp wi ix g tc te) :=
  let ⟨h1, h2, h3, h4⟩ := compOk_parts hok
  pe_comp Nc ix hi hcalm hix h1 h2 h3 h4 hG hT hE hs
theorem ps_setCB {X : Cx} {i : Nat} {x : Str} {tg iter elt : Expr} {ifs : List Expr} {scope : Scope} {pos spos pos' : Pos} {wi : TI} {g : TG} {tc : TT} {te : TE} (Nc : List Str) (ix : List (Option Nat)) (hN : X.N.Nodup) (hxi : X.N[i]? = some x) (hx : Loc X.env.scope x)
    (hi : PI X tg iter wi) (hix : IxOk X scope Nc ix)
    (hG : ∀ C s H fp, PG (cxComp X scope C Nc s H fp) tg g) (hT : ∀ C s H fp, PF (cxComp X scope C Nc s H fp) ifs tc) (hE : ∀ C s H fp, PE (cxComp X scope C Nc s H fp) elt te)
    (hsw : swapsWith (.ListComp elt [⟨tg, iter, ifs, 0⟩] scope pos) (some (.Name x pos')) spos.line X.env = pure true := by rfl) (hok : compOk X scope = true := by rfl) (hcalm : X.calm = true := by rfl)
    (hs : ∀ x, foldedSetIterable iter X.env x = pure x := by intro _; rfl) (hf : X.fn x = true ∨ X.env.scope.names.lookup x = some .local := by first | exact .inl rfl | exact .inr rfl | assumption) :
    PS X (.Assign [.Name x pos'] (.ListComp elt [⟨tg, iter, ifs, 0⟩] scope pos) spos) (tAsg (tComp wi ix g tc te) (gName i)) :=
  let ⟨h1, h2, h3, h4⟩ := compOk_parts hok
  ps_setC Nc ix hN hxi hx hsw hi hcalm hix h1 h2 h3 h4 hG hT hE hs hf

/-! ### comparisons of ints, of texts -/
section
variable {X : Cx}
def rEqS : R2 := fun x y H Q => ∃ a b, x = .str (S a) ∧ y = .str (S b) ∧ Q (.bl (decide (a = b))) H
def rNeS : R2 := fun x y H Q => ∃ a b, x = .str (S a) ∧ y = .str (S b) ∧ Q (.bl (!decide (a = b))) H
theorem op_eqS : OpR X (compareOp .Eq) rEqS := by
  intro pins s σ H x y v u Q I rx ry h
  obtain ⟨a, b, rfl, rfl, q⟩ := h
  exact op_eq pins s σ H _ _ v u Q I rx ry ⟨rfl, by rw [dec_S]; exact q⟩
theorem op_neS : OpR X (compareOp .NotEq) rNeS := by
  intro pins s σ H x y v u Q I rx ry h
  obtain ⟨a, b, rfl, rfl, q⟩ := h
  exact op_ne pins s σ H _ _ v u Q I rx ry ⟨rfl, by rw [dec_S]; exact q⟩
theorem dec_I {i j : Int} : decide (V.int i = V.int j) = decide (i = j) := by
  by_cases h : i = j
  · subst h; simp
  · rw [decide_eq_false h, decide_eq_false]
    intro q
    exact h (V.int.inj q)
theorem dec_B {i j : Bool} : decide (V.bl i = V.bl j) = decide (i = j) := by
  by_cases h : i = j
  · subst h; simp
  · rw [decide_eq_false h, decide_eq_false]
    intro q
    exact h (V.bl.inj q)
theorem op_eqI : OpR X (compareOp .Eq) (rI0 fun i j => .bl (decide (i = j))) := by
  intro pins s σ H x y v u Q I rx ry h
  obtain ⟨a, b, rfl, rfl, q⟩ := h
  exact op_eq pins s σ H _ _ v u Q I rx ry ⟨rfl, by rw [dec_I]; exact q⟩
theorem op_neI : OpR X (compareOp .NotEq) (rI0 fun i j => .bl (!decide (i = j))) := by
  intro pins s σ H x y v u Q I rx ry h
  obtain ⟨a, b, rfl, rfl, q⟩ := h
  exact op_ne pins s σ H _ _ v u Q I rx ry ⟨rfl, by rw [dec_I]; exact q⟩
def rB0 (g : Bool → Bool → V) : R2 := fun x y H Q => ∃ i j, x = .bl i ∧ y = .bl j ∧ Q (g i j) H
theorem op_eqB : OpR X (compareOp .Eq) (rB0 fun i j => .bl (decide (i = j))) := by
  intro pins s σ H x y v u Q I rx ry h
  obtain ⟨a, b, rfl, rfl, q⟩ := h
  exact op_eq pins s σ H _ _ v u Q I rx ry ⟨rfl, by rw [dec_B]; exact q⟩
def rLtS (f : List Nat → List Nat → Bool) : R2 := fun x y H Q => ∃ a b, x = .str (S a) ∧ y = .str (S b) ∧ Q (.bl (f a b)) H
theorem op_ltS : OpR X (compareOp .Lt) (rLtS fun a b => decide (a < b)) := by
  intro pins s σ H x y v u Q I rx ry h
  obtain ⟨a, b, rfl, rfl, q⟩ := h
  exact op_lt_str pins s σ H _ _ v u Q I rx ry ⟨S a, S b, rfl, rfl, by rw [S_list, S_list]; exact q⟩
end
end L2
namespace L2
open PySem PySem.Spec PyProof.Rows
/-! ### the rules with the text's written part named -/
section
variable {X : Cx} {tg : Expr}
theorem ix_listK (K : PySem.W.Frag) (h : X.K = K) : IxR X (rIxL K) := by subst h; exact ix_list
theorem ix_tupK (K : PySem.W.Frag) (h : X.K = K) : IxR X (rIxT K) := by subst h; exact ix_tup
def rLenL (K : PySem.W.Frag) : List V → Hp → VK → Prop := fun xs H Q => ∃ p ys, xs = [.ref p] ∧ (SqL K H p ys ∨ SqT K H p ys) ∧ Q (.int ys.length) H
theorem call_len_seqK (K : PySem.W.Frag) (h : X.K = K) : CallR X (.builtin "len") (rLenL K) := by subst h; exact call_len_seq
theorem mt_joinK (K : PySem.W.Frag) (h : X.K = K) : MtR X "str.join" (rJoinS K) := by subst h; exact mt_joinS
def rAllB (K : PySem.W.Frag) : List V → Hp → VK → Prop := fun xs H Q => ∃ (p : Addr) (bs : List Bool), xs = [.ref p] ∧ SqL K H p (bs.map V.bl) ∧ Q (.bl (bs.all id)) H
theorem call_allK (K : PySem.W.Frag) (h : X.K = K) (hc : X.calm = true) : CallR X (.builtin "all") (rAllB K) := by subst h; exact call_allB hc
def rListOf (K : PySem.W.Frag) : List V → Hp → VK → Prop := fun xs H Q => ∃ p ys, xs = [.ref p] ∧ (SqL K H p ys ∨ SqT K H p ys) ∧ ∀ l, H l = none → Q (.ref l) (upd H l (.lst ys))
theorem call_list_ofK (K : PySem.W.Frag) (h : X.K = K) : CallR X (.type "list") (rListOf K) := by subst h; exact call_list_of
theorem sl_listK (K : PySem.W.Frag) (h : X.K = K) : SlR X (rSlL K) := by subst h; exact sl_list
theorem pi_listK (K : PySem.W.Frag) (h : X.K = K) {l : Expr} {tl : TE} (hl : PE X l tl) : PI X tg l (iList K tl) := by subst h; exact pi_list hl
theorem pi_tupK (K : PySem.W.Frag) (h : X.K = K) {l : Expr} {tl : TE} (hl : PE X l tl) : PI X tg l (iTup K tl) := by subst h; exact pi_tup hl
end
section
variable {X : Cx} {o e : Expr} {es : List Expr} {to : TE} {t : TA} {name : Str} {apos cpos : Pos} {T id : String} {r : V → List V → Hp → VK → Prop}
theorem pe_bm0K (K : PySem.W.Frag) (hK : X.K = K) (pa : PlainAttrs T) (slot : Slot T name id) (hty : typeOf (.builtin id) = pure (.type "method_descriptor")) (hm : MtR X id r) (ho : PE X o to)
    (hbase : attributeBase o name X.env (eval o X.env) = eval o X.env := by rfl) (hline : (apos.endLine == cpos.line) = true := by rfl) : PE X (.Call (.Attribute o name apos) [] [] cpos) (tBM0 K T r to) := by
  subst hK
  exact pe_bm0 pa slot hty hm ho hbase hline
theorem pe_bmK (K : PySem.W.Frag) (hK : X.K = K) (pa : PlainAttrs T) (slot : Slot T name id) (hty : typeOf (.builtin id) = pure (.type "method_descriptor")) (hm : MtR X id r) (ho : PE X o to) (ha : PA X (e :: es) t)
    (hbase : attributeBase o name X.env (eval o X.env) = eval o X.env := by rfl)
    (hfew : ((backTo cpos (starEach (e :: es) X.env)).all (fun x => !x.1) && (backToKw cpos (keywordEach [] X.env)).all (fun x => x.1.isSome)
      && decide ((e :: es).length + ([] : List Keyword).length + (if ([] : List Keyword).isEmpty then 0 else 1) < 30)) = true := by rfl)
    (hline : (apos.endLine == cpos.line) = true := by rfl) (hs : starEach (e :: es) X.env = (false, eval e X.env) :: starEach es X.env := by rfl) (hplain : (backTo cpos (starEach es X.env)).any (·.1) = false := by rfl) :
    PE X (.Call (.Attribute o name apos) (e :: es) [] cpos) (tBM K T r to t) := by
  subst hK
  exact pe_bm pa slot hty hm ho ha hbase hfew hline hs hplain
end
end L2
namespace L2
open PySem PySem.Spec PyProof.Rows
/-! ### nested data -/
mutual
inductive RdD (K : PySem.W.Frag) (H : Hp) : V → PyData → Prop
  | non : RdD K H .non .none
  | bl (b : Bool) : RdD K H (.bl b) (.bool b)
  | int (i : Int) : RdD K H (.int i) (.int i)
  | str (x : Str) : RdD K H (.str x) (.str x)
  | lst {a : Addr} {xs : List V} {ds : List PyData} (h : SqL K H a xs) (r : RdDs K H xs ds) : RdD K H (.ref a) (.list ds)
  | tup {a : Addr} {xs : List V} {ds : List PyData} (h : SqT K H a xs) (r : RdDs K H xs ds) : RdD K H (.ref a) (.tuple ds)
inductive RdDs (K : PySem.W.Frag) (H : Hp) : List V → List PyData → Prop
  | nil : RdDs K H [] []
  | cons {x : V} {xs : List V} {d : PyData} {ds : List PyData} (h : RdD K H x d) (r : RdDs K H xs ds) : RdDs K H (x :: xs) (d :: ds)
end
section
variable {X : Cx} {pins : List (Addr × Obj)} {σ : St} {H : Hp} {s : Shared}
mutual
theorem RdD.reads (I : Inv X pins σ H s) : ∀ {x : V} {d : PyData} {u : Value}, RdD X.K H x d → RelV x u → ∃ as, Reads s.heap u d as
  | _, _, u, .non, r => by cases (show u = Value.none from r); exact ⟨_, .none⟩
  | _, _, u, .bl b, r => by cases (show u = Value.bool b from r); exact ⟨_, .bool b⟩
  | _, _, u, .int i, r => by obtain ⟨t, rfl⟩ := r; exact ⟨_, .int i t⟩
  | _, _, u, .str x, r => by obtain ⟨t, rfl⟩ := r; exact ⟨_, .str x t⟩
  | _, _, u, .lst (a := a) h q, r => by
    cases (show u = Value.ref a from r)
    obtain ⟨its, rv, pl, _⟩ := I.list h
    obtain ⟨as, ra⟩ := RdDs.reads I q rv
    obtain ⟨o, ho, hc, n, hd⟩ := pl.isList
    exact ⟨_, .list ho hc hd (by simpa using ra)⟩
  | _, _, u, .tup (a := a) h q, r => by
    cases (show u = Value.ref a from r)
    obtain ⟨its, rv, pl, _⟩ := I.tuple h
    obtain ⟨as, ra⟩ := RdDs.reads I q rv
    obtain ⟨o, ho, hc, n, hd⟩ := pl
    exact ⟨_, .tuple ho hc hd (by simpa using ra)⟩
theorem RdDs.reads (I : Inv X pins σ H s) : ∀ {xs : List V} {ds : List PyData} {us : List Value}, RdDs X.K H xs ds → Vals xs us → ∃ as, ReadsAll s.heap us ds as
  | _, _, us, .nil, r => by cases r; exact ⟨_, .nil⟩
  | _, _, us, .cons h q, r => by
    cases r with
    | cons r1 r2 =>
      obtain ⟨as, ra⟩ := RdD.reads I h r1
      obtain ⟨bs, rb⟩ := RdDs.reads I q r2
      exact ⟨_, .cons ra rb⟩
end
mutual
theorem RdD.noDict {K : PySem.W.Frag} : ∀ {x : V} {d : PyData}, RdD K H x d → d.hasDict = false
  | _, _, .non => rfl
  | _, _, .bl b => rfl
  | _, _, .int i => rfl
  | _, _, .str x => rfl
  | _, _, .lst h q => by show PyData.hasDictAll _ = false; exact RdDs.noDict q
  | _, _, .tup h q => by show PyData.hasDictAll _ = false; exact RdDs.noDict q
theorem RdDs.noDict {K : PySem.W.Frag} : ∀ {xs : List V} {ds : List PyData}, RdDs K H xs ds → PyData.hasDictAll ds = false
  | _, _, .nil => rfl
  | _, _, .cons h q => by
    show (PyData.hasDict _ || PyData.hasDictAll _) = false
    rw [RdD.noDict h, RdDs.noDict q]; rfl
end
end
section
variable {X : Cx}
def rNeD (K : PySem.W.Frag) : R2 := fun x y H Q => ∃ dx dy, RdD K H x dx ∧ RdD K H y dy ∧ (dx.canLay0 = true ∧ dy.canLay0 = true) ∧ dx.depth ≤ 60 ∧ Q (.bl (!PyData.eqv dx dy)) H
theorem op_neD {k : Nat} (K : PySem.W.Frag) (h : X.K = K) (hr : Room k X.A) : OpR X (compareOp .NotEq) (rNeD K) := by
  subst h
  intro pins s σ H x y v u Q I rx ry h
  obtain ⟨dx, dy, h1, h2, ⟨h3, h4⟩, h5, q⟩ := h
  obtain ⟨as, ra⟩ := h1.reads I rx
  obtain ⟨bs, rb⟩ := h2.reads I ry
  have hu := hr.units
  exact SeqAt.compareNe_reads ra rb h3 h4 (by omega) ⟨.bl _, H, I, rfl, q⟩
/-- the truth of a list -/
def tTruL (K : PySem.W.Frag) (ta : TE) : TT := fun σ H Q => ta σ H fun x H' => ∃ p xs, x = .ref p ∧ SqL K H' p xs ∧ Q (!xs.isEmpty) H'
theorem pt_truL {a : Expr} {ta : TE} (K : PySem.W.Frag) (h : X.K = K) (ha : PE X a ta) (he : ∀ whole, isTrue a X.env whole = (do let v ← whole; standAt a.pos; holding [v] (truthy v)) := by intro _; rfl) : PT X a (tTruL K ta) := by
  subst h
  intro pins s σ H Q I hw
  refine isTrue_plain (thn (ha pins s σ H _ I hw) fun v s1 ⟨x, H1, I1, r1, q1⟩ => ?_) (he _)
  obtain ⟨p, xs, rfl, hq, q⟩ := q1
  exact tru_ok pins s1 σ H1 _ v Q I1 r1 ⟨_, .inl ⟨xs, hq, rfl⟩, q⟩
/-- a, b = .. -/
theorem pg_tupK (K : PySem.W.Frag) (h : X.K = K) {es : List Expr} {k : Nat} {t : TGs} {n : Nat} {pos : Pos} (hc : X.calm = true) (hs : PGs X es t)
    (hn : (assignEach es X.env).length = n := by rfl) (hst : (assignEach es X.env).findIdx? (·.1) = none := by rfl) : PG X (.Tuple es k pos) (gTup K n t) := by
  subst h
  exact pg_tup hc hs hn hst
/-- text += text -/
theorem ip_addS : PIp X .Add (fun x y H Q => rAddS x y H Q) := by
  intro pins s σ H x y v u Q I rx ry h
  exact iop_addS pins s σ H x y v u Q I rx ry h
end
end L2
namespace L2
open PySem PySem.Spec PyProof.Rows
/-! ### the least of some texts -/
def lesser (a b : List Nat) : List Nat := if b < a then b else a
def leastOf : List Nat → List (List Nat) → List Nat
  | a, [] => a
  | a, b :: r => leastOf (lesser a b) r
section
variable {X : Cx}
end
end L2
namespace L2
open PySem PySem.Spec PyProof.Rows
section
variable {X : Cx}
/-! ### small data, and their texts -/
/-- of depth at most k, of weight at most n -/
structure SmD (k n : Nat) (d : PyData) : Prop where
  lv : d.leavesShort 13 = true
  sh : d.showable = true
  ly : d.canLay0 = true
  dp : d.depth ≤ k
  wt : d.weight ≤ n
structure SmDs (k n : Nat) (ds : List PyData) : Prop where
  lv : PyData.leavesShortAll 13 ds = true
  sh : PyData.showableAll ds = true
  ly : PyData.canLayAll0 ds = true
  dp : PyData.depthAll ds ≤ k
  wt : PyData.weightAll ds ≤ n
theorem SmD.str {k n : Nat} {l : List Nat} (h : ∀ c ∈ l, c < 128) (hn : l.length ≤ n) : SmD k n (.str (S l)) := by
  refine ⟨?_, rfl, ?_, Nat.zero_le _, by show (S l).cps.size ≤ n; rw [S_size]; exact hn⟩
  · show ((S l).cps.toList.all fun c => decide (c < 16 ^ 8)) = true
    rw [S_list, List.all_eq_true]
    intro c hc
    have := h c hc
    exact decide_eq_true (by omega)
  · show PyData.strOk (S l) = true
    unfold PyData.strOk
    rw [Array.all_eq_true_iff_forall_mem]
    intro c hc
    have : c ∈ l := by simpa [S] using hc
    have := h c this
    simp; omega
theorem SmD.bl {k n : Nat} (b : Bool) : SmD k n (.bool b) := ⟨rfl, rfl, rfl, Nat.zero_le _, Nat.zero_le _⟩
theorem SmD.non {k n : Nat} : SmD k n .none := ⟨rfl, rfl, rfl, Nat.zero_le _, Nat.zero_le _⟩
theorem SmD.int {k n : Nat} {i : Int} (h : i.natAbs < 10 ^ 12) (hn : 40 ≤ n) : SmD k n (.int i) := by
  have hl : i.natAbs.log2 < 40 := by
    by_cases z : i.natAbs = 0
    · rw [z]; decide
    · rw [Nat.log2_lt z]
      exact Nat.lt_trans h (by decide)
  refine ⟨?_, ?_, rfl, Nat.zero_le _, ?_⟩
  · show decide ((PyData.shown (.int i)).length ≤ 13) = true
    exact decide_eq_true (PyData.shown_int_le h)
  · show decide (i.natAbs.log2 < 1920) = true
    exact decide_eq_true (by omega)
  · show (if i == 0 then 0 else i.natAbs.log2 + 1) ≤ n
    split <;> omega
theorem SmDs.nil {k n : Nat} : SmDs k n [] := ⟨rfl, rfl, rfl, Nat.zero_le _, Nat.zero_le _⟩
theorem SmDs.cons {k a b n : Nat} {x : PyData} {xs : List PyData} (h : SmD k a x) (t : SmDs k b xs) (hn : a + 1 + b ≤ n) : SmDs k n (x :: xs) := by
  refine ⟨?_, ?_, ?_, ?_, ?_⟩
  · show (PyData.leavesShort 13 x && PyData.leavesShortAll 13 xs) = true; rw [h.lv, t.lv]; rfl
  · show (PyData.showable x && PyData.showableAll xs) = true; rw [h.sh, t.sh]; rfl
  · show (PyData.canLay0 x && PyData.canLayAll0 xs) = true; rw [h.ly, t.ly]; rfl
  · show max (PyData.depth x) (PyData.depthAll xs) ≤ k; exact Nat.max_le.mpr ⟨h.dp, t.dp⟩
  · show PyData.weight x + 1 + PyData.weightAll xs ≤ n
    have := h.wt; have := t.wt; omega
theorem SmDs.all {k a : Nat} : ∀ {xs : List PyData} {n : Nat}, (∀ x ∈ xs, SmD k a x) → (a + 1) * xs.length ≤ n → SmDs k n xs
  | [], _, _, _ => .nil
  | x :: xs, n, h, hn => .cons (b := (a + 1) * xs.length) (h x List.mem_cons_self) (SmDs.all (fun y hy => h y (List.mem_cons_of_mem _ hy)) (Nat.le_refl _)) (by rw [List.length_cons, Nat.mul_succ] at hn; omega)
theorem SmD.lst {k n : Nat} {ds : List PyData} (h : SmDs k n ds) : SmD (k + 1) n (.list ds) := ⟨h.lv, h.sh, h.ly, Nat.succ_le_succ h.dp, h.wt⟩
theorem SmD.tup {k n : Nat} {ds : List PyData} (h : SmDs k n ds) : SmD (k + 1) n (.tuple ds) := ⟨h.lv, h.sh, h.ly, Nat.succ_le_succ h.dp, h.wt⟩
end
end L2
namespace L2
open PySem PySem.Spec PyProof.Rows
/-! ### a text so many times -/
end L2
namespace L2
open PySem PySem.Spec PyProof.Rows
section
variable {X : Cx} {pins : List (Addr × Obj)} {σ : St} {H : Hp} {s : Shared} {h' : Heap}
/-- some records of ours have turned, and a new object is laid -/
theorem Inv.turnLaid {t' : Nat} {ch : List Addr} {T : Addr} {ob : HO} (I : Inv X pins σ H s) (k : ∀ b o, b ∉ ch → s.heap.get? b = some o → h'.get? b = some o) (hf : ∀ b ∈ ch, FpOk X pins H b)
    (hT : s.heap.objs.size ≤ T) (new : ObjOk X.prog X.w (upd H T ob) h' T ob) : Inv X pins σ (upd H T ob) { s with heap := h', toks := t' } := by
  have hn := I.hok.fresh hT
  have nit : ∀ b u, H b = some u → b ∉ ch := fun b u e z => by rw [(hf b z).1] at e; cases e
  have neT : ∀ b o, s.heap.get? b = some o → b ≠ T := fun b o e z => absurd (Nat.lt_of_lt_of_le (Heap.lt_size e) hT) (by rw [z]; exact Nat.lt_irrefl _)
  refine I.step (g' := s.gens) (d' := s.drawn) (ch := ch) (fun b hb => ?_) (fun b o _ _ hc e _ => k b o hc e) (fun b o _ _ hc e _ => ⟨o.slots, k b o hc e⟩) (fun b o _ e n => by rw [upd_ne (neT b o e)]; exact n)
    (fun b o hc e => ⟨o, k b o hc e⟩) (fun b xs e => by rw [upd_ne (ne_of_none e hn)]; exact e) (fun b o u e => by rw [upd_ne (ne_of_none e hn)]; exact e) (fun b ps e => ⟨#[], by rw [upd_ne (ne_of_none e hn), e]; simp⟩) (fun m hm => ?_) (fun b u e => ?_) I.bare
  · obtain ⟨_, h2, _, h4, h5, h6⟩ := hf b hb
    exact ⟨h4, h2, h5, h6⟩
  · obtain ⟨o, es, ep, ho, r⟩ := hm
    exact ⟨o, es, ep, k _ o (fun z => (hf _ z).2.1 rfl) ho, r⟩
  · by_cases hb : b = T
    · subst hb; rw [upd_same] at e; cases e; exact new
    · rw [upd_ne hb] at e
      refine (I.hok b u e).stay (fun c v hc q => k c v ?_ q) (fun c q => by rw [upd_ne (ne_of_none q hn)]; exact q) fun c xs q => by rw [upd_ne (ne_of_none q hn)]; exact q
      rcases hc with z | z
      · rw [z]; exact nit b u e
      · exact nit c _ z
theorem Inv.turnedL {t' : Nat} {ch : List Addr} (I : Inv X pins σ H s) (k : ∀ b o, b ∉ ch → s.heap.get? b = some o → h'.get? b = some o) (hf : ∀ b ∈ ch, FpOk X pins H b) : Inv X pins σ H { s with heap := h', toks := t' } := by
  have nit : ∀ b u, H b = some u → b ∉ ch := fun b u e z => by rw [(hf b z).1] at e; cases e
  refine I.step (g' := s.gens) (d' := s.drawn) (ch := ch) (fun b hb => ?_) (fun b o _ _ hc e _ => k b o hc e) (fun b o _ _ hc e _ => ⟨o.slots, k b o hc e⟩) (fun b o _ e n => n)
    (fun b o hc e => ⟨o, k b o hc e⟩) (fun b xs e => e) (fun b o u e => e) (fun b ps e => ⟨#[], by rw [e]; simp⟩) (fun m hm => ?_) (fun b u e => ?_) I.bare
  · obtain ⟨_, h2, _, h4, h5, h6⟩ := hf b hb
    exact ⟨h4, h2, h5, h6⟩
  · obtain ⟨o, es, ep, ho, r⟩ := hm
    exact ⟨o, es, ep, k _ o (fun z => (hf _ z).2.1 rfl) ho, r⟩
  · refine (I.hok b u e).stay (fun c v hc q => k c v ?_ q) (fun c q => q) fun c xs q => q
    rcases hc with z | z
    · rw [z]; exact nit b u e
    · exact nit c _ z
end
/-! ### enumerate of a text -/
/-! ### sorted -/
section
variable {X : Cx}
theorem strs_of {ls : List (List Nat)} : ∀ {its : List Value}, Vals (ls.map fun l => V.str (S l)) its → StrsAre its (ls.map S) := by
  induction ls with
  | nil => intro its r; cases r; exact .nil
  | cons l ls ih =>
    intro its r
    cases r with
    | cons r1 r2 =>
      obtain ⟨t, rfl⟩ := r1
      exact .cons _ t (ih r2)
theorem of_strs : ∀ {its : List Value} {ss : List Str}, StrsAre its ss → Vals ((ss.map fun x => x.cps.toList).map fun l => V.str (S l)) its
  | _, _, .nil => .nil
  | _, _, .cons x t h => .cons ⟨t, by rw [← S_of]⟩ (of_strs h)
theorem rising_pw : ∀ (p : Str) (r : List Str), risingS p r = true → (p :: r).Pairwise fun a b => ¬ b.cps.toList < a.cps.toList
  | p, [], _ => List.pairwise_singleton _ _
  | p, x :: r, h => by
    have h' : (!ltCps x.cps.toList p.cps.toList && risingS x r) = true := h
    rw [Bool.and_eq_true, ltCps_eq] at h'
    have h1 : ¬ x.cps.toList < p.cps.toList := by simpa using h'.1
    have ih := rising_pw x r h'.2
    refine List.pairwise_cons.mpr ⟨fun y hy => ?_, ih⟩
    rcases List.mem_cons.mp hy with z | z
    · rw [z]; exact h1
    · exact List.le_trans (show p.cps.toList ≤ x.cps.toList from h1) (show x.cps.toList ≤ y.cps.toList from List.rel_of_pairwise_cons ih z)
theorem sorted_pw {ss : List Str} (h : sortedS ss = true) : (ss.map fun x => x.cps.toList).Pairwise fun a b => ¬ b < a := by
  rw [List.pairwise_map]
  cases ss with
  | nil => exact List.Pairwise.nil
  | cons x r => exact rising_pw x r h
def rSortL (K : PySem.W.Frag) : List V → Hp → VK → Prop := fun xs H Q => ∃ (p : Addr) (ls : List (List Nat)), xs = [.ref p] ∧ SqL K H p (ls.map fun l => V.str (S l)) ∧ ls.length < 64 ∧ ∀ (q : Addr) (ls' : List (List Nat)), H q = none → ls'.Perm ls → (ls'.Pairwise fun a b => ¬ b < a) → Q (.ref q) (upd H q (.lst (ls'.map fun l => V.str (S l))))
theorem call_sortedK (K : PySem.W.Frag) (h : X.K = K) : CallR X (.builtin "sorted") (rSortL K) := by
  subst h
  intro pins s σ H xs us Q I r h
  obtain ⟨p, ls, rfl, hq, hn, q⟩ := h
  obtain ⟨u, rfl, ru⟩ := vals1 r
  cases ru
  obtain ⟨its, rv, pl, hz⟩ := I.list hq
  have hlen : its.length = ls.length := by rw [← rv.length, List.length_map]
  refine sorted_strs (l := p) (vs := its) (ss := ls.map S) pl.isList (strs_of rv) (by omega) fun out ss' h1 h2 h3 => ?_
  obtain ⟨e, he⟩ := sortedAll_at s.heap its out
  have hperm : (ss'.map fun x => x.cps.toList).Perm ls := by
    have := h2.map fun x : Str => x.cps.toList
    rw [List.map_map] at this
    have e2 : ls.map ((fun x : Str => x.cps.toList) ∘ S) = ls := by
      have : ∀ l ∈ ls, ((fun x : Str => x.cps.toList) ∘ S) l = l := fun l _ => S_list l
      calc ls.map _ = ls.map id := List.map_congr_left this
        _ = ls := List.map_id ls
    rwa [e2] at this
  have hl2 := hperm.length_eq
  have h64 : (64 : Nat) < sizeLine := by decide
  have hz2 : ((ss'.map fun x => x.cps.toList).map fun l => V.str (S l)).length ≤ sizeLine := by rw [List.length_map, hl2]; omega
  refine ⟨.ref (s.heap.objs.size + 1), _, I.laid (t' := s.toks) (a := s.heap.objs.size + 1) (o := .lst ((ss'.map fun x => x.cps.toList).map fun l => V.str (S l))) (fun b o e => sortedAll_old e) (Nat.le_succ _) ⟨hz2, out.toList, e, of_strs h1, by simpa [seqObj] using he⟩, rfl, q _ _ (I.hok.fresh (Nat.le_succ _)) hperm (sorted_pw h3)⟩
end
end L2
namespace L2
open PySem PySem.Spec PyProof.Rows
section
variable {X : Cx}
theorem ones_of {ls : List (List Nat)} {l : List Nat} (h : ls.Perm (l.map fun c => [c])) : ∃ l' : List Nat, ls = l'.map (fun c => [c]) ∧ l'.Perm l := by
  refine ⟨ls.flatten, ?_, ?_⟩
  · have hs : ∀ x ∈ ls, ∃ c, x = [c] := fun x hx => by
      obtain ⟨c, _, e⟩ := List.mem_map.mp (h.mem_iff.mp hx)
      exact ⟨c, e.symm⟩
    clear h
    induction ls with
    | nil => rfl
    | cons x ls ih =>
      obtain ⟨c, rfl⟩ := hs x List.mem_cons_self
      rw [List.flatten_cons, List.map_append, ← ih fun y hy => hs y (List.mem_cons_of_mem _ hy)]
      rfl
  · have := h.flatten
    have e : (l.map fun c => [c]).flatten = l := by
      clear h this
      induction l with
      | nil => rfl
      | cons c l ih => rw [List.map_cons, List.flatten_cons, ih]; rfl
    rwa [e] at this
theorem ones_pw {l : List Nat} (h : (l.map fun c => [c]).Pairwise fun a b => ¬ b < a) : l.Pairwise fun a b => a ≤ b := by
  rw [List.pairwise_map] at h
  refine h.imp fun {a b} z => ?_
  by_cases y : a ≤ b
  · exact y
  · exact absurd (List.cons_lt_cons_iff.mpr (.inl (by omega))) z
end
end L2
namespace L2
open PySem PySem.Spec PyProof.Rows
section
variable {X : Cx}
end
end L2
namespace L2
open PySem PySem.Spec PyProof.Rows
section
variable {prog : Program} {w : World} {A : Around} {E : Value → Shared → Prop} {s : Shared}
/-! ### enumerate of a tuple, of a list -/
/-- a tuple's iterator, asked by nextOf: one more -/
theorem nextT_item {it tp : Addr} {j : Nat} {xs : Array Value} {y : Value} {Q : Value → Shared → Prop} (hi : s.heap.IsTupleIter it tp j) (ht : s.heap.IsTuple tp xs) (hy : xs[j]? = some y)
    (q : ∀ h2, h2.IsTupleIter it tp (j + 1) → Heap.SameBut it s.heap h2 → Q y { s with heap := h2 }) : wpAny (model prog w) A (Builtin.SmallTypes.nextOf (.ref it)) Q E s := by
  obtain ⟨oi, eo, ec, ed⟩ := id hi
  obtain ⟨ot, et, _, nt, dt⟩ := ht
  unfold Builtin.SmallTypes.nextOf
  refine wpAny_bind (wpAny_callSpecial?_slot (name := Str.ofString "__next__") hi.typeIs F.slot_tuple_iterator_next (wpAny_call_entry F.slot_tuple_iterator_next hi.typeIs F.entry_tuple_iterator_next ?_ (F.args_tuple_iterator_next_1 _)))
  refine wpAny_bind (m := field (.ref it) 0) (wpAny_field eo ed (x := .ref tp) rfl ?_)
  show wpAny (model prog w) _ (if (Value.ref tp == Value.none) = true then _ else _) _ E s
  rw [if_neg (show ¬ (Value.ref tp == Value.none) = true from Bool.false_ne_true)]
  refine wpAny_bind (m := field (.ref it) 1) (wpAny_field eo ed (x := .int j 0) rfl ?_)
  refine wpAny_bind (m := seqItems? (.ref tp)) (wpAny_seqItems et dt ?_)
  simp only [Int.toNat_natCast, hy]
  refine wpAny_bind (wpAny_setField eo ed (by simp) (wpAny_pure ⟨y, rfl, wpAny_pure (q _ ⟨_, Heap.get?_update_self _ eo (Obj.isFreed_of_fields (Obj.data_mapFields ed _)), (Obj.cls_mapFields ..).trans ec, by rw [Obj.data_mapFields ed]; simp [rawInt]⟩ (Heap.SameBut.update ..))⟩))
theorem nextT_end {it tp : Addr} {j : Nat} {xs : Array Value} {Q : Value → Shared → Prop} (hh : A.handled = none) (hi : s.heap.IsTupleIter it tp j) (ht : s.heap.IsTuple tp xs) (hy : xs[j]? = none)
    (q : ∀ h2 e, Heap.ExtBut it s.heap h2 → (∃ o, h2.get? e = some o ∧ o.cls = .type "StopIteration") → E (.ref e) { s with heap := h2 }) : wpAny (model prog w) A (Builtin.SmallTypes.nextOf (.ref it)) Q E s := by
  obtain ⟨oi, eo, ec, ed⟩ := id hi
  obtain ⟨ot, et, _, nt, dt⟩ := ht
  unfold Builtin.SmallTypes.nextOf
  refine wpAny_bind (wpAny_callSpecial?_slot (name := Str.ofString "__next__") hi.typeIs F.slot_tuple_iterator_next (wpAny_call_entry F.slot_tuple_iterator_next hi.typeIs F.entry_tuple_iterator_next ?_ (F.args_tuple_iterator_next_1 _)))
  refine wpAny_bind (m := field (.ref it) 0) (wpAny_field eo ed (x := .ref tp) rfl ?_)
  show wpAny (model prog w) _ (if (Value.ref tp == Value.none) = true then _ else _) _ E s
  rw [if_neg (show ¬ (Value.ref tp == Value.none) = true from Bool.false_ne_true)]
  refine wpAny_bind (m := field (.ref it) 1) (wpAny_field eo ed (x := .int j 0) rfl ?_)
  refine wpAny_bind (m := seqItems? (.ref tp)) (wpAny_seqItems et dt ?_)
  simp only [Int.toNat_natCast, hy]
  refine wpAny_bind (wpAny_rule (wpAny_bind (wpAny_setField eo ed (by simp) ?_)))
  refine wpAny_bind (m := newExc (.type "StopIteration") []) ?_
  simp only [newExc, newTuple]
  refine wpAny_bind (wpAny_newObj_type (wpAny_bind (m := firstArgMember _ _) (wpAny_of_eq (a := Value.none) (by first | rfl | (simp only [firstArgMember]; rfl)) (wpAny_newObj_type ?_ (by size_fits)))) (by size_fits))
  simp only [raiseNew]
  refine wpAny_bind (wpAny_handled ?_); first | rw [show A.in1.handled = none from hh] | rw [hh]
  exact wpAny_bind (wpAny_pure (wpAny_throw (q _ _ (((Heap.SameBut.update ..).extBut.push _).push _) ⟨_, Heap.get?_push_size _ rfl, rfl⟩)))
theorem draws_tuple (hh : A.handled = none) (it tp : Addr) (ne : tp ≠ it) (xs : Array Value) :
    Draws prog w A it [it, tp] xs.size (fun i v => xs[i]? = some v) (fun i h => h.IsTupleIter it tp i ∧ h.IsTuple tp xs) where
  live := fun _ _ z => let ⟨o, e, _⟩ := z.1; ⟨o, e⟩
  frame := fun _ _ _ z k => by
    obtain ⟨⟨o, e, r⟩, o2, e2, r2⟩ := z
    exact ⟨⟨o, k it (by simp) o e, r⟩, o2, k tp (by simp) o2 e2, r2⟩
  item := fun i s Q E hi z q => nextT_item z.1 z.2 (y := xs[i]) (by simp [hi]) fun h2 z2 sb => q _ h2 s.toks (by simp [hi]) ⟨z2, z.2.extBut sb.extBut ne⟩ sb
  done := fun s Q E z q => nextT_end hh z.1 z.2 (by simp) q
end
def ItEL (K : PySem.W.Frag) (a : Addr) : It := ⟨fun i H => ∃ xs x, SqL K H a xs ∧ xs[i]? = some x, fun i H x H' => ∃ T y, (∀ xs, SqL K H a xs → xs[i]? = some y) ∧ x = .ref T ∧ H T = none ∧ H' = upd H T (.tup [.int i, y]), fun i H => ∃ xs, SqL K H a xs ∧ xs.length = i⟩
theorem turn_enumL {P : Program} {w : World} {K : PySem.W.Frag} {elts : List Expr} {k : Nat} {pos : Pos} (e it a : Addr) (hei : e ≠ it) (hae : a ≠ e) (hai : a ≠ it) :
    Turn P w K (.Tuple elts k pos) (ItEL K a) [e, it] e (fun i h => (∃ old, IsEnum h e it i old) ∧ h.IsListIter it a i) where
  mem := by simp
  obj := fun i h st b hb => by
    obtain ⟨⟨old, he⟩, o, ho, hc, hd⟩ := st
    rcases List.mem_cons.mp hb with z | z
    · rw [z]; exact ⟨_, he, fun v z => by cases z⟩
    · rw [List.mem_singleton.mp z]; exact ⟨o, ho, fun v z => by rw [hd] at z; cases z⟩
  keep := fun i h h' st kp => by
    obtain ⟨⟨old, he⟩, o, ho, r⟩ := st
    exact ⟨⟨old, kp e (by simp) _ he⟩, o, kp it (by simp) o ho, r⟩
  item := by
    intro X hP hw hK hc i pins s σ H E I hf st hg
    subst hP hw hK
    obtain ⟨st1, st2⟩ := st
    obtain ⟨xs, x, hq, hx⟩ := hg
    obtain ⟨its, rv, p, hz⟩ := I.list hq
    obtain ⟨u0, hu, ru⟩ := rv.get hx
    have D := Draws.list (prog := X.prog) (w := X.w) (A := X.A.in1) (I.ok.hd hc) it a hai its.toArray
    have W := WalksT.enumerateD D e hei (by simp; exact ⟨hei, Ne.symm hae⟩) (by simp)
    have hil : i < its.toArray.size := by rw [List.size_toArray]; exact (List.getElem?_eq_some_iff.mp hu).1
    refine W.item i s _ _ hil ⟨st1, st2, p.isList⟩ fun T vals h' tk hPt hT hTup hMid hk => ⟨_, rfl, ?_⟩
    refine W.go elts k pos i T { s with heap := h', toks := tk } _ _ hMid fun h2 hst2 hk2 => ?_
    obtain ⟨tt, x2, hx2, rfl⟩ := hPt
    have ex : x2 = u0 := by
      rw [List.getElem?_toArray] at hx2
      exact Option.some.inj (hx2.symm.trans hu)
    subst ex
    have hTw : T ∉ [e, it] := W.apart i T h' hMid
    have hTup2 : h2.IsTuple T #[.int i tt, x2] := by
      obtain ⟨o, ho, r⟩ := hTup
      exact ⟨o, hk2 T o hTw ho, r⟩
    refine ⟨.ref T, upd H T (.tup [.int i, x]), ?_, rfl, ⟨T, x, fun ys hy => by rw [I.list_inj hy hq]; exact hx, rfl, I.hok.fresh hT, rfl⟩, ⟨hst2.1, hst2.2.1⟩, fun b hb => ?_⟩
    · refine I.turnLaid (t' := tk) (h' := h2) (fun b o hb y => hk2 b o hb (hk b o hb y)) hf hT ?_
      exact ⟨by show 2 ≤ sizeLine; decide, [.int i tt, x2], .cons ⟨tt, rfl⟩ (.cons ru .nil), hTup2⟩
    · rw [upd_ne (fun z : b = T => hTw (z ▸ hb))]; exact (hf b hb).1
  done := by
    intro X hP hw hK hc i pins s σ H E I hf st hg
    subst hP hw hK
    obtain ⟨st1, st2⟩ := st
    obtain ⟨xs, hq, hx⟩ := hg
    obtain ⟨its, rv, p, hz⟩ := I.list hq
    have hl := rv.length
    have D := Draws.list (prog := X.prog) (w := X.w) (A := X.A.in1) (I.ok.hd hc) it a hai its.toArray
    have W := WalksT.enumerateD D e hei (by simp; exact ⟨hei, Ne.symm hae⟩) (by simp)
    refine W.done s _ _ ?_ fun h' tk hk => ⟨rfl, I.turnedL (t' := tk) hk hf⟩
    have e1 : its.toArray.size = i := by rw [List.size_toArray]; omega
    rw [e1]
    exact ⟨st1, st2, p.isList⟩
  self := fun _ _ s _ _ st h => by
    obtain ⟨⟨old, he⟩, _⟩ := st
    exact wpAny_pyIter_enum he h

def iEnumL (K : PySem.W.Frag) (ta : TA) : TI := fun σ H R => ta σ H fun vs H1 => ∃ a, vs = [.ref a] ∧ (∃ xs, SqL K H1 a xs) ∧ R (ItEL K a) H1
theorem pi_enumL {X : Cx} (K : PySem.W.Frag) (hK : X.K = K) {elts : List Expr} {k : Nat} {pos' : Pos} {a : Expr} {ta : TA} {p pos : Pos} (hg : Gl X "enumerate") (hm : X.mg "enumerate" = none) (ha : PA X [a] ta) (hs : starEach [a] X.env = [(false, eval a X.env)] := by rfl) : PI X (.Tuple elts k pos') (.Call (.Name "enumerate" p) [a] [] pos) (iEnumL K ta) := by
  subst hK
  intro pins s σ H R I h
  refine Call_ (ld_blt I hg hm boot_enumerate (PyProof.Rows.callWith_type1 (thn (ha pos pins s σ H _ I h) fun us s1 ⟨vs, H1, I1, r1, q1⟩ => ?_) hs rfl))
  obtain ⟨b, rfl, ⟨xs, hq⟩, q⟩ := q1
  obtain ⟨u, rfl, ru⟩ := vals1 r1
  cases ru
  obtain ⟨its, rv, pl, hz⟩ := I1.list hq
  obtain ⟨ob, eb, _⟩ := id pl.isList
  have hlt : b < s1.heap.objs.size := Heap.lt_size eb
  refine call_enumerate_list pl.isList fun h' he hit hsz hk => wpAny_pyIter_enum he ?_
  refine ⟨s1.heap.objs.size + 1, [s1.heap.objs.size + 1, s1.heap.objs.size], _, _, H1, rfl, I1.kept (t' := s1.toks) hk, turn_enumL _ _ b (Nat.succ_ne_self _) (Nat.ne_of_lt (Nat.lt_succ_of_lt hlt)) (Nat.ne_of_lt hlt), ⟨⟨_, he⟩, hit⟩, fun c hb => ?_, q⟩
  have hb2 : s1.heap.objs.size ≤ c := by
    rcases List.mem_cons.mp hb with z | z
    · rw [z]; exact Nat.le_succ _
    · rw [List.mem_singleton.mp z]; exact Nat.le_refl _
  exact I1.fpOk hb2 (I1.hok.fresh hb2)
theorem for_enumL {K : PySem.W.Frag} {a : Addr} {xs : List V} {g : TG} {tb : TS} {D : Ends} {σ : St} {H : Hp} (Pv : Nat → St → Hp → Prop) (h0 : Pv 0 σ H) (hl : ∀ i σ H, i ≤ xs.length → Pv i σ H → SqL K H a xs)
    (hs : ∀ i x σ H T, xs[i]? = some x → Pv i σ H → H T = none → g (.ref T) σ (upd H T (.tup [.int i, x])) fun σ2 H2 => tb { D with nx := Pv (i + 1), ct := Pv (i + 1), bk := D.nx } σ2 H2) (hd : ∀ σ H, Pv xs.length σ H → D.nx σ H) :
    ∃ W : Nat → Nat → St → Hp → Prop, (∃ m, W 0 m σ H) ∧ ∀ i m σ H, W i m σ H →
      ((ItEL K a).stop i H ∧ D.nx σ H) ∨ ((ItEL K a).go i H ∧ ∃ N : St → Hp → Prop, (∀ σ' H', N σ' H' → ∃ m', m' < m ∧ W (i + 1) m' σ' H') ∧ ∀ x H', (ItEL K a).yld i H x H' → g x σ H' fun σ2 H2 => tb { D with nx := N, ct := N, bk := D.nx } σ2 H2) := by
  refine ⟨fun i m σ H => m = xs.length - i ∧ i ≤ xs.length ∧ Pv i σ H, ⟨xs.length, by simp, Nat.zero_le _, h0⟩, ?_⟩
  rintro i m σ H ⟨rfl, hi, p⟩
  have hq := hl i σ H hi p
  by_cases hlt : i < xs.length
  · refine .inr ⟨⟨xs, xs[i], hq, by simp [hlt]⟩, Pv (i + 1), fun σ' H' p' => ⟨xs.length - (i + 1), by omega, rfl, hlt, p'⟩, fun x H' y => ?_⟩
    obtain ⟨T, z, hz, rfl, hn, rfl⟩ := y
    exact hs i z σ _ T (hz xs hq) p hn
  · have e : i = xs.length := by omega
    subst e
    exact .inl ⟨⟨xs, hq, rfl⟩, hd σ H p⟩
/-! ### list(text or sequence); index of a list of texts; isinstance(list, list) -/
section
variable {X : Cx}
end
end L2
namespace L2
open PySem PySem.Spec PyProof.Rows
section
variable {X : Cx}
def rTupOf (K : PySem.W.Frag) : List V → Hp → VK → Prop := fun xs H Q => ∃ p ys, xs = [.ref p] ∧ ((SqL K H p ys ∧ ∀ l, H l = none → Q (.ref l) (upd H l (.tup ys))) ∨ (SqT K H p ys ∧ Q (.ref p) H))
theorem call_tuple_ofK (K : PySem.W.Frag) (h : X.K = K) : CallR X (.type "tuple") (rTupOf K) := by subst h; exact call_tuple_of
end
end L2
namespace L2
open PySem PySem.Spec PyProof.Rows
/-- a comprehension over a tuple -/
theorem comp_tup {K : PySem.W.Frag} {a : Addr} {xs : List V} {σc : St} {g : TG} {tc : TT} {te : TE} {Q : VK} {H1 : Hp} (Pv : Nat → List V → Hp → Prop) (hn : xs.length < sizeLine) (hl : ∀ i acc H, Pv i acc H → SqT K H a xs) (h0 : Pv 0 [] H1)
    (hs : ∀ (i : Nat) (x : V) (acc : List V) (H : Hp) (Nx : List V → Hp → Prop), i < xs.length → xs[i]? = some x → acc.length ≤ i → Pv i acc H → (∀ acc' H', acc'.length ≤ i + 1 → Pv (i + 1) acc' H' → Nx acc' H') →
      g x σc H fun σ2 H2 => Wk σc σ2 ∧ tc σ2 H2 fun b H3 => if b = true then te σ2 H3 fun v H4 => Nx (acc ++ [v]) H4 else Nx acc H3)
    (hd : ∀ acc H D, acc.length ≤ xs.length → Pv xs.length acc H → H D = none → Q (.ref D) (upd H D (.lst acc))) : CompW (Itt K a) σc g tc te Q H1 :=
  comp_by (xs := fun i x => xs[i]? = some x) Pv hn (fun i acc H h p => ⟨xs, xs[i], hl i acc H p, by simp [h]⟩) (fun acc H p => ⟨xs, hl _ acc H p, Nat.le_refl _⟩) (fun i acc H x H' h p y => ⟨y.1, y.2 xs (hl i acc H p)⟩) h0 hs hd
/-- tuples stay -/
def TSame (H H' : Hp) : Prop := ∀ c xs, H c = some (.tup xs) → H' c = some (.tup xs)
theorem TSame.refl (H : Hp) : TSame H H := fun _ _ h => h
theorem TSame.trans {H H1 H2 : Hp} (a : TSame H H1) (b : TSame H1 H2) : TSame H H2 := fun c xs h => b c xs (a c xs h)
theorem TSame.of {H H' : Hp} (s : Same H H') : TSame H H' := fun c xs h => s c _ h
theorem TSame.updN {H : Hp} {p : Addr} {o : HO} (h : H p = none) : TSame H (upd H p o) := fun c xs e => by
  rw [upd_ne (fun z => by rw [z, h] at e; cases e)]; exact e
end L2
namespace HT
open PySem PySem.Spec PyProof.Rows
section
variable {prog : Program} {w : World} {A : Around} {E : Value → Shared → Prop} {s : Shared}
end
end HT
namespace L2
open PySem PySem.Spec PyProof.Rows
section
variable {X : Cx} {e st : Expr} {te : TE} {ts : TO} {pos p2 : Pos}
end
end L2
namespace L2
open PySem PySem.Spec PyProof.Rows

/-! ### lists of pairs as tables -/
section
variable {κ : Type} [DecidableEq κ]
def valV (kvs : List (κ × V)) (k : κ) : Option V := (kvs.find? fun kv => decide (kv.1 = k)).map (·.2)
/-- in its place, or at the end -/
def putK (kvs : List (κ × V)) (k : κ) (v : V) : List (κ × V) :=
  if (kvs.any fun kv => decide (kv.1 = k)) = true then kvs.map (fun kv => if kv.1 = k then (kv.1, v) else kv) else kvs ++ [(k, v)]
def dropK (kvs : List (κ × V)) (k : κ) : List (κ × V) := kvs.filter fun kv => decide (kv.1 ≠ k)

theorem valV_pos {p : κ × V} {r : List (κ × V)} {k : κ} (e : p.1 = k) : valV (p :: r) k = some p.2 := by simp [valV, List.find?_cons, e]
theorem valV_neg {p : κ × V} {r : List (κ × V)} {k : κ} (e : ¬ p.1 = k) : valV (p :: r) k = valV r k := by simp [valV, List.find?_cons, e]
theorem valV_any (k : κ) : ∀ kvs : List (κ × V), (kvs.any fun kv => decide (kv.1 = k)) = (valV kvs k).isSome
  | [] => rfl
  | p :: r => by
    rw [List.any_cons]
    by_cases e : p.1 = k
    · simp only [valV_pos e, decide_eq_true e, Bool.true_or, Option.isSome_some]
    · rw [valV_neg e, decide_eq_false e, Bool.false_or]; exact valV_any k r
theorem valV_map (k j : κ) (y : V) : ∀ kvs : List (κ × V), valV (kvs.map fun kv => if kv.1 = k then (kv.1, y) else kv) j = (valV kvs j).map fun x => if j = k then y else x
  | [] => rfl
  | p :: r => by
    have ih := valV_map k j y r
    rw [List.map_cons]
    by_cases h : p.1 = k
    · rw [if_pos h]
      by_cases e : p.1 = j
      · rw [valV_pos (p := (p.1, y)) e, valV_pos e, Option.map_some, if_pos (e.symm.trans h)]
      · rw [valV_neg (p := (p.1, y)) e, valV_neg e, ih]
    · rw [if_neg h]
      by_cases e : p.1 = j
      · rw [valV_pos (p := p) e, valV_pos e, Option.map_some, if_neg (fun z => h (e.trans z))]
      · rw [valV_neg (p := p) e, valV_neg e, ih]
theorem valV_snoc (k j : κ) (y : V) : ∀ kvs : List (κ × V), valV kvs k = none → valV (kvs ++ [(k, y)]) j = if j = k then some y else valV kvs j
  | [], _ => by
    by_cases e : k = j
    · rw [if_pos e.symm]; exact valV_pos (p := (k, y)) e
    · rw [if_neg (fun z => e z.symm)]; exact valV_neg (p := (k, y)) e
  | p :: r, hn => by
    rw [List.cons_append]
    have hk : ¬ p.1 = k := fun z => by rw [valV_pos z] at hn; cases hn
    rw [valV_neg hk] at hn
    have ih := valV_snoc k j y r hn
    by_cases e : p.1 = j
    · rw [valV_pos e, valV_pos e, if_neg (fun z => hk (e.trans z))]
    · rw [valV_neg e, valV_neg e, ih]
theorem valV_put (kvs : List (κ × V)) (k j : κ) (y : V) : valV (putK kvs k y) j = if j = k then some y else valV kvs j := by
  unfold putK
  by_cases a : (kvs.any fun kv => decide (kv.1 = k)) = true
  · rw [if_pos a, valV_map]
    rw [valV_any] at a
    by_cases e : j = k
    · obtain ⟨x, hx⟩ := Option.isSome_iff_exists.mp a
      rw [if_pos e, e, hx, Option.map_some, if_pos rfl]
    · rw [if_neg e]
      cases valV kvs j with
      | none => rfl
      | some x => rw [Option.map_some, if_neg e]
  · rw [if_neg a]
    refine valV_snoc k j y kvs ?_
    rw [valV_any] at a
    cases q : valV kvs k with
    | none => rfl
    | some x => rw [q] at a; exact (a rfl).elim
theorem length_putK (kvs : List (κ × V)) (k : κ) (v : V) : (putK kvs k v).length ≤ kvs.length + 1 := by
  unfold putK
  split
  · rw [List.length_map]; omega
  · rw [List.length_append, List.length_cons, List.length_nil]; omega
theorem RelO.isSome_eq {o : Option V} {u : Option Value} (r : RelO o u) : o.isSome = u.isSome := by
  cases o with
  | none => cases u with
    | none => rfl
    | some _ => exact (show False from r).elim
  | some _ => cases u with
    | none => exact (show False from r).elim
    | some _ => rfl
theorem RelO.getD {o : Option V} {u : Option Value} {d : V} {d' : Value} (r : RelO o u) (rd : RelV d d') : RelV (o.getD d) (u.getD d') := by
  cases o with
  | none => cases u with
    | none => exact rd
    | some _ => exact (show False from r).elim
  | some _ => cases u with
    | none => exact (show False from r).elim
    | some _ => exact r

/-- raw tables of the same keys -/
theorem KV.val {kvs : List (κ × V)} {vs : List (κ × Value)} (r : KV kvs vs) (k : κ) : RelO (valV kvs k) (valueAt vs k) := by
  unfold KV at r
  induction r with
  | nil => exact True.intro
  | @cons p q ps qs h t ih =>
    obtain ⟨h1, h2⟩ := h
    by_cases e : p.1 = k
    · have e' : q.1 = k := h1.symm.trans e
      have b : valueAt (q :: qs) k = some q.2 := by simp [valueAt, List.find?_cons, e']
      rw [valV_pos e, b]; exact h2
    · have e' : ¬ q.1 = k := fun z => e (h1.trans z)
      have b : valueAt (q :: qs) k = valueAt qs k := by simp [valueAt, List.find?_cons, e']
      rw [valV_neg e, b]; exact ih
theorem KV.any {kvs : List (κ × V)} {vs : List (κ × Value)} (r : KV kvs vs) (k : κ) : (kvs.any fun kv => decide (kv.1 = k)) = vs.any fun kv => decide (kv.1 = k) := by
  unfold KV at r
  induction r with
  | nil => rfl
  | cons h t ih => rw [List.any_cons, List.any_cons, ih, h.1]
theorem KV.repl {kvs : List (κ × V)} {vs : List (κ × Value)} (r : KV kvs vs) (k : κ) {y : V} {u : Value} (ry : RelV y u) :
    KV (kvs.map fun kv => if kv.1 = k then (kv.1, y) else kv) (vs.map fun kv => if kv.1 = k then (kv.1, u) else kv) := by
  unfold KV at r ⊢
  induction r with
  | nil => exact .nil
  | @cons p q ps qs h t ih =>
    rw [List.map_cons, List.map_cons]
    refine .cons ?_ ih
    obtain ⟨h1, h2⟩ := h
    by_cases e : p.1 = k
    · rw [if_pos e, if_pos (h1.symm.trans e)]; exact ⟨h1, ry⟩
    · rw [if_neg e, if_neg (fun z => e (h1.trans z))]; exact ⟨h1, h2⟩
theorem KV.put {kvs : List (κ × V)} {vs : List (κ × Value)} (r : KV kvs vs) (k : κ) {y : V} {u : Value} (ry : RelV y u) : KV (putK kvs k y) (stored vs k u) := by
  unfold putK stored
  rw [r.any k]
  by_cases e : (vs.any fun kv => decide (kv.1 = k)) = true
  · rw [if_pos e, if_pos e]; exact r.repl k ry
  · rw [if_neg e, if_neg e]; exact Paired.snoc r ⟨rfl, ry⟩
theorem KV.drop {kvs : List (κ × V)} {vs : List (κ × Value)} (r : KV kvs vs) (k : κ) : KV (dropK kvs k) (without vs k) := by
  unfold KV at r ⊢
  unfold dropK without
  induction r with
  | nil => exact .nil
  | @cons p q ps qs h t ih =>
    obtain ⟨h1, h2⟩ := h
    rw [List.filter_cons, List.filter_cons]
    by_cases e : p.1 = k
    · have a : ¬ decide (p.1 ≠ k) = true := by simp [e]
      have b : ¬ decide (q.1 ≠ k) = true := by simp [h1.symm.trans e]
      rw [if_neg a, if_neg b]; exact ih
    · have e' : ¬ q.1 = k := fun z => e (h1.trans z)
      have a : decide (p.1 ≠ k) = true := by simp [e]
      have b : decide (q.1 ≠ k) = true := by simp [e']
      rw [if_pos a, if_pos b]; exact .cons ⟨h1, h2⟩ ih
theorem KV.keys {kvs : List (κ × V)} {vs : List (κ × Value)} (r : KV kvs vs) : kvs.map (·.1) = vs.map (·.1) := by
  unfold KV at r
  induction r with
  | nil => rfl
  | cons h t ih => rw [List.map_cons, List.map_cons, ih, h.1]
theorem KV.length {kvs : List (κ × V)} {vs : List (κ × Value)} (r : KV kvs vs) : kvs.length = vs.length := Paired.length r
end


/-! ### a tracked dict, its keys ints and texts or tuples of these -/
theorem kV_is {P : Program} {w : World} {k : Key} {u : Value} (r : RelV (kV k) u) : (mixKind P w).is k u = true := by
  cases k with
  | inl i => obtain ⟨t, e⟩ := (show ∃ t, u = Value.int i t from r); subst e; exact mixKind_int P w i t
  | inr x => obtain ⟨t, e⟩ := (show ∃ t, u = Value.str x t from r); subst e; exact mixKind_str P w x t
theorem items_are {P : Program} {w : World} : ∀ {ks : List Key} {us : List Value}, Vals (ks.map kV) us → ItemsAre (mixKind P w) ks us
  | [], _, r => by rw [List.map_nil] at r; cases r; exact .nil
  | k :: ks, _, r => by
    rw [List.map_cons] at r
    cases r with
    | cons h t => exact .cons (kV_is h) (items_are t)

/-- raw entries of a dict with tuple keys -/
abbrev KT (H : Hp) : List (List Key × V) → List (List Key × Addr × Value) → Prop := Paired fun p q => p.1 = q.1 ∧ H q.2.1 = some (.tup (p.1.map kV)) ∧ RelV p.2 q.2.2
theorem KT.val {H : Hp} {kvs : List (List Key × V)} {xs : List (List Key × Addr × Value)} (r : KT H kvs xs) (k : List Key) : RelO (valV kvs k) ((atKey xs k).map (·.2)) := by
  induction r with
  | nil => exact True.intro
  | @cons p q ps qs h t ih =>
    obtain ⟨h1, _, h2⟩ := h
    by_cases e : p.1 = k
    · have e' : q.1 = k := h1.symm.trans e
      have b : atKey (q :: qs) k = some q.2 := by simp [atKey, List.find?_cons, e']
      rw [valV_pos e, b]; exact h2
    · have e' : ¬ q.1 = k := fun z => e (h1.trans z)
      have b : atKey (q :: qs) k = atKey qs k := by simp [atKey, List.find?_cons, e']
      rw [valV_neg e, b]; exact ih
theorem KT.repl {H : Hp} {kvs : List (List Key × V)} {xs : List (List Key × Addr × Value)} (r : KT H kvs xs) (k : List Key) {y : V} {u : Value} (ry : RelV y u) :
    KT H (kvs.map fun kv => if kv.1 = k then (kv.1, y) else kv) (xs.map (putAt k u)) := by
  induction r with
  | nil => exact .nil
  | @cons p q ps qs h t ih =>
    rw [List.map_cons, List.map_cons]
    refine .cons ?_ ih
    obtain ⟨h1, h2, h3⟩ := h
    unfold putAt
    by_cases e : p.1 = k
    · rw [if_pos e, if_pos (h1.symm.trans e)]; exact ⟨h1, h2, ry⟩
    · rw [if_neg e, if_neg (fun z => e (h1.trans z))]; exact ⟨h1, h2, h3⟩
theorem KT.put {H : Hp} {kvs : List (List Key × V)} {xs : List (List Key × Addr × Value)} (r : KT H kvs xs) (k : List Key) {b : Addr} {y : V} {u : Value} (hb : H b = some (.tup (k.map kV))) (ry : RelV y u) :
    KT H (putK kvs k y) (storedH xs k b u) := by
  have e : (kvs.any fun kv => decide (kv.1 = k)) = (atKey xs k).isSome := by
    rw [valV_any, (r.val k).isSome_eq, Option.isSome_map]
  unfold putK storedH
  rw [e]
  by_cases q : (atKey xs k).isSome = true
  · rw [if_pos q, if_pos q]; exact r.repl k ry
  · rw [if_neg q, if_neg q]; exact Paired.snoc r ⟨rfl, hb, ry⟩
theorem KT.keeps {H H' : Hp} {kvs : List (List Key × V)} {xs : List (List Key × Addr × Value)} (r : KT H kvs xs) (ht : ∀ b ys, H b = some (.tup ys) → H' b = some (.tup ys)) : KT H' kvs xs :=
  Paired.mapP r fun _ _ z => ⟨z.1, ht _ _ z.2.1, z.2.2⟩

section
variable {P : Program} {w : World} {H : Hp} {h : Heap} {a : Addr}
theorem rd_of {u : HO} (ok : HOk P w H h) (e : Rd H a u) : ObjOk P w H h a u := e.ok ok
theorem dk_rd {kvs : List (Key × V)} (ok : HOk P w H h) (e : Rd H a (.dK kvs)) : kvs.length ≤ sizeLine ∧ (a == sysModules) = false ∧ ∃ vs, KV kvs vs ∧ h.DictOf (mixKind P w) a vs :=
  show ObjOk P w H h a (.dK kvs) from rd_of ok e
theorem dk_of {kvs : List (Key × V)} (ok : HOk P w H h) (e : H a = some (.dK kvs)) : kvs.length ≤ sizeLine ∧ (a == sysModules) = false ∧ ∃ vs, KV kvs vs ∧ h.DictOf (mixKind P w) a vs := dk_rd ok (.inl e)
/-- a tracked tuple of ints and texts is a key -/
theorem key_of {ks : List Key} (ok : HOk P w H h) (e : H a = some (.tup (ks.map kV))) : (tupleKind (mixKind P w)).is h ks a := by
  obtain ⟨_, its, r, o, h1, h2, n, h3⟩ := (show ObjOk P w H h a (.tup (ks.map kV)) from ok a _ e)
  exact ⟨o, its.toArray, n, h1, h2, h3, by simpa using items_are r⟩
theorem dt_rd {kvs : List (List Key × V)} (ok : HOk P w H h) (e : Rd H a (.dT kvs)) : kvs.length ≤ sizeLine ∧ (a == sysModules) = false ∧
    ∃ xs, KT H kvs xs ∧ h.DictOfH (tupleKind (mixKind P w)) a xs := by
  obtain ⟨z, y, xs, r, o, es, ep, h1, h2, h3, h4, h5⟩ := (show ObjOk P w H h a (.dT kvs) from rd_of ok e)
  refine ⟨z, y, xs, r, o, es, ep, h1, h2, h3, h4, fun x hx => ?_, h5⟩
  have all : ∀ {l : List (List Key × V)} {m : List (List Key × Addr × Value)}, KT H l m → ∀ x ∈ m, (tupleKind (mixKind P w)).is h x.1 x.2.1 := by
    intro l m q
    induction q with
    | nil => intro x hx; exact nomatch hx
    | @cons p q ps qs hq t ih =>
      intro x hx
      rcases List.mem_cons.mp hx with e | hx
      · subst e
        exact key_of ok (by rw [← hq.1]; exact hq.2.1)
      · exact ih x hx
  exact all r x hx
theorem dt_of {kvs : List (List Key × V)} (ok : HOk P w H h) (e : H a = some (.dT kvs)) : kvs.length ≤ sizeLine ∧ (a == sysModules) = false ∧
    ∃ xs, KT H kvs xs ∧ h.DictOfH (tupleKind (mixKind P w)) a xs := dt_rd ok (.inl e)
end

/-- what the dict at a holds at the key y -/
def DGet (H : Hp) (a : Addr) (y : V) (r : Option V) : Prop :=
  (∃ kvs k, Rd H a (.dK kvs) ∧ y = kV k ∧ r = valV kvs k) ∨ ∃ kvs k b, Rd H a (.dT kvs) ∧ y = .ref b ∧ H b = some (.tup (k.map kV)) ∧ r = valV kvs k
/-- the heap behind a[y] = v -/
def DPut (H : Hp) (a : Addr) (y v : V) (H' : Hp) : Prop :=
  (∃ kvs k, H a = some (.dK kvs) ∧ y = kV k ∧ kvs.length < sizeLine ∧ H' = upd H a (.dK (putK kvs k v))) ∨
  ∃ kvs k b, H a = some (.dT kvs) ∧ y = .ref b ∧ H b = some (.tup (k.map kV)) ∧ kvs.length < sizeLine ∧ H' = upd H a (.dT (putK kvs k v))
theorem DGet.k {H : Hp} {a : Addr} {kvs : List (Key × V)} {k : Key} (e : H a = some (.dK kvs)) : DGet H a (kV k) (valV kvs k) := .inl ⟨kvs, k, .inl e, rfl, rfl⟩
theorem DGet.t {H : Hp} {a b : Addr} {kvs : List (List Key × V)} {k : List Key} (e : H a = some (.dT kvs)) (eb : H b = some (.tup (k.map kV))) : DGet H a (.ref b) (valV kvs k) := .inr ⟨kvs, k, b, .inl e, rfl, eb, rfl⟩
theorem DPut.k {H : Hp} {a : Addr} {kvs : List (Key × V)} {k : Key} {v : V} (e : H a = some (.dK kvs)) (hl : kvs.length < sizeLine) : DPut H a (kV k) v (upd H a (.dK (putK kvs k v))) := .inl ⟨kvs, k, e, rfl, hl, rfl⟩
theorem DPut.t {H : Hp} {a b : Addr} {kvs : List (List Key × V)} {k : List Key} {v : V} (e : H a = some (.dT kvs)) (eb : H b = some (.tup (k.map kV))) (hl : kvs.length < sizeLine) :
    DPut H a (.ref b) v (upd H a (.dT (putK kvs k v))) := .inr ⟨kvs, k, b, e, rfl, eb, hl, rfl⟩


section
variable {X : Cx} {pins : List (Addr × Obj)} {σ : St} {H : Hp} {s : Shared} {a : Addr} {y v : V} {u r : Value} {o : Option V} {A : Around} {E : Value → Shared → Prop}

theorem Inv.big (I : Inv X pins σ H s) : sysModules < s.heap.objs.size := by
  have h : mainGlobals < s.heap.objs.size := (I.mod.glob.keeps I.bk).lt
  exact Nat.lt_trans (by decide) h

theorem d_notIn {Q : Value → Shared → Prop} (hu : A.units + 1 < cLine) (I : Inv X pins σ H s) (g : DGet H a y o) (ry : RelV y u) (h : ∀ s', Inv X pins σ H s' → Q (.bool (!o.isSome)) s') :
    wpAny (model X.prog X.w) A (compareOp .NotIn u (.ref a)) Q E s := by
  rcases g with ⟨kvs, k, e, ey, l⟩ | ⟨kvs, k, b, e, ey, eb, l⟩
  · subst ey
    obtain ⟨z, hd, vs, rel, dd⟩ := dk_rd I.hok e
    refine wpAny_notIn_of (kV_is ry) hd dd.mapOf ?_
    rw [← (rel.val k).isSome_eq, ← l]
    exact h _ (I.tok _)
  · subst ey
    cases (show u = Value.ref b from ry)
    obtain ⟨z, hd, xs, rel, dd⟩ := dt_rd I.hok e
    refine wpAny_notIn_heap (tupleKind_room_in1 hu) (key_of I.hok eb) hd dd ?_
    have q := (rel.val k).isSome_eq
    rw [Option.isSome_map] at q
    rw [← q, ← l]
    exact h _ (I.tok _)
/-- a dict's object is replaced -/
theorem d_write {h' : Heap} {t' : Nat} {ob : HO} (I : Inv X pins σ H s) (mu : Mut (H a)) (hs : Heap.SameBut a s.heap h') (he : ∃ q, h'.get? a = some q) (new : ObjOk X.prog X.w (upd H a ob) h' a ob) :
    Inv X pins σ (upd H a ob) { s with heap := h', toks := t' } :=
  I.write (x := a) (e := a) mu (.inl rfl) (fun b q hb z => (hs.2 b hb).trans z) he new
theorem dk_new {P : Program} {w : World} {H' : Hp} {h' : Heap} {kvs : List (Key × V)} {vs : List (Key × Value)} (z : kvs.length ≤ sizeLine) (hd : (a == sysModules) = false) (rel : KV kvs vs) (dd : h'.DictOf (mixKind P w) a vs) :
    ObjOk P w H' h' a (.dK kvs) := ⟨z, hd, vs, rel, dd⟩
/-- d[y] = v -/
theorem d_setItem {H' : Hp} {Q : Unit → Shared → Prop} (hu : A.units + 1 < cLine) (I : Inv X pins σ H s) (g : DPut H a y v H') (ry : RelV y u) (rv : RelV v r) (h : ∀ s', Inv X pins σ H' s' → Q () s') :
    wpAny (model X.prog X.w) A (setItem (.ref a) u r) Q E s := by
  rcases g with ⟨kvs, k, e, ey, l, eH⟩ | ⟨kvs, k, b, e, ey, eb, l, eH⟩
  · subst ey eH
    obtain ⟨z, hd, vs, rel, dd⟩ := dk_of I.hok e
    have hz : vs.length ≤ sizeLine := by rw [← rel.length]; exact z
    have hl : (putK kvs k v).length ≤ sizeLine := by have := length_putK kvs k v; omega
    refine wpAny_setItem_pairs (hsz := hz) (kV_is ry) dd fun h' dd' hs => h _ ?_
    have he : ∃ q, h'.get? a = some q := let ⟨q, _, _, hq, _⟩ := dd'; ⟨q, hq⟩
    exact d_write I (by rw [e]; exact True.intro) hs he (dk_new hl hd (rel.put k rv) dd')
  · subst ey eH
    cases (show u = Value.ref b from ry)
    obtain ⟨z, hd, xs, rel, dd⟩ := dt_of I.hok e
    have hz : xs.length ≤ sizeLine := by rw [← Paired.length rel]; exact z
    have hl : (putK kvs k v).length ≤ sizeLine := by have := length_putK kvs k v; omega
    refine wpAny_setItem_heap (hsz := hz) (tupleKind_room_in1 hu) (key_of I.hok eb) dd fun h' dd' hs => h _ ?_
    obtain ⟨q, es, ep, hq, h2, h3, h4, _, h5⟩ := dd'
    refine d_write I (by rw [e]; exact True.intro) hs ⟨q, hq⟩ ⟨hl, hd, _, (rel.put k eb rv).keeps fun c ys ec => ?_, q, es, ep, hq, h2, h3, h4, h5⟩
    rw [upd_ne (ne_of ec e (fun z => nomatch z))]
    exact ec
end

section
variable {X : Cx} {pins : List (Addr × Obj)} {σ : St} {H : Hp} {s : Shared} {a : Addr} {kvs : List (Key × V)} {k : Key} {u : Value} {A : Around} {E : Value → Shared → Prop}
end


/-! ### readings and rules -/
def tDNotIn (ty td : TE) : TE := fun σ H Q => ty σ H fun y H1 => td σ H1 fun x H2 => ∃ a o, x = .ref a ∧ DGet H2 a y o ∧ Q (.bl (!o.isSome)) H2
/-- d[y] = v -/
def sDPut (td ty tv : TE) : TS := fun D σ H => tv σ H fun v H1 => td σ H1 fun x H2 => ty σ H2 fun y H3 => ∃ a H4, x = .ref a ∧ DPut H3 a y v H4 ∧ D.nx σ H4
section
variable {X : Cx} {o i e value : Expr} {pos pos' tpos : Pos} {td ty tv : TE}
theorem pc_dnotin (hu : X.A.units + 1 < cLine) (hi : PE X i ty) (ho : PE X o td) : PC X .NotIn i o (tDNotIn ty td) := by
  intro pins s σ H Q I h
  refine thn (hi pins s σ H _ I h) fun iv s1 ⟨y, H1, I1, ry, q1⟩ => thn (ho pins s1 σ H1 _ I1 q1) fun u s2 ⟨x, H2, I2, rx, a, ov, ex, g, q2⟩ => ?_
  subst ex
  obtain rfl : u = Value.ref a := rx
  exact d_notIn hu I2 g ry fun s3 I3 => ⟨.bl (!ov.isSome), H2, I3, rfl, q2⟩
theorem ps_dput (hu : X.A.units + 1 < cLine) (ho : PE X o td) (hi : PE X i ty) (hv : PE X value tv) (hs : swapsWith value (some (.Subscript o i pos')) pos.line X.env = pure false) :
    PS X (.Assign [.Subscript o i pos'] value pos) (sDPut td ty tv) := by
  intro pins s σ H D I h
  refine wpAny_Assign_Subscript (thn (hv pins s σ H _ I h) fun r s1 ⟨v, H1, I1, rv, q1⟩ => thn (ho pins s1 σ H1 _ I1 q1) fun u s2 ⟨x, H2, I2, rx, q2⟩ => thn (hi pins s2 σ H2 _ I2 q2) fun iv s3 ⟨y, H3, I3, ry, a, H4, ex, g, q3⟩ => ?_) hs
  subst ex
  obtain rfl : u = Value.ref a := rx
  exact d_setItem hu I3 g ry rv fun s4 I4 => ⟨σ, H4, I4, q3⟩
end


/-! ### displays -/
theorem dk_empty {P : Program} {w : World} {H : Hp} (h : Heap) (hb : sysModules < h.objs.size) : ObjOk P w H (h.push { cls := .type "dict", data := .dict #[] }) h.objs.size (.dK []) :=
  ⟨Nat.zero_le _, beq_eq_false_iff_ne.mpr (Ne.symm (Nat.ne_of_lt hb)), [], .nil, Heap.DictOf.new h⟩
/-- {}, to be a dict of the kind that is wanted -/
def tDNewK : TE := fun _ H Q => ∀ p, H p = none → Q (.ref p) (upd H p (.dK []))
section
variable {X : Cx} {pos : Pos}
theorem pe_dnewK : PE X (.Dict [] [] pos) tDNewK := fun pins s σ H Q I h =>
  wpAny_Dict_empty ⟨.ref s.heap.objs.size, _, I.laid (a := s.heap.objs.size) (o := .dK []) (t' := s.toks) (fun _ _ q => Heap.get?_push_of_some _ q) (Nat.le_refl _) (dk_empty s.heap I.big), rfl, h _ (I.hok.fresh (Nat.le_refl _))⟩
end

/-! ### methods -/
/-- a method call o.m(e) of a built-in, with one argument: what must be seen of the text -/
structure M1 (X : Cx) (o : Expr) (m : Str) (apos : Pos) (e : Expr) (cpos : Pos) : Prop where
  base : attributeBase o m X.env (eval o X.env) = eval o X.env
  few : ((backTo cpos (starEach [e] X.env)).all (fun x => !x.1) && (backToKw cpos (keywordEach [] X.env)).all (fun x => x.1.isSome)
    && decide (([e] : List Expr).length + ([] : List Keyword).length + (if ([] : List Keyword).isEmpty then 0 else 1) < 30)) = true
  line : (apos.endLine == cpos.line) = true
  trees : backTo cpos (starEach [e] X.env) = [(false, eval e X.env)]
structure M2 (X : Cx) (o : Expr) (m : Str) (apos : Pos) (e f : Expr) (cpos : Pos) : Prop where
  base : attributeBase o m X.env (eval o X.env) = eval o X.env
  few : ((backTo cpos (starEach [e, f] X.env)).all (fun x => !x.1) && (backToKw cpos (keywordEach [] X.env)).all (fun x => x.1.isSome)
    && decide (([e, f] : List Expr).length + ([] : List Keyword).length + (if ([] : List Keyword).isEmpty then 0 else 1) < 30)) = true
  line : (apos.endLine == cpos.line) = true
  trees : backTo cpos (starEach [e, f] X.env) = [(false, eval e X.env), (false, eval f X.env)]

section
variable {X : Cx} {pins : List (Addr × Obj)} {σ : St} {H : Hp} {s : Shared} {a : Addr} {y d : V} {u r : Value} {o : Option V} {A : Around} {E : Value → Shared → Prop}
end

section
variable {X : Cx} {o e f : Expr} {apos cpos : Pos} {td ty tx : TE}
end

/-! ### dict(d): a copy -/
section
variable {X : Cx} {pins : List (Addr × Obj)} {σ : St} {H : Hp} {s : Shared} {a : Addr} {kvs : List (Key × V)} {A : Around} {E : Value → Shared → Prop}
end


section
variable {X : Cx} {pins : List (Addr × Obj)} {σ : St} {H : Hp} {s : Shared} {a : Addr} {y : V} {u : Value} {A : Around} {E : Value → Shared → Prop}
end
end L2

set_option maxHeartbeats 1000000
/-! ### x in d.values(); list(reversed(text)) -/
namespace L2
open PySem PySem.Spec PyProof.Rows
section
variable {prog : Program} {w : World} {KK : Type} [DecidableEq KK] {knd : KeyKind prog w KK}
end
section
variable {X : Cx}
end
end L2
/-! ### sum(list of whole numbers); isinstance(number, int), isinstance(number, bool) -/
namespace L2
open PySem PySem.Spec PyProof.Rows
section
variable {X : Cx}
def rSumI (K : PySem.W.Frag) : List V → Hp → VK → Prop := fun xs H Q => ∃ (p : Addr) (ns : List Int), xs = [.ref p] ∧ SqL K H p (ns.map V.int) ∧ Q (.int ns.sum) H
theorem call_sumI (K : PySem.W.Frag) (h : X.K = K) (hc : X.calm = true) : CallR X (.builtin "sum") (rSumI K) := by
  subst h
  intro pins s σ H xs us Q I r h
  obtain ⟨p, ns, rfl, hq, q⟩ := h
  obtain ⟨u, rfl, ru⟩ := vals1 r
  cases ru
  obtain ⟨its, rv, pl, _⟩ := I.list hq
  have hi : IntsAre its ns := intsAre_of rv
  obtain ⟨ys, e⟩ := hi.allInts.items
  have hl : s.heap.IsList p (intItems ys) := by rw [← e]; exact pl.isList
  refine sum_intListG (I.ok.hd hc) hl fun h' tk t' hk => ?_
  have e2 : preSum (numAt ys) ys.size = ns.sum := by
    rw [preSum_eq, List.take_of_length_le (by simp), ← nums_intItems, ← e]
    exact congrArg List.sum hi.numsOf
  rw [e2]
  exact ⟨.int ns.sum, H, I.kept (t' := tk) hk, ⟨_, rfl⟩, q⟩
theorem call_isNum : CallR X (.builtin "isinstance") (fun xs H Q => ∃ i, (xs = [.int i, .ty "int"] ∧ Q (.bl true) H) ∨ (xs = [.int i, .ty "bool"] ∧ Q (.bl false) H)) := by
  intro pins s σ H xs us Q I r h
  obtain ⟨i, h⟩ := h
  rcases h with ⟨rfl, q⟩ | ⟨rfl, q⟩
  · obtain ⟨u, w', rfl, r1, r2⟩ := vals2 r
    cases (show w' = Value.type "int" from r2)
    exact isinst_ok I r1 (.int i) (by unfold PySem.W.kitOne; rw [if_pos (by decide)]) fun tk => ⟨.bl true, H, I.tok _, rfl, q⟩
  · obtain ⟨u, w', rfl, r1, r2⟩ := vals2 r
    cases (show w' = Value.type "bool" from r2)
    exact isinst_ok I r1 (.int i) (b := false) (by unfold PySem.W.kitOne; rw [if_neg (by decide)]; rfl) fun tk => ⟨.bl false, H, I.tok _, rfl, q⟩
end
end L2
/-! ### text.count(sign); any(list of truths); isinstance(tuple, tuple); zip of two sequences of one length -/
namespace L2
open PySem PySem.Spec PyProof.Rows
section
variable {X : Cx}
def rCountS : V → List V → Hp → VK → Prop := fun x vs H Q => ∃ l c, x = .str (S l) ∧ vs = [.str (S [c])] ∧ Q (.int (PyProof.Rows.cnt c l)) H
theorem mt_countS : MtR X "str.count" rCountS := by
  intro pins s σ H x xs v us Q I rx rv h
  obtain ⟨l, c, rfl, rfl, q⟩ := h
  obtain ⟨t, rfl⟩ := rx
  obtain ⟨u, rfl, t', rfl⟩ := vals1 rv
  refine SC.count ⟨.int _, H, I.tok _, ⟨_, rfl⟩, ?_⟩
  have e : Txt.count (S l) (S [c]) = PyProof.Rows.cnt c l := (PyProof.Rows.count_is (S l) c).trans (by unfold PyProof.Rows.cnt; simp [S])
  rw [e]
  exact q
end
section
variable {prog : Program} {w : World} {A : Around} {E : Value → Shared → Prop} {s : Shared}
/-- what lies apart of what -/
structure ZA (z TI TO i1 i2 : Addr) (f1 f2 : List Addr) : Prop where
  m1 : i1 ∈ f1
  m2 : i2 ∈ f2
  z1 : z ∉ f1
  z2 : z ∉ f2
  o1 : TO ∉ f1
  o2 : TO ∉ f2
  c1 : i1 ∉ f2
  c2 : i2 ∉ f1
  tz : TI ≠ z
  tt : TI ≠ TO
  t1 : TI ≠ i1
  t2 : TI ≠ i2
  oz : TO ≠ z
theorem nm {a b : Addr} {f : List Addr} (h : a ∈ f) (n : b ∉ f) : a ≠ b := fun z => n (z ▸ h)
section
variable {z TI TO i1 i2 : Addr} {f1 f2 : List Addr} {n1 n2 i : Nat} {P1 P2 : Nat → Value → Prop} {S1 S2 : Nat → Heap → Prop} {a b : Value}
theorem zipD_item {Q : Value → Shared → Prop} (D1 : Draws prog w A i1 f1 n1 P1 S1) (D2 : Draws prog w A i2 f2 n2 P2 S2) (Z : ZA z TI TO i1 i2 f1 f2)
    (hz : IsZip s.heap z TI TO .none) (hTI : IsPair s.heap TI (.ref i1) (.ref i2)) (hTO : IsPair s.heap TO a b) (h1 : S1 i s.heap) (h2 : S2 i s.heap) (l1 : i < n1) (l2 : i < n2)
    (hQ : ∀ x y h' tk, P1 i x → P2 i y → IsZip h' z TI TO (rawInt s.heap.objs.size) → IsPair h' TO x y → S1 (i + 1) h' → S2 (i + 1) h' → IsPair h' s.heap.objs.size x y → h'.objs.size = s.heap.objs.size + 1 →
      (∀ c o, c ≠ z → c ≠ TO → c ≠ i1 → c ≠ i2 → s.heap.get? c = some o → h'.get? c = some o) → Q (.ref s.heap.objs.size) { s with heap := h', toks := tk }) :
    wpAny (model prog w) A (Builtin.«zip.__next__» ⟨[.ref z], []⟩) (fun fin s' => ∃ v, fin = .done (.ret v) ∧ Q v s') E s := by
  obtain ⟨hp, g, d, tk0, os⟩ := s
  have i1z := nm Z.m1 Z.z1
  have i2z := nm Z.m2 Z.z2
  have i1o := nm Z.m1 Z.o1
  have i2o := nm Z.m2 Z.o2
  have i21 := nm Z.m2 Z.c1
  refine wpAny_bind (m := field (.ref z) 2) (wpAny_field hz rfl (x := .bool false) rfl ?_)
  refine wpAny_bind (m := field (.ref z) 3) (wpAny_field hz rfl (x := .ref TI) rfl ?_)
  refine wpAny_bind (m := seqItems? (.ref TI)) (wpAny_seqItems hTI rfl ?_)
  refine wpAny_bind (m := Builtin.SmallTypes.ownedTupleIsFree (.ref z)) ?_
  (unfold Builtin.SmallTypes.ownedTupleIsFree; refine wpAny_bind (m := field (.ref z) 0) (wpAny_field hz rfl (x := .none) rfl (wpAny_pure ?_)))
  simp only [if_true]
  refine wpAny_bind (wpAny_rule ?_); refine wpAny_bind (m := field (.ref z) 4) (wpAny_field hz rfl (x := .ref TO) rfl ?_)
  refine wpAny_bind (wpAny_setField_rec hz (by simp) fun k1 zk1 sk1 => ?_)
  replace zk1 : IsZip k1 z TI TO .ellipsis := zk1
  replace sk1 : Heap.SameBut z hp k1 := sk1
  refine wpAny_bind ?_; simp only [List.zipIdx_cons, List.zipIdx_nil, List.forIn_cons, List.forIn_nil]
  refine wpAny_bind (wpAny_bind (wpAny_onRaise ?_)); refine wpAny_bind (m := Builtin.SmallTypes.nextOf (.ref i1)) ?_
  refine D1.item i _ _ _ l1 (D1.frame _ _ _ h1 fun c hc o e => sk1.extBut _ _ (nm hc Z.z1) e) fun x k2 tk2 px st2 sk2 => wpAny_pure ?_
  replace sk2 : Heap.SameBut i1 k1 k2 := sk2
  have to2 : IsPair k2 TO a b := sk2.extBut _ _ (Ne.symm i1o) (sk1.extBut _ _ Z.oz hTO)
  refine wpAny_bind (m := seqItems? (.ref TO)) (wpAny_seqItems to2 rfl ?_)
  refine wpAny_bind (wpAny_updateSeq_pair to2 fun k3 to3 sk3 => ?_)
  replace to3 : IsPair k3 TO x b := to3
  replace sk3 : Heap.SameBut TO k2 k3 := sk3
  refine wpAny_bind (wpAny_letGo (wpAny_pure ?_)); refine wpAny_bind (wpAny_bind (wpAny_onRaise ?_))
  refine wpAny_bind (m := Builtin.SmallTypes.nextOf (.ref i2)) ?_
  refine D2.item i _ _ _ l2 (D2.frame _ _ _ h2 fun c hc o e => sk3.extBut _ _ (nm hc Z.o2) (sk2.extBut _ _ (nm hc Z.c1) (sk1.extBut _ _ (nm hc Z.z2) e))) fun y k4 tk4 py st4 sk4 => wpAny_pure ?_
  replace sk4 : Heap.SameBut i2 k3 k4 := sk4
  have to4 : IsPair k4 TO x b := sk4.extBut _ _ (Ne.symm i2o) to3
  refine wpAny_bind (m := seqItems? (.ref TO)) (wpAny_seqItems to4 rfl ?_)
  refine wpAny_bind (wpAny_updateSeq_pair to4 fun k5 to5 sk5 => ?_)
  replace to5 : IsPair k5 TO x y := to5
  replace sk5 : Heap.SameBut TO k4 k5 := sk5
  refine wpAny_bind (wpAny_letGo (wpAny_pure (wpAny_pure ?_))); refine wpAny_bind (m := seqItems? (.ref TO)) (wpAny_seqItems to5 rfl ?_)
  refine wpAny_bind (wpAny_newTuple ?_)
  have sz : k5.objs.size = hp.objs.size := by rw [sk5.1, sk4.1, sk3.1, sk2.1, sk1.1]
  have z5 : IsZip k5 z TI TO .ellipsis := sk5.extBut _ _ (Ne.symm Z.oz) (sk4.extBut _ _ (Ne.symm i2z) (sk3.extBut _ _ (Ne.symm Z.oz) (sk2.extBut _ _ (Ne.symm i1z) zk1)))
  have kp : ∀ c o, c ≠ z → c ≠ TO → c ≠ i1 → c ≠ i2 → hp.get? c = some o → k5.get? c = some o := fun c o c1 c2 c3 c4 e => sk5.extBut _ _ c2 (sk4.extBut _ _ c4 (sk3.extBut _ _ c2 (sk2.extBut _ _ c3 (sk1.extBut _ _ c1 e))))
  have s15 : S1 (i + 1) k5 := D1.frame _ _ _ st2 fun c hc o e => sk5.extBut _ _ (nm hc Z.o1) (sk4.extBut _ _ (nm hc Z.c2) (sk3.extBut _ _ (nm hc Z.o1) e))
  have s25 : S2 (i + 1) k5 := D2.frame _ _ _ st4 fun c hc o e => sk5.extBut _ _ (nm hc Z.o2) e
  have zl : z < k5.objs.size := Heap.lt_size z5
  refine wpAny_bind (m := Builtin.SmallTypes.ownedTupleHandOut (.ref z) (.ref k5.objs.size)) ?_
  have z6 : IsZip (k5.push { cls := .type "tuple", data := .seq #[x, y] }) z TI TO .ellipsis := Heap.get?_push_of_some _ z5
  (unfold Builtin.SmallTypes.ownedTupleHandOut; refine wpAny_bind (wpAny_setField_rec z6 (by simp) fun k7 z7 s7 => ?_))
  replace z7 : IsZip k7 z TI TO (rawInt k5.objs.size) := z7
  refine wpAny_setField_rec z7 (by simp) fun k8 z8 s8 => ?_
  replace z8 : IsZip k8 z TI TO (rawInt k5.objs.size) := z8
  have up : ∀ c o, c ≠ z → k5.get? c = some o → k8.get? c = some o := fun c o c1 e => s8.extBut _ _ c1 (s7.extBut _ _ c1 (Heap.get?_push_of_some _ e))
  have t8 : IsPair k8 k5.objs.size x y := s8.extBut _ _ (Nat.ne_of_gt zl) (s7.extBut _ _ (Nat.ne_of_gt zl) (Heap.get?_push_size _ rfl))
  have e8 : k8.objs.size = k5.objs.size + 1 := by rw [s8.1, s7.1, Heap.size_push]
  rw [sz] at z8 t8 e8
  refine wpAny_pure ⟨_, rfl, ?_⟩
  show Q (.ref k5.objs.size) _
  rw [sz]
  exact hQ x y k8 tk4 px py z8 (up _ _ Z.oz to5) (D1.frame _ _ _ s15 fun c hc o e => up c o (nm hc Z.z1) e) (D2.frame _ _ _ s25 fun c hc o e => up c o (nm hc Z.z2) e) t8 e8 fun c o c1 c2 c3 c4 e => up c o c1 (kp c o c1 c2 c3 c4 e)
theorem zipD_end {Q : Fin → Shared → Prop} (D1 : Draws prog w A i1 f1 n1 P1 S1) (Z : ZA z TI TO i1 i2 f1 f2)
    (hz : IsZip s.heap z TI TO .none) (hTI : IsPair s.heap TI (.ref i1) (.ref i2)) (hTO : IsPair s.heap TO a b) (h1 : S1 n1 s.heap)
    (hE : ∀ h' e, (∀ c o, c ≠ z → c ≠ TO → c ≠ i1 → c ≠ i2 → s.heap.get? c = some o → h'.get? c = some o) → (∃ o, h'.get? e = some o ∧ o.cls = .type "StopIteration") → E (.ref e) { s with heap := h' }) :
    wpAny (model prog w) A (Builtin.«zip.__next__» ⟨[.ref z], []⟩) Q E s := by
  obtain ⟨hp, g, d, tk0, os⟩ := s
  have i1z := nm Z.m1 Z.z1
  refine wpAny_bind (m := field (.ref z) 2) (wpAny_field hz rfl (x := .bool false) rfl ?_)
  refine wpAny_bind (m := field (.ref z) 3) (wpAny_field hz rfl (x := .ref TI) rfl ?_)
  refine wpAny_bind (m := seqItems? (.ref TI)) (wpAny_seqItems hTI rfl ?_)
  refine wpAny_bind (m := Builtin.SmallTypes.ownedTupleIsFree (.ref z)) ?_
  (unfold Builtin.SmallTypes.ownedTupleIsFree; refine wpAny_bind (m := field (.ref z) 0) (wpAny_field hz rfl (x := .none) rfl (wpAny_pure ?_)))
  simp only [if_true]
  refine wpAny_bind (wpAny_rule ?_); refine wpAny_bind (m := field (.ref z) 4) (wpAny_field hz rfl (x := .ref TO) rfl ?_)
  refine wpAny_bind (wpAny_setField_rec hz (by simp) fun k1 zk1 sk1 => ?_)
  replace zk1 : IsZip k1 z TI TO .ellipsis := zk1
  replace sk1 : Heap.SameBut z hp k1 := sk1
  refine wpAny_bind ?_; simp only [List.zipIdx_cons, List.zipIdx_nil, List.forIn_cons, List.forIn_nil]
  refine wpAny_bind (wpAny_bind (wpAny_onRaise ?_)); refine wpAny_bind (m := Builtin.SmallTypes.nextOf (.ref i1)) ?_
  refine D1.done _ _ _ (D1.frame _ _ _ h1 fun c hc o e => sk1.extBut _ _ (nm hc Z.z1) e) fun k2 e sk2 he => ?_
  obtain ⟨oe, hoe, hce⟩ := he
  have z2 : IsZip k2 z TI TO .ellipsis := sk2 _ _ (Ne.symm i1z) zk1
  have ez : e ≠ z := fun x => by subst x; rw [z2] at hoe; cases hoe; simp at hce
  refine wpAny_setField_rec z2 (by simp) fun k3 _ sk3 => hE k3 e (fun c o c1 _ c3 _ x => sk3.extBut _ _ c1 (sk2 _ _ c3 (sk1.extBut _ _ c1 x))) ⟨oe, sk3.extBut _ _ ez hoe, hce⟩
theorem nextZ_item {Q : Option Value → Shared → Prop} (D1 : Draws prog w A.in1 i1 f1 n1 P1 S1) (D2 : Draws prog w A.in1 i2 f2 n2 P2 S2) (Z : ZA z TI TO i1 i2 f1 f2)
    (hz : IsZip s.heap z TI TO .none) (hTI : IsPair s.heap TI (.ref i1) (.ref i2)) (hTO : IsPair s.heap TO a b) (h1 : S1 i s.heap) (h2 : S2 i s.heap) (l1 : i < n1) (l2 : i < n2)
    (hQ : ∀ x y h' tk, P1 i x → P2 i y → IsZip h' z TI TO (rawInt s.heap.objs.size) → IsPair h' TO x y → S1 (i + 1) h' → S2 (i + 1) h' → IsPair h' s.heap.objs.size x y → h'.objs.size = s.heap.objs.size + 1 →
      (∀ c o, c ≠ z → c ≠ TO → c ≠ i1 → c ≠ i2 → s.heap.get? c = some o → h'.get? c = some o) → Q (some (.ref s.heap.objs.size)) { s with heap := h', toks := tk }) :
    wpAny (model prog w) A (pyNext (.ref z)) Q E s := by
  have hT : s.TypeIs (.ref z) "zip" := ⟨_, hz, rfl⟩
  unfold pyNext
  exact wpAny_bind (wpAny_attempt (wpAny_callSpecial?_slot (name := Str.ofString "__next__") hT F.slot_zip_next (wpAny_call_entry F.slot_zip_next hT F.entry_zip_next
      (zipD_item D1 D2 Z hz hTI hTO h1 h2 l1 l2 fun x y h' tk p1 p2 a1 a2 a3 a4 a5 a6 a7 => wpAny_pure (hQ x y h' tk p1 p2 a1 a2 a3 a4 a5 a6 a7)) (F.args_zip_next_1 _))))
theorem nextZ_end {Q : Option Value → Shared → Prop} (D1 : Draws prog w A.in1 i1 f1 n1 P1 S1) (Z : ZA z TI TO i1 i2 f1 f2)
    (hz : IsZip s.heap z TI TO .none) (hTI : IsPair s.heap TI (.ref i1) (.ref i2)) (hTO : IsPair s.heap TO a b) (h1 : S1 n1 s.heap)
    (hQ : ∀ h', (∀ c o, c ≠ z → c ≠ TO → c ≠ i1 → c ≠ i2 → s.heap.get? c = some o → h'.get? c = some o) → Q none { s with heap := h' }) : wpAny (model prog w) A (pyNext (.ref z)) Q E s := by
  have hT : s.TypeIs (.ref z) "zip" := ⟨_, hz, rfl⟩
  unfold pyNext
  refine wpAny_bind (wpAny_attempt (wpAny_callSpecial?_slot (name := Str.ofString "__next__") hT F.slot_zip_next (wpAny_call_entry F.slot_zip_next hT F.entry_zip_next (zipD_end D1 Z hz hTI hTO h1 fun h' e hk he => ?_) (F.args_zip_next_1 _))))
  obtain ⟨o, ho, hc⟩ := he
  refine wpAny_bind (wpAny_isInstance (T := "StopIteration") (b := true) ⟨o, ho, hc⟩ isSubtype_stop (wpAny_pure (hQ _ hk)))
end
/-- one of a zip's two sequences -/
structure ZS (P : Program) (w : World) (K : PySem.W.Frag) (a it : Addr) (Sq : Hp → List V → Prop) (IT : Nat → Heap → Prop) : Prop where
  obj : ∀ i h, IT i h → ∃ o, h.get? it = some o ∧ ∀ v, o.data ≠ .cell v
  keep : ∀ i h h', IT i h → (∀ o, h.get? it = some o → h'.get? it = some o) → IT i h'
  inj : ∀ (X : Cx), X.K = K → ∀ (pins : List (Addr × Obj)) (s : Shared) (σ : St) (H : Hp), Inv X pins σ H s → ∀ xs ys, Sq H xs → Sq H ys → xs = ys
  draws : ∀ (X : Cx), X.prog = P → X.w = w → X.K = K → X.calm = true → ∀ (pins : List (Addr × Obj)) (s : Shared) (σ : St) (H : Hp), Inv X pins σ H s → ∀ xs, Sq H xs → a ≠ it →
    ∃ (its : List Value) (SS : Nat → Heap → Prop), Vals xs its ∧ Draws P w X.A.in1 it [it, a] its.length (fun i v => its[i]? = some v) SS ∧ (∀ i, IT i s.heap → SS i s.heap) ∧ ∀ i h, SS i h → IT i h
theorem zs_tup {P : Program} {w : World} {K : PySem.W.Frag} (a it : Addr) : ZS P w K a it (fun H xs => SqT K H a xs) (fun i h => h.IsTupleIter it a i) where
  obj := fun i h st => by
    obtain ⟨o, ho, hc, hd⟩ := st
    exact ⟨o, ho, fun v z => by rw [hd] at z; cases z⟩
  keep := fun i h h' st k => by
    obtain ⟨o, ho, r⟩ := st
    exact ⟨o, k o ho, r⟩
  inj := fun X hK pins s σ H I xs ys h1 h2 => by subst hK; exact I.tuple_inj h1 h2
  draws := fun X hP hw hK hc pins s σ H I xs hq ne => by
    subst hP hw hK
    obtain ⟨its, rv, p, _⟩ := I.tuple hq
    have D := draws_tuple (prog := X.prog) (w := X.w) (A := X.A.in1) (I.ok.hd hc) it a ne its.toArray
    refine ⟨its, fun i h => h.IsTupleIter it a i ∧ h.IsTuple a its.toArray, rv, ?_, fun i h => ⟨h, p⟩, fun i h z => z.1⟩
    have e : its.toArray.size = its.length := List.size_toArray
    rw [← e]
    refine ⟨D.live, D.frame, fun i s Q E hi st q => D.item i s Q E hi st fun x h' tk hx => q x h' tk (by simpa using hx), D.done⟩
theorem zs_lst {P : Program} {w : World} {K : PySem.W.Frag} (a it : Addr) : ZS P w K a it (fun H xs => SqL K H a xs) (fun i h => h.IsListIter it a i) where
  obj := fun i h st => by
    obtain ⟨o, ho, hc, hd⟩ := st
    exact ⟨o, ho, fun v z => by rw [hd] at z; cases z⟩
  keep := fun i h h' st k => by
    obtain ⟨o, ho, r⟩ := st
    exact ⟨o, k o ho, r⟩
  inj := fun X hK pins s σ H I xs ys h1 h2 => by subst hK; exact I.list_inj h1 h2
  draws := fun X hP hw hK hc pins s σ H I xs hq ne => by
    subst hP hw hK
    obtain ⟨its, rv, p, _⟩ := I.list hq
    have D := Draws.list (prog := X.prog) (w := X.w) (A := X.A.in1) (I.ok.hd hc) it a ne its.toArray
    refine ⟨its, fun i h => h.IsListIter it a i ∧ h.IsList a its.toArray, rv, ?_, fun i h => ⟨h, p.isList⟩, fun i h z => z.1⟩
    have e : its.toArray.size = its.length := List.size_toArray
    rw [← e]
    refine ⟨D.live, D.frame, fun i s Q E hi st q => D.item i s Q E hi st fun x h' tk hx => q x h' tk (by simpa using hx), D.done⟩
/-- a zip of two sequences of one length -/
def ItZ (Sq1 Sq2 : Hp → List V → Prop) : It := ⟨fun i H => ∃ xs ys x y, Sq1 H xs ∧ Sq2 H ys ∧ xs[i]? = some x ∧ ys[i]? = some y,
  fun i H x H' => ∃ T u v, (∀ xs, Sq1 H xs → xs[i]? = some u) ∧ (∀ ys, Sq2 H ys → ys[i]? = some v) ∧ x = .ref T ∧ H T = none ∧ H' = upd H T (.tup [u, v]),
  fun i H => ∃ xs, Sq1 H xs ∧ (∃ ys, Sq2 H ys) ∧ xs.length = i⟩
theorem turn_zip {P : Program} {w : World} {K : PySem.W.Frag} {elts : List Expr} {k : Nat} {pos : Pos} {a1 a2 z TI TO i1 i2 : Addr} {Sq1 Sq2 : Hp → List V → Prop} {I1 I2 : Nat → Heap → Prop}
    (W1 : ZS P w K a1 i1 Sq1 I1) (W2 : ZS P w K a2 i2 Sq2 I2) (Z : ZA z TI TO i1 i2 [i1, a1] [i2, a2]) (n1 : a1 ≠ i1) (n2 : a2 ≠ i2) :
    Turn P w K (.Tuple elts k pos) (ItZ Sq1 Sq2) [z, TI, TO, i1, i2] z (fun i h => IsZip h z TI TO .none ∧ IsPair h TI (.ref i1) (.ref i2) ∧ (∃ a b, IsPair h TO a b) ∧ I1 i h ∧ I2 i h) where
  mem := by simp
  obj := fun i h st b hb => by
    obtain ⟨q1, q2, ⟨a, b', q3⟩, q4, q5⟩ := st
    simp only [List.mem_cons, List.not_mem_nil, or_false] at hb
    rcases hb with g | g | g | g | g <;> rw [g]
    · exact ⟨_, q1, fun v z => by cases z⟩
    · exact ⟨_, q2, fun v z => by cases z⟩
    · exact ⟨_, q3, fun v z => by cases z⟩
    · exact W1.obj i h q4
    · exact W2.obj i h q5
  keep := fun i h h' st kp => by
    obtain ⟨q1, q2, ⟨a, b', q3⟩, q4, q5⟩ := st
    exact ⟨kp z (by simp) _ q1, kp TI (by simp) _ q2, ⟨a, b', kp TO (by simp) _ q3⟩, W1.keep _ _ _ q4 fun o e => kp i1 (by simp) o e, W2.keep _ _ _ q5 fun o e => kp i2 (by simp) o e⟩
  item := by
    intro X hP hw hK hc i pins s σ H E I hf st hg
    obtain ⟨q1, q2, ⟨a, b', q3⟩, q4, q5⟩ := st
    obtain ⟨xs, ys, x, y, hx, hy, gx, gy⟩ := hg
    obtain ⟨xi, SX, rx, DX, ux, vx⟩ := W1.draws X hP hw hK hc pins s σ H I xs hx n1
    obtain ⟨yi, SY, ry, DY, uy, vy⟩ := W2.draws X hP hw hK hc pins s σ H I ys hy n2
    obtain ⟨u0, hu, ru⟩ := rx.get gx
    obtain ⟨w0, hw0, rw0⟩ := ry.get gy
    have ij1 := W1.inj X hK pins s σ H I
    have ij2 := W2.inj X hK pins s σ H I
    subst hP hw hK
    refine nextZ_item DX DY Z q1 q2 q3 (ux i q4) (uy i q5) (List.getElem?_eq_some_iff.mp hu).1 (List.getElem?_eq_some_iff.mp hw0).1 fun x2 y2 h' tk p1 p2 e1 e2 e3 e4 e5 e6 e7 => ⟨_, rfl, ?_⟩
    have ex : x2 = u0 := Option.some.inj (p1.symm.trans hu)
    have ey : y2 = w0 := Option.some.inj (p2.symm.trans hw0)
    subst ex
    subst ey
    have lt : ∀ {c o}, s.heap.get? c = some o → s.heap.objs.size ≠ c := fun e => Nat.ne_of_gt (Heap.lt_size e)
    obtain ⟨o1, g1⟩ := DX.live _ _ (ux i q4)
    obtain ⟨o2, g2⟩ := DY.live _ _ (uy i q5)
    have hTw : s.heap.objs.size ∉ [z, TI, TO, i1, i2] := by
      simp only [List.mem_cons, List.not_mem_nil, or_false, not_or]
      exact ⟨lt q1, lt q2, lt q3, lt g1, lt g2⟩
    refine wpAny_letOwnedTupleGo_zip e1 fun h2 z2 sb => ?_
    have kk : ∀ b o, b ∉ [z, TI, TO, i1, i2] → s.heap.get? b = some o → h2.get? b = some o := fun b o hb e => by
      simp only [List.mem_cons, List.not_mem_nil, or_false, not_or] at hb
      exact sb.extBut _ _ hb.1 (e7 b o hb.1 hb.2.2.1 hb.2.2.2.1 hb.2.2.2.2 e)
    have hTup2 : h2.IsTuple s.heap.objs.size #[x2, y2] := ⟨_, sb.extBut _ _ (lt q1) e5, rfl, _, rfl⟩
    refine ⟨.ref s.heap.objs.size, upd H s.heap.objs.size (.tup [x, y]), ?_, rfl, ⟨s.heap.objs.size, x, y, fun zs hzs => by rw [ij1 zs xs hzs hx]; exact gx, fun zs hzs => by rw [ij2 zs ys hzs hy]; exact gy, rfl, I.hok.fresh (Nat.le_refl _), rfl⟩,
      ⟨z2, sb.extBut _ _ Z.tz (e7 _ _ Z.tz Z.tt Z.t1 Z.t2 q2), ⟨_, _, sb.extBut _ _ Z.oz e2⟩, vx _ _ (DX.frame _ _ _ e3 fun c hc o e => sb.extBut _ _ (nm hc Z.z1) e), vy _ _ (DY.frame _ _ _ e4 fun c hc o e => sb.extBut _ _ (nm hc Z.z2) e)⟩, fun b hb => ?_⟩
    · refine I.turnLaid (t' := tk) (h' := h2) kk hf (Nat.le_refl _) ?_
      exact ⟨by show 2 ≤ sizeLine; decide, [x2, y2], .cons ru (.cons rw0 .nil), hTup2⟩
    · rw [upd_ne (fun q : b = s.heap.objs.size => hTw (q ▸ hb))]; exact (hf b hb).1
  done := by
    intro X hP hw hK hc i pins s σ H E I hf st hg
    obtain ⟨q1, q2, ⟨a, b', q3⟩, q4, q5⟩ := st
    obtain ⟨xs, hx, ⟨ys, hy⟩, el⟩ := hg
    obtain ⟨xi, SX, rx, DX, ux, vx⟩ := W1.draws X hP hw hK hc pins s σ H I xs hx n1
    have hl := rx.length
    subst hP hw hK
    have e0 : i = xi.length := by omega
    subst e0
    refine nextZ_end DX Z q1 q2 q3 (ux _ q4) fun h' hk => ⟨rfl, I.turnedL (t' := s.toks) (ch := [z, TI, TO, i1, i2]) (fun b o hb e => ?_) hf⟩
    simp only [List.mem_cons, List.not_mem_nil, or_false, not_or] at hb
    exact hk b o hb.1 hb.2.2.1 hb.2.2.2.1 hb.2.2.2.2 e
  self := fun _ _ s _ _ st h => wpAny_pyIter_zip st.1 h
/-- the heap behind a zip's making -/
abbrev zmA (h : Heap) (c : String) (l : Addr) : Heap := h.push { cls := .type c, data := .fields #[.ref l, .int 0 0] }
abbrev zmB (h : Heap) (c d : String) (l m : Addr) : Heap := zmA (zmA h c l) d m
abbrev zmC (h : Heap) (c d : String) (l m : Addr) : Heap := (zmB h c d l m).push { cls := .type "tuple", data := .seq #[.ref h.objs.size, .ref (zmA h c l).objs.size] }
abbrev zmD (h : Heap) (c d : String) (l m : Addr) : Heap := (zmC h c d l m).push { cls := .type "tuple", data := .seq #[.none, .none] }
abbrev zmE (h : Heap) (c d : String) (l m : Addr) : Heap := (zmD h c d l m).push { cls := .type "zip", data := .fields #[.none, .bool false, .bool false, .ref (zmB h c d l m).objs.size, .ref (zmC h c d l m).objs.size] }
theorem meets_zipTT (l m : Addr) (xs ys : Array Value) : Meets (Builtin.«zip.__new__» ⟨[.type "zip", .ref l, .ref m], []⟩) (fun _ R s => s.heap.IsTuple l xs ∧ s.heap.IsTuple m ys ∧ R (.ok (.ret (.ref (zmD s.heap "tuple_iterator" "tuple_iterator" l m).objs.size))) { s with heap := zmE s.heap "tuple_iterator" "tuple_iterator" l m }) :=
  .of_wp fun prog w A R s h => by
    obtain ⟨hp, g, d, tk, os⟩ := s; obtain ⟨q1, q2, h⟩ := h; have hsub := sub_zip
    have k1 : Heap.IsTuple (Shared.heap ⟨hp, g, d, tk, os⟩) l xs := q1
    have k2 : Heap.IsTuple (Shared.heap ⟨hp.push { cls := .type "tuple_iterator", data := .fields #[.ref l, .int 0 0] }, g, d, tk, os⟩) m ys := by
      obtain ⟨o, e, r⟩ := q2
      exact ⟨o, Heap.get?_push_of_some _ e, r⟩
    wp_walk using wpAny_pyIter_tuple k1, wpAny_pyIter_tuple k2
    exact ⟨_, rfl, h⟩
theorem meets_zipLL (l m : Addr) (xs ys : Array Value) : Meets (Builtin.«zip.__new__» ⟨[.type "zip", .ref l, .ref m], []⟩) (fun _ R s => s.heap.IsList l xs ∧ s.heap.IsList m ys ∧ R (.ok (.ret (.ref (zmD s.heap "list_iterator" "list_iterator" l m).objs.size))) { s with heap := zmE s.heap "list_iterator" "list_iterator" l m }) :=
  .of_wp fun prog w A R s h => by
    obtain ⟨hp, g, d, tk, os⟩ := s; obtain ⟨q1, q2, h⟩ := h; have hsub := sub_zip
    have k1 : Heap.IsList (Shared.heap ⟨hp, g, d, tk, os⟩) l xs := q1
    have k2 : Heap.IsList (Shared.heap ⟨hp.push { cls := .type "list_iterator", data := .fields #[.ref l, .int 0 0] }, g, d, tk, os⟩) m ys := Heap.IsList.push q2 _
    wp_walk using wpAny_pyIter_list k1, wpAny_pyIter_list k2
    exact ⟨_, rfl, h⟩
/-- how a zip of two sequences is made: its five objects -/
def ZMk (c d : String) (P1 P2 : Heap → Prop) (l m : Addr) : Prop := ∀ (prog : Program) (w : World) (A : Around) (E : Value → Shared → Prop) (s : Shared) (Q : Value → Shared → Prop), P1 s.heap → P2 s.heap →
    (∀ h', IsZip h' (s.heap.objs.size + 4) (s.heap.objs.size + 2) (s.heap.objs.size + 3) .none → IsPair h' (s.heap.objs.size + 2) (.ref s.heap.objs.size) (.ref (s.heap.objs.size + 1)) →
      IsPair h' (s.heap.objs.size + 3) .none .none → h'.get? s.heap.objs.size = some { cls := .type c, data := .fields #[.ref l, .int 0 0] } → h'.get? (s.heap.objs.size + 1) = some { cls := .type d, data := .fields #[.ref m, .int 0 0] } →
      (∀ b o, s.heap.get? b = some o → h'.get? b = some o) → Q (.ref (s.heap.objs.size + 4)) { s with heap := h' }) →
    wpAny (model prog w) A (call (.type "zip") [.ref l, .ref m]) Q E s
theorem zmk_of {c d : String} {P1 P2 : Heap → Prop} {l m : Addr} (M : Meets (Builtin.«zip.__new__» ⟨[.type "zip", .ref l, .ref m], []⟩) (fun _ R s => P1 s.heap ∧ P2 s.heap ∧ R (.ok (.ret (.ref (zmD s.heap c d l m).objs.size))) { s with heap := zmE s.heap c d l m })) : ZMk c d P1 P2 l m := by
  intro prog w A E s Q p1 p2 h
  refine callType_new F.called_zip (by decide) (F.typeCall_zip_2 _ _) (F.newCall_zip_2 _ _) (fun ob => F.args_object_init_3 ob _ _) F.entry_zip_new M ⟨p1, p2, ?_⟩
  have e1 : (zmA s.heap c l).objs.size = s.heap.objs.size + 1 := Heap.size_push ..
  have e2 : (zmB s.heap c d l m).objs.size = s.heap.objs.size + 2 := by rw [Heap.size_push, e1]
  have e3 : (zmC s.heap c d l m).objs.size = s.heap.objs.size + 3 := by rw [Heap.size_push, e2]
  have e4 : (zmD s.heap c d l m).objs.size = s.heap.objs.size + 4 := by rw [Heap.size_push, e3]
  have g5 : (zmE s.heap c d l m).get? (zmD s.heap c d l m).objs.size = some _ := Heap.get?_push_size _ rfl
  have g4 : (zmE s.heap c d l m).get? (zmC s.heap c d l m).objs.size = some _ := Heap.get?_push_of_some _ (Heap.get?_push_size _ rfl)
  have g3 : (zmE s.heap c d l m).get? (zmB s.heap c d l m).objs.size = some _ := Heap.get?_push_of_some _ (Heap.get?_push_of_some _ (Heap.get?_push_size _ rfl))
  have g2 : (zmE s.heap c d l m).get? (zmA s.heap c l).objs.size = some _ := Heap.get?_push_of_some _ (Heap.get?_push_of_some _ (Heap.get?_push_of_some _ (Heap.get?_push_size _ rfl)))
  have g1 : (zmE s.heap c d l m).get? s.heap.objs.size = some _ := Heap.get?_push_of_some _ (Heap.get?_push_of_some _ (Heap.get?_push_of_some _ (Heap.get?_push_of_some _ (Heap.get?_push_size _ rfl))))
  show _ ∧ _
  rw [e2, e3, e4] at g5
  rw [e1, e2] at g3
  rw [e3] at g4
  rw [e1] at g2
  rw [e4]
  exact ⟨⟨_, g5, rfl⟩, h _ g5 g3 g4 g1 g2 fun b o x => Heap.get?_push_of_some _ (Heap.get?_push_of_some _ (Heap.get?_push_of_some _ (Heap.get?_push_of_some _ (Heap.get?_push_of_some _ x))))⟩
theorem nin {a b c : Nat} (h1 : a ≠ b) (h2 : a ≠ c) : (a : Addr) ∉ ([b, c] : List Addr) := fun h => by
  rcases List.mem_cons.mp h with e | e
  · exact h1 e
  · exact h2 (List.mem_singleton.mp e)
theorem nne {a b : Nat} (h : a ≠ b) : (a : Addr) ≠ (b : Addr) := h
theorem za_new {n l m : Nat} (h1 : l < n) (h2 : m < n) : ZA (n + 4 : Nat) (n + 2 : Nat) (n + 3 : Nat) n (n + 1 : Nat) [n, l] [(n + 1 : Nat), m] :=
  ⟨List.mem_cons_self, List.mem_cons_self, nin (a := n + 4) (b := n) (c := l) (by omega) (by omega), nin (a := n + 4) (b := n + 1) (c := m) (by omega) (by omega), nin (a := n + 3) (b := n) (c := l) (by omega) (by omega), nin (a := n + 3) (b := n + 1) (c := m) (by omega) (by omega),
    nin (a := n) (b := n + 1) (c := m) (by omega) (by omega), nin (a := n + 1) (b := n) (c := l) (by omega) (by omega), nne (a := n + 2) (b := n + 4) (by omega), nne (a := n + 2) (b := n + 3) (by omega), nne (a := n + 2) (b := n) (by omega), nne (a := n + 2) (b := n + 1) (by omega), nne (a := n + 3) (b := n + 4) (by omega)⟩
end
/-- zip of two sequences -/
def iZip (Sq1 Sq2 : Addr → Hp → List V → Prop) (ta : TA) : TI := fun σ H R => ta σ H fun vs H1 => ∃ a b, vs = [.ref a, .ref b] ∧ (∃ xs, Sq1 a H1 xs) ∧ (∃ ys, Sq2 b H1 ys) ∧ R (ItZ (Sq1 a) (Sq2 b)) H1
abbrev SqTa (K : PySem.W.Frag) : Addr → Hp → List V → Prop := fun a H xs => SqT K H a xs
abbrev SqLa (K : PySem.W.Frag) : Addr → Hp → List V → Prop := fun a H xs => SqL K H a xs
section
variable {X : Cx} {elts : List Expr} {k : Nat} {pos' : Pos} {a b : Expr} {ta : TA} {p pos : Pos}
theorem pi_zipG {Sq1 Sq2 : Addr → Hp → List V → Prop} (hg : Gl X "zip") (hm : X.mg "zip" = none) (ha : PA X [a, b] ta) (hs : starEach [a, b] X.env = [(false, eval a X.env), (false, eval b X.env)]) (hs2 : starEach [b] X.env = [(false, eval b X.env)])
    (hk : ∀ (pins : List (Addr × Obj)) (s : Shared) (σ : St) (H : Hp), Inv X pins σ H s → ∀ u v xs ys, Sq1 u H xs → Sq2 v H ys → u < s.heap.objs.size ∧ v < s.heap.objs.size ∧ ∃ (c d : String) (P1 P2 : Heap → Prop) (I1 I2 : Nat → Heap → Prop), ZMk c d P1 P2 u v ∧ P1 s.heap ∧ P2 s.heap ∧
      ZS X.prog X.w X.K u s.heap.objs.size (Sq1 u) I1 ∧ ZS X.prog X.w X.K v (s.heap.objs.size + 1) (Sq2 v) I2 ∧ (∀ h' : Heap, h'.get? s.heap.objs.size = some { cls := .type c, data := .fields #[.ref u, .int 0 0] } → I1 0 h') ∧ ∀ h' : Heap, h'.get? (s.heap.objs.size + 1) = some { cls := .type d, data := .fields #[.ref v, .int 0 0] } → I2 0 h') :
    PI X (.Tuple elts k pos') (.Call (.Name "zip" p) [a, b] [] pos) (iZip Sq1 Sq2 ta) := by
  intro pins s σ H R I h
  refine Call_ (ld_blt I hg hm boot_zip (PyProof.Rows.callWith_type1 (thn (ha pos pins s σ H _ I h) fun us s1 ⟨vs, H1, I1, r1, q1⟩ => ?_) (by rw [hs, hs2]) (by rw [hs2]; rfl)))
  obtain ⟨u, v, rfl, ⟨xs, hx⟩, ⟨ys, hy⟩, q⟩ := q1
  obtain ⟨u', v', rfl, ru, rv⟩ := vals2 r1
  cases ru
  cases rv
  obtain ⟨lu, lv, c, d, P1, P2, J1, J2, M, p1, p2, W1, W2, j1, j2⟩ := hk pins s1 σ H1 I1 u v xs ys hx hy
  refine M X.prog X.w X.A X.xe s1 _ p1 p2 fun h' z1 z2 z3 z4 z5 kk => wpAny_pyIter_zip z1 ?_
  refine ⟨s1.heap.objs.size + 4, [s1.heap.objs.size + 4, s1.heap.objs.size + 2, s1.heap.objs.size + 3, s1.heap.objs.size, s1.heap.objs.size + 1], _, _, H1, rfl, I1.kept (t' := s1.toks) kk, turn_zip W1 W2 (za_new lu lv) (Nat.ne_of_lt lu) (Nat.ne_of_lt (Nat.lt_succ_of_lt lv)), ⟨z1, z2, ⟨_, _, z3⟩, j1 h' z4, j2 h' z5⟩, fun e he => ?_, q⟩
  have he2 : s1.heap.objs.size ≤ e := by
    simp only [List.mem_cons, List.not_mem_nil, or_false] at he
    rcases he with g | g | g | g | g <;> rw [g] <;> omega
  exact I1.fpOk he2 (I1.hok.fresh he2)
theorem pi_zipTT (K : PySem.W.Frag) (hK : X.K = K) (hg : Gl X "zip") (hm : X.mg "zip" = none) (ha : PA X [a, b] ta) (hs : starEach [a, b] X.env = [(false, eval a X.env), (false, eval b X.env)] := by rfl) (hs2 : starEach [b] X.env = [(false, eval b X.env)] := by rfl) : PI X (.Tuple elts k pos') (.Call (.Name "zip" p) [a, b] [] pos) (iZip (SqTa K) (SqTa K) ta) := by
  subst hK
  refine pi_zipG hg hm ha hs hs2 fun pins s σ H I u v xs ys hx hy => ?_
  obtain ⟨xi, _, px, _⟩ := I.tuple hx
  obtain ⟨yi, _, py, _⟩ := I.tuple hy
  obtain ⟨ox, ex, _⟩ := id px
  obtain ⟨oy, ey, _⟩ := id py
  exact ⟨Heap.lt_size ex, Heap.lt_size ey, _, _, (fun h => h.IsTuple u xi.toArray), (fun h => h.IsTuple v yi.toArray), _, _, zmk_of (meets_zipTT u v xi.toArray yi.toArray), px, py, zs_tup u _, zs_tup v _, fun h' e => ⟨_, e, rfl, rfl⟩, fun h' e => ⟨_, e, rfl, rfl⟩⟩
theorem pi_zipLL (K : PySem.W.Frag) (hK : X.K = K) (hg : Gl X "zip") (hm : X.mg "zip" = none) (ha : PA X [a, b] ta) (hs : starEach [a, b] X.env = [(false, eval a X.env), (false, eval b X.env)] := by rfl) (hs2 : starEach [b] X.env = [(false, eval b X.env)] := by rfl) : PI X (.Tuple elts k pos') (.Call (.Name "zip" p) [a, b] [] pos) (iZip (SqLa K) (SqLa K) ta) := by
  subst hK
  refine pi_zipG hg hm ha hs hs2 fun pins s σ H I u v xs ys hx hy => ?_
  obtain ⟨xi, _, px, _⟩ := I.list hx
  obtain ⟨yi, _, py, _⟩ := I.list hy
  obtain ⟨ox, ex, _⟩ := id px.isList
  obtain ⟨oy, ey, _⟩ := id py.isList
  exact ⟨Heap.lt_size ex, Heap.lt_size ey, _, _, (fun h => h.IsList u xi.toArray), (fun h => h.IsList v yi.toArray), _, _, zmk_of (meets_zipLL u v xi.toArray yi.toArray), px.isList, py.isList, zs_lst u _, zs_lst v _, fun h' e => ⟨_, e, rfl, rfl⟩, fun h' e => ⟨_, e, rfl, rfl⟩⟩
end
/-- a loop over a zip -/
theorem for_zip {Sq1 Sq2 : Hp → List V → Prop} {xs ys : List V} {g : TG} {tb : TS} {D : Ends} {σ : St} {H : Hp} (Pv : Nat → St → Hp → Prop) (hlen : xs.length = ys.length) (h0 : Pv 0 σ H) (hl : ∀ i σ H, i ≤ xs.length → Pv i σ H → Sq1 H xs ∧ Sq2 H ys)
    (hs : ∀ i x y σ H T, xs[i]? = some x → ys[i]? = some y → Pv i σ H → H T = none → g (.ref T) σ (upd H T (.tup [x, y])) fun σ2 H2 => tb { D with nx := Pv (i + 1), ct := Pv (i + 1), bk := D.nx } σ2 H2) (hd : ∀ σ H, Pv xs.length σ H → D.nx σ H) :
    ∃ W : Nat → Nat → St → Hp → Prop, (∃ m, W 0 m σ H) ∧ ∀ i m σ H, W i m σ H →
      ((ItZ Sq1 Sq2).stop i H ∧ D.nx σ H) ∨ ((ItZ Sq1 Sq2).go i H ∧ ∃ N : St → Hp → Prop, (∀ σ' H', N σ' H' → ∃ m', m' < m ∧ W (i + 1) m' σ' H') ∧ ∀ x H', (ItZ Sq1 Sq2).yld i H x H' → g x σ H' fun σ2 H2 => tb { D with nx := N, ct := N, bk := D.nx } σ2 H2) := by
  refine ⟨fun i m σ H => m = xs.length - i ∧ i ≤ xs.length ∧ Pv i σ H, ⟨xs.length, by simp, Nat.zero_le _, h0⟩, ?_⟩
  rintro i m σ H ⟨rfl, hi, p⟩
  obtain ⟨q1, q2⟩ := hl i σ H hi p
  by_cases hlt : i < xs.length
  · have hlt2 : i < ys.length := by omega
    refine .inr ⟨⟨xs, ys, xs[i], ys[i], q1, q2, by simp [hlt], by simp [hlt2]⟩, Pv (i + 1), fun σ' H' p' => ⟨xs.length - (i + 1), by omega, rfl, hlt, p'⟩, fun x H' y => ?_⟩
    obtain ⟨T, u, v, hu, hv, rfl, hn, rfl⟩ := y
    exact hs i u v σ _ T (hu xs q1) (hv ys q2) p hn
  · have e : i = xs.length := by omega
    subst e
    exact .inl ⟨⟨xs, q1, ⟨ys, q2⟩, rfl⟩, hd σ H p⟩
/-- a comprehension over a zip -/
theorem comp_zip {Sq1 Sq2 : Hp → List V → Prop} {xs ys : List V} {σc : St} {g : TG} {tc : TT} {te : TE} {Q : VK} {H1 : Hp} (Pv : Nat → List V → Hp → Prop) (hlen : xs.length = ys.length) (hn : xs.length < sizeLine) (hl : ∀ i acc H, Pv i acc H → Sq1 H xs ∧ Sq2 H ys) (h0 : Pv 0 [] H1)
    (hs : ∀ (i : Nat) (x y : V) (acc : List V) (H : Hp) (T : Addr) (Nx : List V → Hp → Prop), xs[i]? = some x → ys[i]? = some y → acc.length ≤ i → Pv i acc H → H T = none → (∀ acc' H', acc'.length ≤ i + 1 → Pv (i + 1) acc' H' → Nx acc' H') →
      g (.ref T) σc (upd H T (.tup [x, y])) fun σ2 H2 => Wk σc σ2 ∧ tc σ2 H2 fun b H3 => if b = true then te σ2 H3 fun v H4 => Nx (acc ++ [v]) H4 else Nx acc H3)
    (hd : ∀ acc H D, acc.length ≤ xs.length → Pv xs.length acc H → H D = none → Q (.ref D) (upd H D (.lst acc))) : CompW (ItZ Sq1 Sq2) σc g tc te Q H1 := by
  refine ⟨fun i m acc H => m = xs.length - i ∧ i ≤ xs.length ∧ acc.length ≤ i ∧ Pv i acc H, ⟨xs.length, by simp, Nat.zero_le _, Nat.le_refl _, h0⟩, ?_⟩
  rintro i m acc H ⟨rfl, hi, hl', p⟩
  obtain ⟨q1, q2⟩ := hl i acc H p
  refine ⟨by omega, ?_⟩
  by_cases hlt : i < xs.length
  · have hlt2 : i < ys.length := by omega
    refine .inr ⟨⟨xs, ys, xs[i], ys[i], q1, q2, by simp [hlt], by simp [hlt2]⟩, fun x H' y => ?_⟩
    obtain ⟨T, u, v, hu, hv, rfl, hT, rfl⟩ := y
    exact hs i u v acc _ T (fun acc' H' => ∃ m', m' < xs.length - i ∧ (m' = xs.length - (i + 1) ∧ i + 1 ≤ xs.length ∧ acc'.length ≤ i + 1 ∧ Pv (i + 1) acc' H')) (hu xs q1) (hv ys q2) hl' p hT fun acc' H' h1 h2 => ⟨xs.length - (i + 1), by omega, rfl, hlt, h1, h2⟩
  · have e : i = xs.length := by omega
    subst e
    exact .inl ⟨⟨xs, q1, ⟨ys, q2⟩, rfl⟩, fun D hD => hd acc H D hl' p hD⟩
end L2
/-! ### list.remove(data) -/
namespace L2
open PySem PySem.Spec PyProof.Rows PySem.MeetsSeq PySem.SeqAt
theorem rem_loop (p : Addr) (av : Array Value) (c : Nat) (x : Value) (f : Value → Bool) (j : Nat) (hj : j < av.size) (yes : f av[j] = true) (k : Nat) (hz : av.size ≤ sizeLine) :
    ∀ i : Nat, j - i = k → i ≤ j → (∀ m (hm : m < av.size), i ≤ m → m < j → f av[m] = false) → Meets (Builtin.«list.remove.loop» ⟨[.ref p, x, rawInt i], []⟩)
      (fun A R s => s.heap.get? p = some { cls := .type "list", dict := none, data := .seq av c, slots := #[] } ∧ (∀ y, y ∈ av → EqAt A.in1 s y x (f y)) ∧ R (.ok (.ret .none)) { s with heap := s.heap.update p (Obj.mapSeq fun xs => xs.eraseIdxIfInBounds j) }) := by
  induction k with
  | zero =>
    intro i hk hij no prog w A R s h
    obtain ⟨hp, g, d, tk, os⟩ := s; obtain ⟨q1, q2, h⟩ := h
    have e0 : i = j := by omega
    subst e0
    wp_walk using wpAny_loadPart' q1
    have e1 : av[((i : Nat) : Int).toNat]? = some av[i] := by simp [hj]
    rw [e1]
    refine wpAny_bind (q2 _ (Array.getElem_mem hj) prog w _ _ ?_); rw [yes]
    have z2 : (av.eraseIdxIfInBounds i).size ≤ sizeLine + 1 := Nat.le_trans (size_erased av _) (Nat.le_succ_of_le hz)
    wp_walk using (wpAny_updateSeq q1 rfl (hz := hz) (_hz' := z2)), wpAny_loadPart' q1
    simpa using h
  | succ k ih =>
    intro i hk hij no prog w A R s h
    obtain ⟨hp, g, d, tk, os⟩ := s; obtain ⟨q1, q2, h⟩ := h
    have lt : i < av.size := by omega
    wp_walk using wpAny_loadPart' q1
    have e1 : av[((i : Nat) : Int).toNat]? = some av[i] := by simp [lt]
    have e2 : ((i : Int) + 1) = ((i + 1 : Nat) : Int) := by push_cast; rfl
    rw [e1]
    refine wpAny_bind (q2 _ (Array.getElem_mem lt) prog w _ _ ?_); rw [no i lt (Nat.le_refl _) (by omega)]
    wp_walk
    rw [e2]
    exact ⟨plainId_quiet plain_remove_loop _, codeAny_builtin entry_remove_loop (by rw [Around.under_plainId plain_remove_loop _]; exact ih (i + 1) (by omega) (by omega) (fun m hm h1 h2 => no m hm (by omega) h2) prog w A R _ ⟨q1, q2, h⟩)⟩
theorem rem_list (p : Addr) (av : Array Value) (c : Nat) (x : Value) (f : Value → Bool) (j : Nat) (hj : j < av.size) (yes : f av[j] = true) (no : ∀ m (hm : m < av.size), m < j → f av[m] = false) (hz : av.size ≤ sizeLine) :
    Meets (Builtin.«list.remove» ⟨[.ref p, x], []⟩) (fun A R s => s.heap.get? p = some { cls := .type "list", dict := none, data := .seq av c, slots := #[] } ∧ (∀ y, y ∈ av → EqAt A.in1 s y x (f y)) ∧ R (.ok (.ret .none)) { s with heap := s.heap.update p (Obj.mapSeq fun xs => xs.eraseIdxIfInBounds j) }) := by
  intro prog w A R s h
  obtain ⟨hp, g, d, tk, os⟩ := s; obtain ⟨q1, q2, h⟩ := h
  wp_walk using wpAny_loadPart' q1
  exact ⟨plainId_quiet plain_remove_loop _, codeAny_builtin entry_remove_loop (by rw [Around.under_plainId plain_remove_loop _]; exact rem_loop p av c x f j hj yes _ hz 0 rfl (Nat.zero_le _) (fun m hm _ h2 => no m hm h2) prog w A R _ ⟨q1, q2, h⟩)⟩
section
variable {X : Cx}
def rRemD (K : PySem.W.Frag) : V → List V → Hp → VK → Prop := fun x vs H Q => ∃ (p : Addr) (xs : List V) (v : V) (ds : List PyData) (d : PyData) (j : Nat), x = .ref p ∧ vs = [v] ∧ H p = some (.lst xs) ∧ RdDs K H xs ds ∧ RdD K H v d ∧ (PyData.canLayAll0 ds = true ∧ d.canLay0 = true) ∧ d.depth ≤ 60 ∧
  (∃ e, ds[j]? = some e ∧ PyData.eqv e d = true) ∧ (∀ m e, m < j → ds[m]? = some e → PyData.eqv e d = false) ∧ Q .non (upd H p (.lst (xs.eraseIdx j)))
theorem mt_remD {k : Nat} (K : PySem.W.Frag) (h : X.K = K) (hr : Room k X.A) : MtM X "list.remove" (rRemD K) := by
  subst h
  intro pins s σ H x vs v us Q I rx rv h
  obtain ⟨p, xs, y, ds, d, j, rfl, rfl, hH, rs, rd, ⟨l1, l2⟩, dp, ⟨ej, hej, yj⟩, no, q⟩ := h
  cases rx
  obtain ⟨u, rfl, ru⟩ := rv.one
  obtain ⟨z, its, n, r, hl, e⟩ := I.lstM hH
  obtain ⟨as, ra⟩ := rd.reads I ru
  obtain ⟨bs, rb⟩ := rs.reads I r
  have hu := hr.units
  have hm : min (PyData.depthAll ds) d.depth ≤ 60 := Nat.le_trans (Nat.min_le_right _ _) dp
  have hmap : its.map (readOf s.heap) = ds := readsAll_map ds its bs l1 rb
  have hat : ∀ m (hm : m < its.toArray.size) (g : PyData), ds[m]? = some g → PyData.eqv (readOf s.heap its.toArray[m]) d = PyData.eqv g d := fun m hm g hg => by
    rw [← hmap, List.getElem?_map] at hg
    have hm2 : m < its.length := by rw [List.size_toArray] at hm; exact hm
    rw [List.getElem?_eq_getElem hm2] at hg
    have := Option.some.inj hg
    rw [List.getElem_toArray, this]
  have hlen : ds.length = its.length := by rw [← hmap, List.length_map]
  have hj : j < its.toArray.size := by rw [List.size_toArray, ← hlen]; exact (List.getElem?_eq_some_iff.mp hej).1
  refine call_meets F.slot_list_remove ⟨_, e, rfl⟩ F.entry_list_remove (F.args_list_remove_2 _ _)
    (rem_list p its.toArray n u (fun w => PyData.eqv (readOf s.heap w) d) j hj (by rw [hat j hj ej hej]; exact yj) (fun m hm h2 => ?_) (by rw [List.size_toArray, ← hl]; exact z)) ⟨e, ?_, ?_⟩
  · have hm2 : m < ds.length := by rw [hlen]; rw [List.size_toArray] at hm; exact hm
    rw [hat m hm ds[m] (List.getElem?_eq_getElem hm2)]
    exact no m _ h2 (List.getElem?_eq_getElem hm2)
  · exact items_eqAt (by simpa using rb) ra l1 l2 (by omega)
  · refine ⟨.non, _, I.lset (its' := its.eraseIdx j) hH e ?_ (r.eraseIdx j) ?_, rfl, q⟩
    · show its.toArray.eraseIdxIfInBounds j = (its.eraseIdx j).toArray
      rw [List.eraseIdxIfInBounds_toArray]
    · have := len_erase xs j
      omega
end
end L2
/-! ### a comprehension within another one: its own names may be cells -/
namespace L2
open PySem PySem.Spec PyProof.Rows
theorem cf_from {x : Str} {c : Addr} : ∀ (names : List (Str × NameKind)) (n : Nat) (acc : List (Str × Addr)), (cellsFrom n names acc).lookup x = some c → n ≤ c ∨ acc.lookup x = some c
  | [], _, _, h => .inr h
  | (y, k) :: r, n, acc, h => by
    unfold cellsFrom at h
    by_cases hk : (k == .cell) = true
    · rw [if_pos hk] at h
      rcases cf_from r (n + 1) _ h with z | z
      · exact .inl (by omega)
      · rw [List.lookup_cons] at z
        cases hy : (x == y) with
        | true => rw [hy] at z; exact .inl (Nat.le_of_eq (Option.some.inj z))
        | false => rw [hy] at z; exact .inr z
    · rw [if_neg hk] at h
      exact cf_from r n _ h
theorem cf_cab {x : Str} {c : Addr} : ∀ (names : List (Str × NameKind)) (n : Nat) (acc : List (Str × Addr)), names.lookup x = some .cell → (cellsFrom n names acc).lookup x = some c → n ≤ c
  | [], _, _, h, _ => by simp at h
  | (y, k) :: r, n, acc, h, e => by
    rw [List.lookup_cons] at h
    unfold cellsFrom at e
    cases hy : (x == y) with
    | true =>
      rw [hy] at h
      have hk : k = .cell := Option.some.inj h
      subst hk
      rw [if_pos (by decide)] at e
      rcases cf_from r (n + 1) _ e with z | z
      · omega
      · rw [List.lookup_cons, hy] at z
        exact Nat.le_of_eq (Option.some.inj z)
    | false =>
      rw [hy] at h
      by_cases hk : (k == .cell) = true
      · rw [if_pos hk] at e
        have := cf_cab r (n + 1) _ h e
        omega
      · rw [if_neg hk] at e
        exact cf_cab r n _ h e
theorem cf_out {x : Str} : ∀ (names : List (Str × NameKind)) (n : Nat) (acc : List (Str × Addr)), (∀ y ∈ names, y.2 = .cell → y.1 ≠ x) → (cellsFrom n names acc).lookup x = acc.lookup x
  | [], _, _, _ => rfl
  | (y, k) :: r, n, acc, h => by
    have hr : ∀ y ∈ r, y.2 = .cell → y.1 ≠ x := fun z hz => h z (List.mem_cons_of_mem _ hz)
    unfold cellsFrom
    by_cases hk : (k == .cell) = true
    · rw [if_pos hk, cf_out r (n + 1) _ hr, List.lookup_cons]
      have hne : y ≠ x := h (y, k) List.mem_cons_self (by simpa using hk)
      have : (x == y) = false := beq_eq_false_iff_ne.mpr (Ne.symm hne)
      rw [this]
    · rw [if_neg hk]
      exact cf_out r n _ hr
theorem cf_inj : ∀ (names : List (Str × NameKind)) (n : Nat) (acc : List (Str × Addr)), (∀ x c, acc.lookup x = some c → c < n) → (∀ x y c, acc.lookup x = some c → acc.lookup y = some c → x = y) → ∀ x y c, (cellsFrom n names acc).lookup x = some c → (cellsFrom n names acc).lookup y = some c → x = y
  | [], _, _, _, h => h
  | (z, k) :: r, n, acc, h1, h2 => by
    unfold cellsFrom
    by_cases hk : (k == .cell) = true
    · rw [if_pos hk]
      refine cf_inj r (n + 1) _ (fun x c e => ?_) fun x y c e1 e2 => ?_
      · rw [List.lookup_cons] at e
        cases hy : (x == z) with
        | true => rw [hy] at e; rw [← Option.some.inj e]; exact Nat.lt_succ_self _
        | false => rw [hy] at e; exact Nat.lt_succ_of_lt (h1 x c e)
      · rw [List.lookup_cons] at e1 e2
        cases hx : (x == z) with
        | true =>
          rw [hx] at e1
          have q1 := Option.some.inj e1
          cases hy : (y == z) with
          | true => rw [beq_iff_eq.mp hx, beq_iff_eq.mp hy]
          | false => rw [hy] at e2; exact absurd (h1 y c e2) (by rw [← q1]; exact Nat.lt_irrefl _)
        | false =>
          rw [hx] at e1
          cases hy : (y == z) with
          | true => rw [hy] at e2; have q2 := Option.some.inj e2; exact absurd (h1 x c e1) (by rw [← q2]; exact Nat.lt_irrefl _)
          | false => rw [hy] at e2; exact h2 x y c e1 e2
    · rw [if_neg hk]
      exact cf_inj r n _ h1 h2
theorem cf_cell : ∀ (names : List (Str × NameKind)) (h : Heap) (acc : List (Str × Addr)), (∀ x c, acc.lookup x = some c → ∃ v, h.IsCell c v) → ∀ x c, (cellsFrom h.objs.size names acc).lookup x = some c → ∃ v, (pushCells h names).IsCell c v
  | [], _, _, h => h
  | (z, k) :: r, h, acc, ha => by
    unfold cellsFrom pushCells
    by_cases hk : (k == .cell) = true
    · rw [if_pos hk, if_pos hk]
      have := cf_cell r (h.push { cls := .type "cell", data := .cell none }) ((z, h.objs.size) :: acc) fun x c e => by
        rw [List.lookup_cons] at e
        cases hy : (x == z) with
        | true =>
          rw [hy] at e
          rw [← Option.some.inj e]
          exact ⟨none, _, Heap.get?_push_size _ rfl, rfl⟩
        | false =>
          rw [hy] at e
          obtain ⟨v, o, ho, hd⟩ := ha x c e
          exact ⟨v, o, Heap.get?_push_of_some _ ho, hd⟩
      rw [Heap.size_push] at this
      exact this
    · rw [if_neg hk, if_neg hk]
      exact cf_cell r h acc ha
theorem relabel_back2 {env : Env} : ∀ {names : List (Str × NameKind)} {x : Str},
    ((names.map fun (n, k) => if (k == NameKind.free && env.scope.kind == .function && env.kindOf n == some .cell) then (n, NameKind.cell) else (n, k)).lookup x = some .cell ∨
     (names.map fun (n, k) => if (k == NameKind.free && env.scope.kind == .function && env.kindOf n == some .cell) then (n, NameKind.cell) else (n, k)).lookup x = some .free) → names.lookup x = some .free ∨ names.lookup x = some .cell
  | [], _, h => by simp at h
  | (n, k) :: r, x, h => by
    have ih := @relabel_back2 env r x
    have h' : (List.lookup x ((if (k == NameKind.free && env.scope.kind == .function && env.kindOf n == some .cell) = true then (n, NameKind.cell) else (n, k)) :: (r.map fun (n, k) => if (k == NameKind.free && env.scope.kind == .function && env.kindOf n == some .cell) then (n, NameKind.cell) else (n, k))) = some .cell ∨ List.lookup x ((if (k == NameKind.free && env.scope.kind == .function && env.kindOf n == some .cell) = true then (n, NameKind.cell) else (n, k)) :: (r.map fun (n, k) => if (k == NameKind.free && env.scope.kind == .function && env.kindOf n == some .cell) then (n, NameKind.cell) else (n, k))) = some .free) := h
    cases hx : x == n with
    | true =>
      rw [List.lookup_cons, hx]
      by_cases hc : (k == NameKind.free && env.scope.kind == .function && env.kindOf n == some .cell) = true
      · have : (k == NameKind.free) = true := by
          rw [Bool.and_eq_true, Bool.and_eq_true] at hc; exact hc.1.1
        have hk' : k = .free := by simpa using this
        rw [hk']; exact .inl rfl
      · rw [if_neg hc] at h'
        simp only [List.lookup_cons, hx] at h'
        exact h'.symm
    | false =>
      rw [List.lookup_cons, hx]
      by_cases hc : (k == NameKind.free && env.scope.kind == .function && env.kindOf n == some .cell) = true
      · rw [if_pos hc] at h'; simp only [List.lookup_cons, hx] at h'; exact ih h'
      · rw [if_neg hc] at h'; simp only [List.lookup_cons, hx] at h'; exact ih h'
theorem wpAny_newCompEnv {M : Model} {A : Around} {E : Value → Shared → Prop} {s : Shared} {scope : Scope} {globals : Addr} {closure : List (Str × Addr)} {qual : Str} {func : Option Addr} {code : Value} {outer : Env} {builtins : Addr} {Q : Env → Shared → Prop}
    (hQ : Q (newEnv scope s.heap.objs.size globals (cellsFrom (s.heap.objs.size + 1) scope.names closure) qual func code (some outer) builtins) { s with heap := pushCells (s.heap.push { cls := .type "dict", data := .dict #[] }) scope.names }) :
    wpAny M A (newFunctionEnv scope globals closure [] qual func code (some outer) builtins) Q E s := by
  simp only [newFunctionEnv, Option.isSome_some, if_true]
  refine wpAny_bind (wpAny_alloc ?_)
  refine wpAny_bind (wpAny_layCells _ (fun name kind cells => by cases hkc : kind == NameKind.cell <;> simp [hkc]) _ _ _ _ ?_)
  rw [show ({ s with heap := s.heap.push { cls := .type "dict", data := .dict #[] } } : Shared).heap.objs.size = s.heap.objs.size + 1 from Heap.size_push ..]
  refine wpAny_bind ?_
  rw [List.forIn_nil]
  exact wpAny_pure (wpAny_pure hQ)
/-- the cells of a block: its own names', and those of the def around -/
def ccOf (X : Cx) (scope : Scope) (C : Addr) : List (Str × Addr) := cellsFrom (C + 1) scope.names (clOf X.env scope.names [])
def isCl (scope : Scope) (x : Str) : Bool := scope.names.lookup x == some .cell
def cxCompN (X : Cx) (scope : Scope) (C : Addr) (Nc : List Str) (s : Shared) (H : Hp) (fp : List Addr) : Cx where
  prog := X.prog
  w := X.w
  K := X.K
  mg := X.mg
  base := X.base
  A := X.A
  N := Nc
  s₀ := s
  H₀ := H
  env := compEnvC scope (ccOf X scope C) C X.env
  outer := X.stack
  stack := X.stack
  ex := fp
  fn := isCl scope
  calm := X.calm
  pn := []
  xe := noE
theorem comp_startN {X : Cx} {pins : List (Addr × Obj)} {σ : St} {H : Hp} {s : Shared} (I : Inv X pins σ H s) {scope : Scope} {Nc : List Str} {ix : List (Option Nat)} (hix : IxOk X scope Nc ix) (hcell : ∀ y ∈ scope.names, y.2 = .cell → scope.names.lookup y.1 = some .cell)
    (hkind : scope.kind = .function) (hfr : ∀ y ∈ scope.names, y.2 = .free → X.env.kindOf y.1 = some .cell ∨ X.env.kindOf y.1 = some .free) {fp : List Addr} (hf : ∀ b ∈ fp, FpOk X pins H b) (hfo : ∀ b ∈ fp, ∃ o, s.heap.get? b = some o)
    {C : Addr} {h' : Heap} {t' : Nat} {m0 : Str → Option Value} (hC : s.heap.objs.size ≤ C) (hns : h'.Ns C m0) (hcl : ∀ x c, (ccOf X scope C).lookup x = some c → ∃ v, h'.IsCell c v) (k : ∀ b o, s.heap.get? b = some o → h'.get? b = some o) :
    Inv (cxCompN X scope C Nc s H fp) [] (subSt σ ix) H { s with heap := h', toks := t' } := by
  have hfc : ∀ y ∈ scope.names, y.2 = .free → ∃ c, X.env.cells.lookup y.1 = some c := fun y hy e => I.ok.has y.1 (hfr y hy e)
  have from_ : ∀ {x : Str} {c : Addr}, (clOf X.env scope.names []).lookup x = some c → X.env.cells.lookup x = some c := fun {x c} e => clOf_from scope.names [] (fun y d q => by simp at q) e
  have frC : ∀ {x : Str} {c : Addr}, (ccOf X scope C).lookup x = some c → C < c ∨ X.env.cells.lookup x = some c := fun {x c} e => (cf_from scope.names (C + 1) _ e).imp (fun z => z) fun z => from_ z
  have oldC : ∀ {x : Str} {c : Addr}, X.env.cells.lookup x = some c → c < s.heap.objs.size := fun {x c} e => (I.cell x c e).elim fun v q => q.lt
  refine ⟨⟨I.ok.mod, hkind, I.ok.glob, I.ok.blt, hC, fun x y c h1 h2 => (cf_inj scope.names (C + 1) _ (fun x c e => Nat.lt_succ_of_lt (Nat.lt_of_lt_of_le (oldC (from_ e)) hC)) (fun x y c e1 e2 => I.ok.inj x y c (from_ e1) (from_ e2))) x y c h1 h2, fun x hx => ?_, fun x c h => ?_, I.ok.hd, I.ok.frames, .inl rfl, fun b hb => ?_, I.bs, Nat.le_trans I.ok.bsz I.sz, fun b o e hb => ?_, fun b hb hs => ?_, I.stack, I.stkFree⟩,
    rfl, I.bare, Un.kept k, ⟨m0, hns, fun i x v h1 h2 h3 => ?_⟩, fun x c e => ?_, I.hok.fresh hC, fun x c e => (frC e).elim (fun z => I.hok.fresh (Nat.le_trans hC (Nat.le_of_lt z))) (fun z => I.freeC x c z), fun p hp => absurd (show p ∈ ([] : List (Addr × Obj)) from hp) (by simp), I.hok.kept k, ?_⟩
  · have q : ((ccOf X scope C).lookup x).isSome = true := by
      rcases relabel_back2 hx with hx' | hx'
      · obtain ⟨c, hc⟩ := clOf_has scope.names [] hfc hx'
        exact PySem.W.cellsFrom_some scope.names (C + 1) _ (.inr (by rw [hc]; rfl))
      · exact PySem.W.cellsFrom_some scope.names (C + 1) _ (.inl hx')
    exact Option.isSome_iff_exists.mp q
  · intro e
    have h' : scope.names.lookup x = some .cell := by simpa [cxCompN, isCl] using h
    exact Nat.le_trans hC (Nat.le_of_lt (cf_cab scope.names (C + 1) _ h' e))
  · obtain ⟨o, ho⟩ := hfo b hb
    refine ⟨Nat.ne_of_lt (Nat.lt_of_lt_of_le (Heap.lt_size ho) hC), fun x c e => ?_⟩
    rcases frC e with z | z
    · exact Nat.ne_of_gt (Nat.lt_of_le_of_lt hC (Nat.lt_of_le_of_lt (Nat.le_refl _) z) |> Nat.lt_trans (Heap.lt_size ho))
    · exact (hf b hb).2.2.2.2.1 x c z
  · rcases (hf b hb).2.2.2.1 with z | z
    · exact I.ok.noex b o e z
    · exact absurd (Nat.lt_of_lt_of_le (Heap.lt_size e) (Nat.le_trans I.ok.bsz z)) (Nat.lt_irrefl _)
  · rcases List.mem_cons.mp (I.stkSub b hs) with z | z
    · exact (hf b hb).2.1 z
    · exact (hf b hb).2.2.1 z
  · obtain ⟨j, e1, e2⟩ := subSt_get h2
    obtain ⟨y, y1, y2, y3, y4⟩ := hix.get e1
    have h1' : Nc[i]? = some x := h1
    rw [y1] at h1'
    cases h1'
    obtain ⟨m, hn, hl⟩ := I.loc
    have hv : Vis X.env.scope x := by
      rcases y4 with z | z
      · exact .inr (.inl z)
      · exact .inr (.inr z)
    obtain ⟨u, r, l⟩ := hl j x v y2 e2 hv
    refine ⟨u, r, .inr ⟨relabel_free y3, ?_⟩⟩
    rcases l with ⟨l, _⟩ | ⟨_, c, hc, q⟩
    · rcases y4 with z | z
      · rw [z] at l; cases l
      · rw [z] at l; cases l
    · obtain ⟨c', hc'⟩ := clOf_has scope.names [] hfc y3
      have e := from_ hc'
      rw [hc] at e
      cases e
      obtain ⟨o, ho, hd⟩ := q
      exact ⟨c, (cf_out scope.names (C + 1) _ fun y hy e z => by rw [← z, hcell y hy e] at y3; cases y3).trans hc', o, k _ _ ho, hd⟩
  · exact hcl x c e
  · show (subSt σ ix).length = Nc.length
    unfold subSt
    rw [List.length_map]
    exact hix.len

theorem comp_exitN {X : Cx} {pins pins' : List (Addr × Obj)} {σ σ' : St} {H H' : Hp} {s s' : Shared} (I : Inv X pins σ H s) {scope : Scope} {Nc : List Str} {fp : List Addr} {C D : Addr} (J : Inv (cxCompN X scope C Nc s H fp) pins' σ' H' s')
    (hf : ∀ b ∈ fp, FpOk X pins H b) (hD : s.heap.objs.size ≤ D) (hC : s.heap.objs.size ≤ C) (hDC : D ≠ C) {its : List Value} {n : Nat} {acc : List V} (eD : s'.heap.get? D = some { cls := .type "list", data := .seq its.toArray n }) (r : Vals acc its)
    (hz : acc.length ≤ sizeLine) (nD : H' D = none) {oC : Obj} (eC : s'.heap.get? C = some oC) (dC : ∀ v, oC.data ≠ .cell v) : Inv X (pins ++ [(C, oC)]) σ (upd H' D (.lst acc)) s' := by
  have lt : ∀ b o, s.heap.get? b = some o → b ≠ D := fun b o e => Nat.ne_of_lt (Nat.lt_of_lt_of_le (Heap.lt_size e) hD)
  have U : Un (frs X.stack) fp H H' s.heap s'.heap := J.base
  have U' : Un (frs X.stack) fp H (upd H' D (.lst acc)) s.heap s'.heap :=
    ⟨U.keep, U.slot, fun b o e n hx => by rw [upd_ne (lt b o e)]; exact U.free b o e n hx, U.there, fun b xs e => by rw [upd_ne (ne_of_none (U.tups b xs e) nD)]; exact U.tups b xs e,
      fun b o u e => by rw [upd_ne (ne_of_none (U.frzs b o u e) nD)]; exact U.frzs b o u e, fun b ps e => by
        obtain ⟨more, q⟩ := U.tbls b ps e
        exact ⟨more, by rw [upd_ne (ne_of_none q nD)]; exact q⟩⟩
  have hok : HOk X.prog X.w (upd H' D (.lst acc)) s'.heap := fun b u e => by
    by_cases hb : b = D
    · subst hb
      rw [upd_same] at e; cases e
      exact ⟨hz, its, n, r, eD⟩
    · rw [upd_ne hb] at e
      exact (J.hok b u e).stay (fun c v _ q => q) (fun c q => by rw [upd_ne (ne_of_none q nD)]; exact q) fun c xs q => by rw [upd_ne (ne_of_none q nD)]; exact q
  have I' : Inv X pins σ (upd H' D (.lst acc)) s' := I.call' (ch := fp) J.os U' hok J.bare fun b hb => by
    obtain ⟨_, h1, _, h2, h3, h4⟩ := hf b hb
    exact ⟨h2, h1, h3, h4⟩
  refine I'.pins_of fun p hp => ?_
  rcases List.mem_append.mp hp with z | z
  · exact I'.pin p (List.mem_append_right _ z)
  · have e : p = (C, oC) := List.mem_singleton.mp z
    subst e
    refine ⟨eC, ?_, Nat.ne_of_gt (Nat.lt_of_lt_of_le I.lt hC), I.nofs hC, dC⟩
    rw [upd_ne (Ne.symm hDC)]
    exact J.free

theorem comp_coreN {X : Cx} {tg iter elt : Expr} {ifs : List Expr} {scope : Scope} {pos : Pos} {wi : TI} {g : TG} {tc : TT} {te : TE} {Nc : List Str} {ix : List (Option Nat)} (hi : PI X tg iter wi) (hcalm : X.calm = true) (hix : IxOk X scope Nc ix)
    (hcell : ∀ y ∈ scope.names, y.2 = .cell → scope.names.lookup y.1 = some .cell) (hkind : scope.kind = .function) (hfr : ∀ y ∈ scope.names, y.2 = .free → X.env.kindOf y.1 = some .cell ∨ X.env.kindOf y.1 = some .free)
    (hG : ∀ C s H fp, PG (cxCompN X scope C Nc s H fp) tg g) (hT : ∀ C s H fp, PF (cxCompN X scope C Nc s H fp) ifs tc) (hE : ∀ C s H fp, PE (cxCompN X scope C Nc s H fp) elt te)
    {pins : List (Addr × Obj)} {s : Shared} {σ : St} {H : Hp} {Q : VK} (I : Inv X pins σ H s) (h : tComp wi ix g tc te σ H Q) {RR : Value → Addr → Result → Shared → Prop}
    (hRR : ∀ (D C : Addr) (oC : Obj) (m : Str → Option Value) (H' : Hp) (s' : Shared), s'.heap.get? C = some oC → s'.heap.Ns C m → FpOk X pins H' C → Inv X (pins ++ [(C, oC)]) σ H' s' → Q (.ref D) H' → RR (.ref D) C (.ok .next) s') :
    wpAny (model X.prog X.w) X.A (eval iter X.env) (fun v s1 => wpAny (model X.prog X.w) X.A (pyIter v) (fun it s2 => wpAny (model X.prog X.w) X.A (newList []) (fun acc s3 =>
      wpAny (model X.prog X.w) X.A (newFunctionEnv scope X.env.globals (clOf X.env scope.names []) [] X.env.qual none .none (some X.env)) (fun cenv s4 =>
        codeAny (model X.prog X.w) X.A (.compStart (.ListComp elt [⟨tg, iter, ifs, 0⟩] scope pos) 0 it acc { cenv with scope := relabel scope X.env }) (RR acc cenv.locals) s4) X.xe s3) X.xe s2) X.xe s1) X.xe s := by
  refine thn (hi pins s σ H _ I h) fun v s1 h1 => thn h1 fun itv s2 h2 => ?_
  obtain ⟨it, fp, tn, J, H2, e, I2, T, st2, f2, W, ⟨m0, w0⟩, turn⟩ := h2
  subst e
  refine wpAny_newObj_type (wpAny_newCompEnv ?_)
  dsimp only
  generalize hH2 : s2.heap.push { cls := .type "list", dict := none, data := .seq ([] : List Value).toArray } = P2
  have hC : P2.objs.size = s2.heap.objs.size + 1 := by rw [← hH2, Heap.size_push]
  have hDC : s2.heap.objs.size ≠ P2.objs.size := by rw [hC]; exact Nat.ne_of_lt (Nat.lt_succ_self _)
  have hCle : s2.heap.objs.size ≤ P2.objs.size := by rw [hC]; exact Nat.le_succ _
  have neC : ∀ b, b < s2.heap.objs.size → b ≠ P2.objs.size := fun b hb => by rw [hC]; exact Nat.ne_of_lt (Nat.lt_succ_of_lt hb)
  have kp : ∀ b o, P2.get? b = some o → (pushCells (P2.push { cls := .type "dict", data := .dict #[] }) scope.names).get? b = some o := fun b o e => pushCells_keeps _ _ b o (Heap.get?_push_of_some _ e)
  have old : ∀ b o, s2.heap.get? b = some o → (pushCells (P2.push { cls := .type "dict", data := .dict #[] }) scope.names).get? b = some o := fun b o e => kp b o (hH2 ▸ Heap.get?_push_of_some _ e)
  have hacc : (pushCells (P2.push { cls := .type "dict", data := .dict #[] }) scope.names).get? s2.heap.objs.size = some { cls := .type "list", data := .seq ([] : List Value).toArray } := kp _ _ (hH2 ▸ Heap.get?_push_size _ rfl)
  have hns₁ : (pushCells (P2.push { cls := .type "dict", data := .dict #[] }) scope.names).Ns P2.objs.size fun _ => none := (Heap.Ns.new P2 (.type "dict")).keeps (pushCells_keeps _ _)
  have from0 : ∀ {x : Str} {c : Addr}, (clOf X.env scope.names []).lookup x = some c → X.env.cells.lookup x = some c := fun {x c} e => clOf_from scope.names [] (fun y d q => by simp at q) e
  have hcl : ∀ x c, (ccOf X scope P2.objs.size).lookup x = some c → ∃ v, (pushCells (P2.push { cls := .type "dict", data := .dict #[] }) scope.names).IsCell c v := by
    have q := cf_cell scope.names (P2.push { cls := .type "dict", data := .dict #[] }) (clOf X.env scope.names []) fun x c e => by
      obtain ⟨v, o, ho, hd⟩ := I2.cell x c (from0 e)
      exact ⟨v, o, Heap.get?_push_of_some _ (hH2 ▸ Heap.get?_push_of_some _ ho), hd⟩
    rw [Heap.size_push] at q
    exact q
  generalize hh1 : pushCells (P2.push { cls := .type "dict", data := .dict #[] }) scope.names = h₁ at kp old hacc hns₁ hcl
  have st₁ : tn 0 h₁ := T.keep 0 _ _ st2 fun b _ o e => old b o e
  have hfo : ∀ b ∈ fp, ∃ o, s2.heap.get? b = some o := fun b hb => let ⟨o, e, _⟩ := T.obj 0 _ st2 b hb; ⟨o, e⟩
  have fpD : ∀ b ∈ fp, s2.heap.objs.size ≠ b := fun b hb => let ⟨o, e⟩ := hfo b hb; Nat.ne_of_gt (Heap.lt_size e)
  have IY := comp_startN I2 hix hcell hkind hfr f2 hfo (t' := s2.toks) hCle hns₁ hcl old
  have notS : ∀ b, s2.heap.objs.size ≤ b → b ∉ frs X.stack := fun b hb hs => by
    rcases List.mem_cons.mp (I2.stkSub b hs) with z | z
    · exact absurd (Nat.lt_of_lt_of_le I2.lt hb) (by rw [z]; exact Nat.lt_irrefl _)
    · exact I2.nofs hb z
  have from_ : ∀ {x : Str} {c : Addr}, (ccOf X scope P2.objs.size).lookup x = some c → P2.objs.size < c ∨ X.env.cells.lookup x = some c := fun {x c} e => (cf_from scope.names (P2.objs.size + 1) _ e).imp (fun z => z) fun z => from0 z
  have cellD : ∀ x c, (ccOf X scope P2.objs.size).lookup x = some c → c ≠ s2.heap.objs.size := fun x c e z => by
    rcases from_ e with w | w
    · rw [z] at w; omega
    · obtain ⟨v, q⟩ := I2.cell x c w
      exact absurd (q.lt) (by rw [z]; exact Nat.lt_irrefl _)
  have fY : ∀ {pl : List (Addr × Obj)} {H' : Hp}, (∀ p ∈ pl, p.1 = s2.heap.objs.size) → (∀ b ∈ fp, H' b = none) → ∀ b ∈ fp, FpOk (cxCompN X scope P2.objs.size Nc s2 H2 fp) pl H' b := fun {pl H'} hpl hn b hb => by
    refine ⟨hn b hb, ?_, ?_, .inl hb, fun x c e => ?_, fun p hp => ?_⟩
    · obtain ⟨o, e⟩ := hfo b hb
      exact neC b (Heap.lt_size e)
    · intro hs
      rcases List.mem_cons.mp (I2.stkSub b hs) with z | z
      · exact (f2 b hb).2.1 z
      · exact (f2 b hb).2.2.1 z
    · rcases from_ e with w | w
      · obtain ⟨o, eo⟩ := hfo b hb
        exact Nat.ne_of_gt (Nat.lt_of_lt_of_le (Heap.lt_size eo) (Nat.le_trans hCle (Nat.le_of_lt w)))
      · exact (f2 b hb).2.2.2.2.1 x c w
    · rw [hpl p hp]
      exact fpD b hb
  have loop : ∀ s₃ : Shared, s₃ = { s2 with heap := h₁ } →
      codeAny (model X.prog X.w) X.A (.compLoop (.ListComp elt [⟨tg, iter, ifs, 0⟩] scope pos) 0 (.ref it) (.ref s2.heap.objs.size) (compEnvC scope (ccOf X scope P2.objs.size) P2.objs.size X.env)) (RR (.ref s2.heap.objs.size) P2.objs.size) s₃ := by
    rintro s₃ rfl
    refine compLoop_gen (fun n s' => ∃ i acc its nn H', Inv (cxCompN X scope P2.objs.size Nc s2 H2 fp) [] (subSt σ ix) H' s' ∧ tn i s'.heap ∧ (∀ b ∈ fp, H' b = none) ∧
      s'.heap.get? s2.heap.objs.size = some { cls := .type "list", data := .seq (its : List Value).toArray nn } ∧ Vals acc its ∧ H' s2.heap.objs.size = none ∧ W i n acc H') ?_ m0
      ⟨0, [], [], 0, H2, IY, st₁, fun b hb => (f2 b hb).1, hacc, .nil, I2.hok.fresh (Nat.le_refl _), w0⟩
    rintro n s3 ⟨i, acc, its, nn, H3, I3, st3, fr3, eD, rv, nD, w3⟩
    obtain ⟨hz, alt⟩ := turn i n acc H3 w3
    have IP : Inv (cxCompN X scope P2.objs.size Nc s2 H2 fp) [(s2.heap.objs.size, { cls := .type "list", data := .seq its.toArray nn })] (subSt σ ix) H3 s3 := I3.pins_of fun p hp => by
      have e : p = (s2.heap.objs.size, _) := List.mem_singleton.mp hp
      subst e
      refine ⟨eD, nD, hDC, notS _ (Nat.le_refl _), fun v z => ?_⟩
      have z' : Data.seq its.toArray nn = Data.cell v := z
      cases z'
    have hpl : ∀ p ∈ [(s2.heap.objs.size, ({ cls := .type "list", data := .seq its.toArray nn } : Obj))], p.1 = s2.heap.objs.size := fun p hp => by
      have e : p = (s2.heap.objs.size, _) := List.mem_singleton.mp hp
      rw [e]
    rcases alt with ⟨stop, fin⟩ | ⟨go, step⟩
    · refine thn (T.done (cxCompN X scope P2.objs.size Nc s2 H2 fp) rfl rfl rfl hcalm i _ s3 _ H3 noE IP (fY hpl fr3) st3 stop) fun r s4 ⟨hr, I4⟩ => ?_
      subst hr
      obtain ⟨m, hn, _⟩ := id I4.loc
      obtain ⟨oC, es, ep, eC, dC, _⟩ := id hn
      have eD4 := (I4.pin (s2.heap.objs.size, _) (List.mem_append_right _ (List.mem_singleton.mpr rfl))).1
      have fin' := fin _ nD
      refine hRR _ _ oC m _ s4 eC hn ?_ (comp_exitN I2 I4 f2 (Nat.le_refl _) hCle hDC eD4 rv (Nat.le_of_lt hz) nD eC fun v z => ?_) fin'
      · refine I2.fpOk hCle ?_
        rw [upd_ne (Ne.symm hDC)]
        exact I4.free
      · rw [dC] at z; cases z
    · refine thn (T.item (cxCompN X scope P2.objs.size Nc s2 H2 fp) rfl rfl rfl hcalm i _ s3 _ H3 noE IP (fY hpl fr3) st3 go) fun r s4 ⟨u, hr, h4⟩ => ?_
      subst hr
      refine thn h4 fun _ s5 ⟨x, H5, I5, r5, y5, st5, fr5⟩ => ?_
      have I5' := I5.pinned (fY hpl fr5) (T.obj _ _ st5)
      refine thn (hG _ s2 H2 fp _ s5 _ H5 x u _ I5' r5 (step x H5 y5)) fun _ s6 ⟨σ6, H6, I6, wk, q6⟩ => ?_
      refine thn (hT _ s2 H2 fp _ s6 σ6 H6 _ I6 q6) fun b s7 ⟨H7, I7, q7⟩ => ?_
      have again : ∀ {H9 : Hp} {s9 : Shared} {m' : Nat}, Inv (cxCompN X scope P2.objs.size Nc s2 H2 fp) ([(s2.heap.objs.size, ({ cls := .type "list", data := .seq its.toArray nn } : Obj))] ++ pinsAt fp s5.heap) σ6 H9 s9 →
          (s9.heap.get? s2.heap.objs.size = some { cls := .type "list", data := .seq its.toArray nn } ∧ H9 s2.heap.objs.size = none) ∧ tn (i + 1) s9.heap ∧ (∀ b ∈ fp, H9 b = none) ∧ Inv (cxCompN X scope P2.objs.size Nc s2 H2 fp) [] (subSt σ ix) H9 s9 := fun {H9 s9 m'} I9 => by
        have pD := I9.pin (s2.heap.objs.size, _) (List.mem_append_right _ (List.mem_append_left _ (List.mem_singleton.mpr rfl)))
        refine ⟨⟨pD.1, pD.2.1⟩, T.keep _ _ _ st5 fun b hb o e => (I9.pin (b, o) (List.mem_append_right _ (List.mem_append_right _ (mem_pinsAt hb e)))).1, fun b hb => ?_, ?_⟩
        · obtain ⟨o, e, d⟩ := T.obj _ _ st5 b hb
          exact (I9.pin (b, o) (List.mem_append_right _ (List.mem_append_right _ (mem_pinsAt hb e)))).2.1
        · exact (I9.weak wk.len fun i v e => wk.get e).pins_of fun p hp => absurd hp (by simp)
      cases b with
      | false =>
        rw [if_neg Bool.false_ne_true] at q7 ⊢
        obtain ⟨m', hm, w7⟩ := q7
        obtain ⟨⟨e7, n7⟩, t7, f7, J7⟩ := again (m' := 0) I7
        exact ⟨m', hm, i + 1, acc, its, nn, H7, J7, t7, f7, e7, rv, n7, w7⟩
      | true =>
        rw [if_pos rfl] at q7 ⊢
        refine thn (hE _ s2 H2 fp _ s7 σ6 H7 _ I7 q7) fun y s8 ⟨v, H8, I8, r8, m', hm, w8⟩ => ?_
        obtain ⟨⟨e8, n8⟩, t8, f8, J8⟩ := again (m' := 0) I8
        refine wpAny_list_append_plain (items := its.toArray) ⟨nn, e8⟩ (fun h9 hl9 hs9 => ?_) (by rw [List.size_toArray, ← rv.length]; exact Nat.le_of_lt hz)
        obtain ⟨n9, e9⟩ := hl9
        refine ⟨m', hm, i + 1, acc ++ [v], its ++ [y], n9, H8, J8.turned (t' := s8.toks) (fun b o hb e => (hs9.2 b hb).trans e) n8 hDC (.inr (Nat.le_refl _)) cellD (fun p hp => absurd hp (by simp [cxCompN])), ?_, f8, ?_, rv.append (.cons r8 .nil), n8, w8⟩
        · exact T.keep _ _ _ t8 fun b hb o e => (hs9.2 b (Ne.symm (fpD b hb))).trans e
        · simpa using e9
  exact codeAny_compStart_list (loop _ rfl) (T.self _ 0 _ _ _ st₁ (loop _ rfl))

theorem ps_setCN {X : Cx} {i : Nat} {x : Str} {tg iter elt : Expr} {ifs : List Expr} {scope : Scope} {pos spos pos' : Pos} {wi : TI} {g : TG} {tc : TT} {te : TE} (Nc : List Str) (ix : List (Option Nat)) (hN : X.N.Nodup) (hxi : X.N[i]? = some x) (hx : Loc X.env.scope x)
    (hsw : swapsWith (.ListComp elt [⟨tg, iter, ifs, 0⟩] scope pos) (some (.Name x pos')) spos.line X.env = pure true) (hi : PI X tg iter wi) (hcalm : X.calm = true) (hix : IxOk X scope Nc ix)
    (hcell : ∀ y ∈ scope.names, y.2 = .cell → scope.names.lookup y.1 = some .cell) (hkind : scope.kind = .function) (hfr : ∀ y ∈ scope.names, y.2 = .free → X.env.kindOf y.1 = some .cell ∨ X.env.kindOf y.1 = some .free)
    (hnames : ∀ x ∈ scope.names, x.2 = .local → scope.names.lookup x.1 = some .local)
    (hG : ∀ C s H fp, PG (cxCompN X scope C Nc s H fp) tg g) (hT : ∀ C s H fp, PF (cxCompN X scope C Nc s H fp) ifs tc) (hE : ∀ C s H fp, PE (cxCompN X scope C Nc s H fp) elt te)
    (hs : ∀ x, foldedSetIterable iter X.env x = pure x := by intro _; rfl) (hf : X.fn x = true ∨ X.env.scope.names.lookup x = some .local := by first | exact .inl rfl | exact .inr rfl | assumption) :
    PS X (.Assign [.Name x pos'] (.ListComp elt [⟨tg, iter, ifs, 0⟩] scope pos) spos) (tAsg (tComp wi ix g tc te) (gName i)) := by
  intro pins s σ H E I h
  have hfc : ∀ y ∈ scope.names, y.2 = .free → ∃ c, X.env.cells.lookup y.1 = some c := fun y hy e => I.ok.has y.1 (hfr y hy e)
  rw [exec_Assign_Name_used _ _ _ _ hsw]
  refine wpAny_bind (wpAny_standAt (wpAny_bind ?_))
  show wpAny _ X.A (do let _ ← comprehension (.ListComp elt [⟨tg, iter, ifs, 0⟩] scope pos) scope X.env _ (newList []) false (eval iter X.env) (some (assign (.Name x pos') X.env))) _ _ s
  refine wpAny_bind (wpAny_mono (wpAny_comprehension_free (use := some (assign (.Name x pos') X.env)) (Q := fun _ s' => SP X pins E .next s') rfl hs (closureFor_cl hfc) hkind hnames
    (comp_coreN hi hcalm hix hcell hkind hfr hG hT hE I h (RR := fun acc C => compPost (model X.prog X.w) X.A X.xe (some (assign (.Name x pos') X.env)) (fun _ s' => SP X pins E .next s') acc C) ?_)) (fun _ s' hq => wpAny_pure (wpAny_pure hq)) fun _ _ e => e)
  intro D C oC m H' s' eC hn fC I' q
  show wpAny _ X.A (assign (.Name x pos') X.env (.ref D)) _ _ _
  refine wpAny_assign_Name (store_ok I' hN hxi hx (show RelV (.ref D) _ from rfl) (fun s'' I'' => ?_) hf)
  have pC := I''.pin (C, oC) (List.mem_append_right _ (List.mem_append_right _ (List.mem_singleton.mpr rfl)))
  refine ⟨m, ?_, fun h' hs' => ?_⟩
  · obtain ⟨o, es, ep, e, r⟩ := hn
    rw [eC] at e; cases e
    exact ⟨oC, es, ep, pC.1, r⟩
  · refine ⟨_, H', I''.unpinned.turned (t' := s''.toks) (fun b o hb e => (hs'.2 b hb).trans e) fC.1 fC.2.1 fC.2.2.2.1 fC.2.2.2.2.1 fC.2.2.2.2.2, q⟩
def compOkN (X : Cx) (scope : Scope) : Bool := (scope.names.all fun y => y.2 != .cell || scope.names.lookup y.1 == some .cell) && (scope.kind == .function) && (scope.names.all fun y => y.2 != .free || X.env.kindOf y.1 == some .cell || X.env.kindOf y.1 == some .free) && (scope.names.all fun y => y.2 != .local || scope.names.lookup y.1 == some .local)
theorem compOkN_parts {X : Cx} {scope : Scope} (h : compOkN X scope = true) : (∀ y ∈ scope.names, y.2 = .cell → scope.names.lookup y.1 = some .cell) ∧ scope.kind = .function ∧ (∀ y ∈ scope.names, y.2 = .free → X.env.kindOf y.1 = some .cell ∨ X.env.kindOf y.1 = some .free) ∧ (∀ x ∈ scope.names, x.2 = .local → scope.names.lookup x.1 = some .local) := by
  unfold compOkN at h
  simp only [Bool.and_eq_true] at h
  obtain ⟨⟨⟨h1, h2⟩, h3⟩, h4⟩ := h
  refine ⟨fun y hy e => ?_, by simpa using h2, fun y hy e => ?_, fun y hy e => ?_⟩
  · have := List.all_eq_true.mp h1 y hy
    rw [e] at this
    simpa using this
  · have := List.all_eq_true.mp h3 y hy
    rw [e] at this
    simpa using this
  · have := List.all_eq_true.mp h4 y hy
    rw [e] at this
    simpa using this
theorem ps_setCBN {X : Cx} {i : Nat} {x : Str} {tg iter elt : Expr} {ifs : List Expr} {scope : Scope} {pos spos pos' : Pos} {wi : TI} {g : TG} {tc : TT} {te : TE} (Nc : List Str) (ix : List (Option Nat)) (hN : X.N.Nodup) (hxi : X.N[i]? = some x) (hx : Loc X.env.scope x)
    (hi : PI X tg iter wi) (hix : IxOk X scope Nc ix)
    (hG : ∀ C s H fp, PG (cxCompN X scope C Nc s H fp) tg g) (hT : ∀ C s H fp, PF (cxCompN X scope C Nc s H fp) ifs tc) (hE : ∀ C s H fp, PE (cxCompN X scope C Nc s H fp) elt te)
    (hsw : swapsWith (.ListComp elt [⟨tg, iter, ifs, 0⟩] scope pos) (some (.Name x pos')) spos.line X.env = pure true := by rfl) (hok : compOkN X scope = true := by rfl) (hcalm : X.calm = true := by rfl)
    (hs : ∀ x, foldedSetIterable iter X.env x = pure x := by intro _; rfl) (hf : X.fn x = true ∨ X.env.scope.names.lookup x = some .local := by first | exact .inl rfl | exact .inr rfl | assumption) :
    PS X (.Assign [.Name x pos'] (.ListComp elt [⟨tg, iter, ifs, 0⟩] scope pos) spos) (tAsg (tComp wi ix g tc te) (gName i)) :=
  let ⟨h1, h2, h3, h4⟩ := compOkN_parts hok
  ps_setCN Nc ix hN hxi hx hsw hi hcalm hix h1 h2 h3 h4 hG hT hE hs hf

end L2
set_option maxHeartbeats 4000000
namespace My
open PySem PySem.Spec PyProof.Rows L2
/-! letters, contraries -/
def smalls : List Nat := [97, 98, 99, 100, 101, 102, 103, 104, 105, 106, 107, 108, 109, 110, 111, 112, 113, 114, 115, 116, 117, 118, 119, 120, 121, 122]
def caps : List Nat := [65, 66, 67, 68, 69, 70, 71, 72, 73, 74, 75, 76, 77, 78, 79, 80, 81, 82, 83, 84, 85, 86, 87, 88, 89, 90]
def Lt (c : Nat) : Prop := c ∈ smalls ∨ c ∈ caps
instance (c : Nat) : Decidable (Lt c) := by unfold Lt; infer_instance
def ctr (c : Nat) : Nat := if isLow c = true then PyProof.Rows.up1 c else PyProof.Rows.lo1 c
theorem lt_all : ∀ c ∈ smalls ++ caps, c < 128 ∧ ctr c ∈ smalls ++ caps ∧ ctr (ctr c) = c ∧ ctr c ≠ c := by decide +kernel
theorem Lt.mem {c : Nat} (h : Lt c) : c ∈ smalls ++ caps := List.mem_append.mpr h
theorem Lt.lt {c : Nat} (h : Lt c) : c < 128 := (lt_all c h.mem).1
theorem Lt.ctr {c : Nat} (h : Lt c) : Lt (ctr c) := List.mem_append.mp (lt_all c h.mem).2.1
theorem ctr_ctr {c : Nat} (h : Lt c) : ctr (ctr c) = c := (lt_all c h.mem).2.2.1
theorem ctr_ne {c : Nat} (h : Lt c) : ctr c ≠ c := (lt_all c h.mem).2.2.2
theorem ctr_inj {a b : Nat} (ha : Lt a) (hb : Lt b) (e : My.ctr a = My.ctr b) : a = b := by rw [← ctr_ctr ha, e, ctr_ctr hb]
theorem other_small : ∀ c ∈ smalls, atI caps ((smalls.idxOf c : Nat) : Int) = some (ctr c) := by decide +kernel
theorem other_cap : ∀ c ∈ caps, atI smalls ((caps.idxOf c : Nat) : Int) = some (ctr c) := by decide +kernel
/-- but for b all stays -/
def SameB (b : Addr) (H H' : Hp) : Prop := ∀ c o, H c = some o → c ≠ b → H' c = some o
theorem SameB.refl (b : Addr) (H : Hp) : SameB b H H := fun _ _ h _ => h
theorem SameB.trans {b : Addr} {H H1 H2 : Hp} (x : SameB b H H1) (y : SameB b H1 H2) : SameB b H H2 := fun c o h n => y c o (x c o h n) n
theorem SameB.of {b : Addr} {H H' : Hp} (x : Same H H') : SameB b H H' := fun c o h _ => x c o h
theorem SameB.upd (b : Addr) (H : Hp) (o : HO) : SameB b H (upd H b o) := fun c o h n => by rw [upd_ne n]; exact h
theorem Same.upd {H : Hp} {p : Addr} {o : HO} (h : H p = none) : Same H (L2.upd H p o) := fun c u e => by rw [upd_ne (ne_of_none e h)]; exact e
/-- the box of draws -/
def BoxAt (H : Hp) (b : Addr) : Prop := ∃ x y : Int, H b = some (.lst [.int x, .int y])
theorem BoxAt.same {H H' : Hp} {b : Addr} (h : BoxAt H b) (s : Same H H') : BoxAt H' b := let ⟨x, y, e⟩ := h; ⟨x, y, s _ _ e⟩
/-- a yard's ends -/
structure Yd (y : List Nat) : Prop where
  nd : y.Nodup
  lt : ∀ c ∈ y, Lt c
  cl : ∀ c ∈ y, ctr c ∈ y
def sp_contrary (_ : PySem.W.Frag) : Sp := fun vs H Q _ => ∃ c, vs = [.str (S [c])] ∧ c < 128 ∧ Q (.str (S [ctr c])) H
theorem len_contrary {K : PySem.W.Frag} {vs : List V} {H : Hp} {Q : VK} {E : XK} (h : sp_contrary K vs H Q E) : vs.length = 1 := by obtain ⟨c, rfl, _⟩ := h; rfl
def sp_Lother (_ : PySem.W.Frag) : Sp := fun vs H Q _ => ∃ c, vs = [.str (S [c])] ∧ Lt c ∧ Q (.str (S [ctr c])) H
theorem len_Lother {K : PySem.W.Frag} {vs : List V} {H : Hp} {Q : VK} {E : XK} (h : sp_Lother K vs H Q E) : vs.length = 1 := by obtain ⟨c, rfl, _⟩ := h; rfl
def sp_Lbox (K : PySem.W.Frag) : Sp := fun vs H Q _ => ∃ (a : Addr) (ns : List Int) (k : Nat), vs = [.ref a, .int k] ∧ SqL K H a (ns.map V.int) ∧ k ≤ 1000 ∧ ∀ b H', H b = none → BoxAt H' b → Same H H' → Q (.ref b) H'
theorem len_Lbox {K : PySem.W.Frag} {vs : List V} {H : Hp} {Q : VK} {E : XK} (h : sp_Lbox K vs H Q E) : vs.length = 2 := by obtain ⟨a, ns, k, rfl, _⟩ := h; rfl
def sp_Ltake (_ : PySem.W.Frag) : Sp := fun vs H Q _ => ∃ (b : Addr) (m : Int), vs = [.ref b, .int m] ∧ BoxAt H b ∧ 1 ≤ m ∧ m < 1000000 ∧ ∀ (r : Nat) H', (r : Int) < m → BoxAt H' b → SameB b H H' → Q (.int r) H'
theorem len_Ltake {K : PySem.W.Frag} {vs : List V} {H : Hp} {Q : VK} {E : XK} (h : sp_Ltake K vs H Q E) : vs.length = 2 := by obtain ⟨b, m, rfl, _⟩ := h; rfl
def sp_Lyard (_ : PySem.W.Frag) : Sp := fun vs H Q _ => ∃ (b : Addr) (few top : Nat), vs = [.ref b, .int few, .int top] ∧ BoxAt H b ∧ 1 ≤ few ∧ few ≤ top ∧ top ≤ 8 ∧ ∀ (y : List Nat) H', Yd y → 2 * few ≤ y.length → y.length ≤ 2 * top → BoxAt H' b → SameB b H H' → Q (.str (S y)) H'
theorem len_Lyard {K : PySem.W.Frag} {vs : List V} {H : Hp} {Q : VK} {E : XK} (h : sp_Lyard K vs H Q E) : vs.length = 3 := by obtain ⟨b, m, t, rfl, _⟩ := h; rfl
def sp_Lword (_ : PySem.W.Frag) : Sp := fun vs H Q _ => ∃ (b : Addr) (y : List Nat) (top : Nat), vs = [.ref b, .str (S y), .int top] ∧ BoxAt H b ∧ y ≠ [] ∧ y.length ≤ 1000 ∧ top ≤ 1000 ∧ ∀ (l : List Nat) H', (∀ c ∈ l, c ∈ y) → l.length ≤ top → BoxAt H' b → SameB b H H' → Q (.str (S l)) H'
theorem len_Lword {K : PySem.W.Frag} {vs : List V} {H : Hp} {Q : VK} {E : XK} (h : sp_Lword K vs H Q E) : vs.length = 3 := by obtain ⟨b, m, t, rfl, _⟩ := h; rfl
def sp_law (K : PySem.W.Frag) : Sp := fun vs H Q _ => ∃ (a : Addr) (ns : List Int), vs = [.ref a] ∧ SqL K H a (ns.map V.int) ∧ ns.length ≤ 63 ∧ ∀ H', Q (.bl true) H'
theorem len_law {K : PySem.W.Frag} {vs : List V} {H : Hp} {Q : VK} {E : XK} (h : sp_law K vs H Q E) : vs.length = 1 := by obtain ⟨b, m, rfl, _⟩ := h; rfl
theorem flat1 : ∀ l : List Nat, (l.map fun c => [c]).flatten = l
  | [] => rfl
  | c :: l => by rw [List.map_cons, List.flatten_cons, flat1 l]; rfl
theorem sum1 : ∀ l : List Nat, ((l.map fun c => [c]).map List.length).sum = l.length
  | [] => rfl
  | c :: l => by
    rw [List.map_cons, List.map_cons, List.sum_cons, sum1 l]
    show 1 + l.length = l.length + 1
    omega
theorem sgs_lists (l : List Nat) : sgs l = (l.map fun c => [c]).map fun l => V.str (S l) := by unfold sgs; rw [List.map_map]; rfl
theorem sgs_snoc (l : List Nat) (c : Nat) : sgs l ++ [V.str (S [c])] = sgs (l ++ [c]) := by unfold sgs; rw [List.map_append]; rfl
theorem take_snoc {α : Type} {l : List α} {i : Nat} {x : α} (h : l[i]? = some x) : l.take i ++ [x] = l.take (i + 1) := by rw [List.take_add_one, h]; rfl
theorem ints_at {ns : List Int} {i : Nat} (h : i < ns.length) : ∃ z, (ns.map V.int)[i]? = some (V.int z) := ⟨ns[i], by rw [List.getElem?_map, List.getElem?_eq_getElem h]; rfl⟩
theorem yes_ite {σ : L2.St} {H : Hp} {A B : Hp → Prop} (h : A H) : tYes σ H fun b H3 => if b = true then A H3 else B H3 := by
  show (if true = true then A H else B H)
  rw [if_pos rfl]
  exact h
theorem box_at (b : Bool) (z : Int) : ∃ y, atI [V.int 0, V.int z] (if b = true then 1 else 0) = some (V.int y) := by
  cases b
  · exact ⟨0, rfl⟩
  · exact ⟨z, rfl⟩
theorem erase_perm {α : Type} : ∀ {l : List α} {i : Nat} {x : α}, l[i]? = some x → (x :: l.eraseIdx i).Perm l
  | [], i, x, h => by simp at h
  | a :: l, 0, x, h => by
    have : a = x := by simpa using h
    subst this
    exact List.Perm.refl _
  | a :: l, i + 1, x, h => by
    have ih := erase_perm (l := l) (i := i) (x := x) (by simpa using h)
    rw [List.eraseIdx_cons_succ]
    exact (List.Perm.swap a x _).trans (List.Perm.cons a ih)
theorem sgs_erase (l : List Nat) (i : Nat) : (sgs l).eraseIdx i = sgs (l.eraseIdx i) := by
  unfold sgs
  induction l generalizing i with
  | nil => rfl
  | cons a l ih =>
    cases i with
    | zero => rfl
    | succ i => rw [List.map_cons, List.eraseIdx_cons_succ, ih, List.eraseIdx_cons_succ, List.map_cons]
theorem sgs_at {l : List Nat} {i : Nat} (h : i < l.length) : (sgs l)[i]? = some (V.str (S [l[i]])) := by unfold sgs; rw [List.getElem?_map, List.getElem?_eq_getElem h]; rfl
theorem sgs_app (a b : List Nat) : sgs a ++ sgs b = sgs (a ++ b) := by unfold sgs; rw [List.map_append]
theorem small_ctr : ∀ c ∈ smalls, ctr c ∉ smalls := by decide +kernel
theorem smalls_nd : smalls.Nodup := by decide +kernel
theorem Yd.perm {a b : List Nat} (h : Yd a) (p : a.Perm b) : Yd b :=
  ⟨p.nodup_iff.mp h.nd, fun c hc => h.lt c (p.mem_iff.mpr hc), fun c hc => p.mem_iff.mp (h.cl c (p.mem_iff.mpr hc))⟩
/-- the letters that are left, and the ends so far -/
structure YdW (i : Nat) (L E : List Nat) : Prop where
  yd : Yd E
  nd : L.Nodup
  sm : ∀ c ∈ L, c ∈ smalls
  ap : ∀ c ∈ L, c ∉ E
  ll : L.length = 26 - i
  el : E.length = 2 * i
theorem YdW.start : YdW 0 smalls [] := ⟨⟨List.nodup_nil, fun _ h => absurd h List.not_mem_nil, fun _ h => absurd h List.not_mem_nil⟩, smalls_nd, fun _ h => h, fun _ _ h => absurd h List.not_mem_nil, rfl, rfl⟩
theorem YdW.turn {i r : Nat} {L E : List Nat} (w : YdW i L E) (hi : i < 26) (hr : r < L.length) : YdW (i + 1) (L.eraseIdx r) (E ++ [L[r], ctr L[r]]) := by
  have hp := erase_perm (l := L) (List.getElem?_eq_getElem hr)
  have hm : L[r] ∈ L := List.getElem_mem hr
  have hs := w.sm _ hm
  have hl : Lt L[r] := .inl hs
  have nd2 := hp.nodup_iff.mpr w.nd
  have sub : ∀ c ∈ L.eraseIdx r, c ∈ L := fun c hc => hp.mem_iff.mp (List.mem_cons_of_mem _ hc)
  have ap1 := w.ap _ hm
  have ap2 : ctr L[r] ∉ E := fun z => ap1 (by have := w.yd.cl _ z; rwa [ctr_ctr hl] at this)
  refine ⟨⟨?_, fun c hc => ?_, fun c hc => ?_⟩, (List.nodup_cons.mp nd2).2, fun c hc => w.sm c (sub c hc), fun c hc hE => ?_, ?_, ?_⟩
  · rw [List.nodup_append]
    refine ⟨w.yd.nd, ?_, fun a ha b hb z => ?_⟩
    · rw [List.nodup_cons]
      refine ⟨fun z => (ctr_ne hl) (List.mem_singleton.mp z).symm, List.nodup_cons.mpr ⟨List.not_mem_nil, List.nodup_nil⟩⟩
    · subst z
      rcases List.mem_cons.mp hb with z | z
      · exact ap1 (z ▸ ha)
      · exact ap2 (List.mem_singleton.mp z ▸ ha)
  · rcases List.mem_append.mp hc with z | z
    · exact w.yd.lt c z
    · rcases List.mem_cons.mp z with z | z
      · rw [z]; exact hl
      · rw [List.mem_singleton.mp z]; exact hl.ctr
  · rcases List.mem_append.mp hc with z | z
    · exact List.mem_append_left _ (w.yd.cl c z)
    · refine List.mem_append_right _ ?_
      rcases List.mem_cons.mp z with z | z
      · rw [z]; exact List.mem_cons_of_mem _ (List.mem_singleton.mpr rfl)
      · rw [List.mem_singleton.mp z, ctr_ctr hl]; exact List.mem_cons_self
  · rcases List.mem_append.mp hE with z | z
    · exact w.ap c (sub c hc) z
    · rcases List.mem_cons.mp z with z | z
      · exact (List.nodup_cons.mp nd2).1 (z ▸ hc)
      · have e : c = ctr L[r] := List.mem_singleton.mp z
        exact small_ctr _ hs (e ▸ w.sm c (sub c hc))
  · have := hp.length_eq
    rw [List.length_cons, w.ll] at this
    omega
  · rw [List.length_append, w.el]
    show 2 * i + 2 = _
    omega
theorem SameB.updN {b p : Addr} {H H' : Hp} {o : HO} (h : SameB b H H') (n : H p = none) : SameB b H (L2.upd H' p o) := fun c u e z => by rw [upd_ne (ne_of_none e n)]; exact h c u e z
theorem BoxAt.updN {b p : Addr} {H : Hp} {o : HO} (h : BoxAt H b) (n : p ≠ b) : BoxAt (L2.upd H p o) b := let ⟨x, y, e⟩ := h; ⟨x, y, by rw [upd_ne (Ne.symm n)]; exact e⟩
theorem SameB.none {b p : Addr} {H H' : Hp} (h : SameB b H H') (n : H' p = none) (z : p ≠ b) : H p = none := by
  cases q : H p with
  | none => rfl
  | some o => rw [h p o q z] at n; cases n
theorem BoxAt.ne {b p : Addr} {H : Hp} (h : BoxAt H b) (n : H p = none) : p ≠ b := fun z => by obtain ⟨x, y, e⟩ := h; rw [← z, n] at e; cases e
theorem iteN {c : Bool} {A B : Prop} (h : c = false) (hB : B) : if c = true then A else B := by rw [h]; exact iteF hB
theorem iteY {c : Bool} {A B : Prop} (h : c = true) (hA : A) : if c = true then A else B := by rw [h]; exact iteT hA
theorem lt128 {l : List Nat} (h : ∀ c ∈ l, Lt c) : ∀ c ∈ l, c < 128 := fun c hc => (h c hc).lt
theorem sgs_take (a : List Nat) : a.take (sgs a).length = a := by rw [sgs_len]; exact List.take_of_length_le (Nat.le_refl _)
theorem all_rep (n : Nat) : (List.replicate n true).all id = true := by rw [List.all_eq_true]; intro b hb; rw [List.eq_of_mem_replicate hb]; rfl
theorem rep_snoc (n : Nat) : (List.replicate n true).map V.bl ++ [V.bl true] = (List.replicate (n + 1) true).map V.bl := by rw [List.replicate_succ', List.map_append]; rfl
/-- between two bounds -/
theorem cnt {lo hi : Int} {m : Nat} (h : lo ≤ hi) : lo ≤ (if (if (m : Int) < hi then (m : Int) else hi) > lo then (if (m : Int) < hi then (m : Int) else hi) else lo) ∧ (if (if (m : Int) < hi then (m : Int) else hi) > lo then (if (m : Int) < hi then (m : Int) else hi) else lo) ≤ hi := by
  split <;> split <;> (try split) <;> omega
theorem SameB.same {b : Addr} {H H2 H3 : Hp} (n : H b = Option.none) (s : Same H H2) (t : SameB b H2 H3) : Same H H3 := fun c o e => t c o (s c o e) (ne_of_none e n)
theorem SameB.after {p : Addr} {H H1 H2 : Hp} (s : SameB p H H1) (t : Same H1 H2) : SameB p H H2 := fun c o e z => t c o (s c o e z)
/-- texts as values -/
def txs (ws : List (List Nat)) : List V := ws.map fun l => V.str (S l)
theorem txs_len (ws : List (List Nat)) : (txs ws).length = ws.length := by unfold txs; rw [List.length_map]
theorem txs_snoc (ws : List (List Nat)) (l : List Nat) : txs ws ++ [V.str (S l)] = txs (ws ++ [l]) := by unfold txs; rw [List.map_append]; rfl
theorem txs_at {ws : List (List Nat)} {i : Nat} (h : i < ws.length) : (txs ws)[i]? = some (V.str (S ws[i])) := by unfold txs; rw [List.getElem?_map, List.getElem?_eq_getElem h]; rfl
/-! words made shorter -/
def rstep (st : List Nat) (c : Nat) : List Nat := if st.getLast? = some (ctr c) then st.dropLast else st ++ [c]
def red (l : List Nat) : List Nat := l.foldl rstep []
/-- no letter beside its contrary -/
def Rdd : List Nat → Prop
  | [] => True
  | [_] => True
  | a :: b :: r => a ≠ ctr b ∧ Rdd (b :: r)
theorem Rdd.tail : ∀ {a : Nat} {r : List Nat}, Rdd (a :: r) → Rdd r
  | _, [], _ => trivial
  | _, _ :: _, h => h.2
theorem Rdd.snoc : ∀ {l : List Nat} {c : Nat}, Rdd l → l.getLast? ≠ some (ctr c) → Rdd (l ++ [c])
  | [], _, _, _ => trivial
  | [a], c, _, h => ⟨fun z => h (by rw [z]; rfl), trivial⟩
  | a :: b :: r, c, h, k => ⟨h.1, Rdd.snoc (l := b :: r) h.2 (by simpa using k)⟩
theorem Rdd.init : ∀ {l : List Nat} {c : Nat}, Rdd (l ++ [c]) → Rdd l ∧ l.getLast? ≠ some (ctr c)
  | [], _, _ => ⟨trivial, by simp⟩
  | [a], c, h => ⟨trivial, fun z => h.1 (by simpa using z)⟩
  | a :: b :: r, c, h => by
    have ih := Rdd.init (l := b :: r) (c := c) h.2
    exact ⟨⟨h.1, ih.1⟩, by simpa using ih.2⟩
theorem snoc_cases (l : List Nat) : l = [] ∨ ∃ m a, l = m ++ [a] := by
  by_cases h : l = []
  · exact .inl h
  · exact .inr ⟨l.dropLast, l.getLast h, (List.dropLast_concat_getLast h).symm⟩
theorem Rdd.left : ∀ {m l : List Nat}, Rdd (m ++ l) → Rdd m
  | [], _, _ => trivial
  | [_], _, _ => trivial
  | a :: b :: r, l, h => ⟨h.1, Rdd.left (m := b :: r) (l := l) h.2⟩
theorem last_snoc {l : List Nat} {c : Nat} (h : l.getLast? = some c) : ∃ m, l = m ++ [c] := by
  rcases snoc_cases l with rfl | ⟨m, a, rfl⟩
  · simp at h
  · refine ⟨m, ?_⟩
    have : a = c := by simpa using h
    rw [this]
theorem rstep_rdd {st : List Nat} {c : Nat} (h : Rdd st) : Rdd (rstep st c) := by
  unfold rstep
  by_cases e : st.getLast? = some (ctr c)
  · rw [if_pos e]
    obtain ⟨m, rfl⟩ := last_snoc e
    rw [List.dropLast_concat]
    exact h.init.1
  · rw [if_neg e]
    exact h.snoc e
theorem rstep_mem {st : List Nat} {c d : Nat} (h : d ∈ rstep st c) : d ∈ st ∨ d = c := by
  unfold rstep at h
  by_cases e : st.getLast? = some (ctr c)
  · rw [if_pos e] at h
    exact .inl (List.dropLast_subset _ h)
  · rw [if_neg e] at h
    rcases List.mem_append.mp h with z | z
    · exact .inl z
    · exact .inr (List.mem_singleton.mp z)
theorem rstep_pair {st : List Nat} {x y : Nat} (h : Rdd st) (hy : Lt y) (e : x = ctr y) : rstep (rstep st x) y = st := by
  subst e
  unfold rstep
  by_cases z : st.getLast? = some (ctr (ctr y))
  · rw [if_pos z]
    obtain ⟨m, rfl⟩ := last_snoc z
    rw [List.dropLast_concat, ctr_ctr hy]
    have := h.init.2
    rw [ctr_ctr hy] at this
    rw [if_neg this]
  · rw [if_neg z, if_pos (by simp), List.dropLast_concat]
theorem fold_rdd : ∀ (l st : List Nat), Rdd st → Rdd (l.foldl rstep st)
  | [], _, h => h
  | _ :: l, _, h => fold_rdd l _ (rstep_rdd h)
theorem red_rdd (l : List Nat) : Rdd (red l) := fold_rdd l [] trivial
theorem red_pair {a b : List Nat} {x y : Nat} (hy : Lt y) (e : x = ctr y) : red (a ++ x :: y :: b) = red (a ++ b) := by
  unfold red
  rw [List.foldl_append, List.foldl_cons, List.foldl_cons, rstep_pair (fold_rdd a [] trivial) hy e, ← List.foldl_append]
theorem fold_same : ∀ (l st : List Nat), Rdd (st ++ l) → l.foldl rstep st = st ++ l
  | [], st, _ => by simp
  | c :: l, st, h => by
    have h' : Rdd ((st ++ [c]) ++ l) := by rw [List.append_assoc]; exact h
    have h2 := (Rdd.left h').init.2
    rw [List.foldl_cons]
    have : rstep st c = st ++ [c] := by unfold rstep; rw [if_neg h2]
    rw [this, fold_same l (st ++ [c]) h', List.append_assoc]
    rfl
theorem red_same {l : List Nat} (h : Rdd l) : red l = l := by
  exact fold_same l [] h
theorem fold_lt : ∀ (l st : List Nat), (∀ c ∈ l, Lt c) → (∀ c ∈ st, Lt c) → ∀ c ∈ l.foldl rstep st, Lt c
  | [], _, _, h => h
  | a :: l, st, h1, h2 => fold_lt l _ (fun c hc => h1 c (List.mem_cons_of_mem _ hc)) fun c hc => (rstep_mem hc).elim (h2 c) fun z => z ▸ h1 a List.mem_cons_self
theorem red_lt {l : List Nat} (h : ∀ c ∈ l, Lt c) : ∀ c ∈ red l, Lt c := fold_lt l [] h fun _ h => absurd h List.not_mem_nil
theorem rstep_len (st : List Nat) (c : Nat) : (rstep st c).length ≤ st.length + 1 := by
  unfold rstep
  by_cases e : st.getLast? = some (ctr c)
  · rw [if_pos e, List.length_dropLast]; omega
  · rw [if_neg e, List.length_append]; exact Nat.le_refl _
theorem fold_len : ∀ (l st : List Nat), (l.foldl rstep st).length ≤ st.length + l.length
  | [], _ => Nat.le_refl _
  | c :: l, st => by
    have := fold_len l (rstep st c)
    have h2 := rstep_len st c
    rw [List.foldl_cons, List.length_cons]
    omega
theorem red_len (l : List Nat) : (red l).length ≤ l.length := by
  have := fold_len l []
  rw [List.length_nil, Nat.zero_add] at this
  exact this
theorem red_take {l : List Nat} {i c : Nat} (h : l[i]? = some c) : red (l.take (i + 1)) = rstep (red (l.take i)) c := by
  unfold red
  rw [← take_snoc h, List.foldl_append]
  rfl
theorem rdd_of : ∀ {l : List Nat}, (∀ k a b, l[k]? = some a → l[k + 1]? = some b → a ≠ ctr b) → Rdd l
  | [], _ => trivial
  | [_], _ => trivial
  | a :: b :: r, h => ⟨h 0 a b rfl rfl, rdd_of (l := b :: r) fun k x y h1 h2 => h (k + 1) x y (by simpa using h1) (by simpa using h2)⟩
/-- the window from s to e -/
def win (l : List Nat) (s e : Nat) : List Nat := (l.drop s).take (e - s)
/-- ends that are contraries fall off -/
def strip : Nat → List Nat → List Nat
  | 0, l => l
  | n + 1, l => match l with
    | [] => []
    | [a] => [a]
    | a :: b :: r => if a = ctr ((b :: r).getLast (by simp)) then strip n (b :: r).dropLast else a :: b :: r
theorem strip_short : ∀ (n : Nat) {l : List Nat}, l.length < 2 → strip n l = l
  | 0, _, _ => rfl
  | _ + 1, [], _ => rfl
  | _ + 1, [_], _ => rfl
  | _ + 1, _ :: _ :: _, h => by simp at h; omega
theorem getLast_snoc (l : List Nat) (y : Nat) : (l ++ [y]).getLast (by simp) = y := by simp
theorem strip_go (n : Nat) {a y : Nat} {m : List Nat} (h : a = ctr y) : strip (n + 1) (a :: (m ++ [y])) = strip n m := by
  cases m with
  | nil =>
    show (if a = ctr (([y] : List Nat).getLast (by simp)) then strip n ([y] : List Nat).dropLast else _) = strip n []
    rw [if_pos (by simpa using h)]
    rfl
  | cons b r =>
    show (if a = ctr ((b :: (r ++ [y])).getLast (by simp)) then strip n (b :: (r ++ [y])).dropLast else _) = strip n (b :: r)
    have e1 : (b :: (r ++ [y])).getLast (by simp) = y := getLast_snoc (b :: r) y
    have e2 : (b :: (r ++ [y])).dropLast = b :: r := by
      have : b :: (r ++ [y]) = (b :: r) ++ [y] := rfl
      rw [this, List.dropLast_concat]
    rw [if_pos (by rw [e1]; exact h), e2]
theorem strip_stop (n : Nat) {a y : Nat} {m : List Nat} (h : a ≠ ctr y) : strip n (a :: (m ++ [y])) = a :: (m ++ [y]) := by
  cases n with
  | zero => rfl
  | succ n =>
    cases m with
    | nil =>
      show (if a = ctr (([y] : List Nat).getLast (by simp)) then _ else _) = _
      rw [if_neg (by simpa using h)]
      rfl
    | cons b r =>
      show (if a = ctr ((b :: (r ++ [y])).getLast (by simp)) then _ else _) = _
      have e1 : (b :: (r ++ [y])).getLast (by simp) = y := getLast_snoc (b :: r) y
      rw [if_neg (by rw [e1]; exact h)]
      rfl
/-- two letters at least: the first, the middle, the last -/
theorem ends2 {l : List Nat} (h : 2 ≤ l.length) : ∃ a m y, l = a :: (m ++ [y]) := by
  cases l with
  | nil => simp at h
  | cons a r =>
    rcases snoc_cases r with rfl | ⟨m, y, rfl⟩
    · simp at h
    · exact ⟨a, m, y, rfl⟩
theorem strip_more : ∀ (n : Nat) (l : List Nat) (k : Nat), l.length ≤ n → strip (n + k) l = strip n l
  | 0, l, k, h => by rw [strip_short _ (by omega), strip_short _ (by omega)]
  | n + 1, l, k, h => by
    by_cases h2 : l.length < 2
    · rw [strip_short _ h2, strip_short _ h2]
    · obtain ⟨a, m, y, rfl⟩ := ends2 (l := l) (by omega)
      have hm : m.length ≤ n := by simp at h; omega
      by_cases e : a = ctr y
      · have : n + 1 + k = (n + k) + 1 := by omega
        rw [this, strip_go _ e, strip_go _ e, strip_more n m k hm]
      · rw [strip_stop _ e, strip_stop _ e]
/-- the shortest -/
def core (l : List Nat) : List Nat := strip l.length l
theorem core_go {a y : Nat} {m : List Nat} (h : a = ctr y) : core (a :: (m ++ [y])) = core m := by
  unfold core
  have : (a :: (m ++ [y])).length = (m.length + 1) + 1 := by simp
  rw [this, strip_go _ h, strip_more _ _ _ (Nat.le_refl _)]
theorem core_stop {a y : Nat} {m : List Nat} (h : a ≠ ctr y) : core (a :: (m ++ [y])) = a :: (m ++ [y]) := strip_stop _ h
theorem core_short {l : List Nat} (h : l.length < 2) : core l = l := strip_short _ h
theorem core_ind {P : List Nat → List Nat → Prop} (h1 : ∀ l, l.length < 2 → P l l) (h2 : ∀ a m y, a ≠ ctr y → P (a :: (m ++ [y])) (a :: (m ++ [y]))) (h3 : ∀ a m y r, a = ctr y → P m r → P (a :: (m ++ [y])) r) : ∀ (n : Nat) (l : List Nat), l.length ≤ n → P l (core l)
  | 0, l, h => by rw [core_short (by omega)]; exact h1 l (by omega)
  | n + 1, l, h => by
    by_cases hl : l.length < 2
    · rw [core_short hl]; exact h1 l hl
    · obtain ⟨a, m, y, rfl⟩ := ends2 (l := l) (by omega)
      by_cases e : a = ctr y
      · rw [core_go e]
        exact h3 a m y _ e (core_ind h1 h2 h3 n m (by simp at h; omega))
      · rw [core_stop e]; exact h2 a m y e
theorem core_mem {l : List Nat} {c : Nat} : c ∈ core l → c ∈ l :=
  core_ind (P := fun l r => c ∈ r → c ∈ l) (fun _ _ h => h) (fun _ _ _ _ h => h) (fun a m y r _ k h => List.mem_cons_of_mem _ (List.mem_append_left _ (k h))) l.length l (Nat.le_refl _)
theorem core_len (l : List Nat) : (core l).length ≤ l.length :=
  core_ind (P := fun l r => r.length ≤ l.length) (fun _ _ => Nat.le_refl _) (fun _ _ _ _ => Nat.le_refl _) (fun a m y r _ k => by simp; omega) l.length l (Nat.le_refl _)
theorem win_go {l : List Nat} {s e : Nat} (h1 : s + 2 ≤ e) (h2 : e ≤ l.length) : win l s e = l[s] :: (win l (s + 1) (e - 1) ++ [l[e - 1]]) := by
  unfold win
  rw [List.drop_eq_getElem_cons (by omega)]
  have e1 : e - s = (e - 1 - (s + 1)) + 1 + 1 := by omega
  rw [e1, List.take_succ_cons, List.take_add_one, List.getElem?_drop]
  have e2 : s + 1 + (e - 1 - (s + 1)) = e - 1 := by omega
  rw [e2, List.getElem?_eq_getElem (by omega)]
  rfl
theorem win_len {l : List Nat} {s e : Nat} (h2 : e ≤ l.length) : (win l s e).length = e - s := by unfold win; rw [List.length_take, List.length_drop]; omega
theorem win_all (l : List Nat) : win l 0 l.length = l := by unfold win; simp
def sp_shortened (_ : PySem.W.Frag) : Sp := fun vs H Q _ => ∃ l : List Nat, vs = [.str (S l)] ∧ (∀ c ∈ l, Lt c) ∧ l.length ≤ 1000 ∧ ∀ H', Same H H' → Q (.str (S (red l))) H'
theorem len_shortened {K : PySem.W.Frag} {vs : List V} {H : Hp} {Q : VK} {E : XK} (h : sp_shortened K vs H Q E) : vs.length = 1 := by obtain ⟨c, rfl, _⟩ := h; rfl
def sp_shortest (_ : PySem.W.Frag) : Sp := fun vs H Q _ => ∃ l : List Nat, vs = [.str (S l)] ∧ (∀ c ∈ l, Lt c) ∧ l.length ≤ 1000 ∧ ∀ H', Same H H' → Q (.str (S (core (red l)))) H'
theorem len_shortest {K : PySem.W.Frag} {vs : List V} {H : Hp} {Q : VK} {E : XK} (h : sp_shortest K vs H Q E) : vs.length = 1 := by obtain ⟨c, rfl, _⟩ := h; rfl
theorem cut_to {α : Type} (l : List α) (k : Nat) : cut l none (some (k : Int)) = l.take k := by
  unfold cut
  rw [HT.sIx_none, HT.sIx_nat, List.drop_zero, Nat.sub_zero]
  by_cases h : k ≤ l.length
  · rw [Nat.min_eq_left h]
  · rw [Nat.min_eq_right (by omega), List.take_of_length_le (Nat.le_refl _), List.take_of_length_le (by omega)]
theorem cut_from {α : Type} (l : List α) (k : Nat) : cut l (some (k : Int)) none = l.drop k := by
  unfold cut
  rw [HT.sIx_none, HT.sIx_nat]
  by_cases h : k ≤ l.length
  · rw [Nat.min_eq_left h, List.take_of_length_le (by rw [List.length_drop]; exact Nat.le_refl _)]
  · rw [Nat.min_eq_right (by omega), List.drop_of_length_le (Nat.le_refl _), List.drop_of_length_le (by omega)]
    simp
mutual
theorem eqv_refl : ∀ d : PyData, d.hasDict = false → PyData.eqv d d = true
  | .none, _ => rfl
  | .bool b, _ => by simp [PyData.eqv]
  | .int i, _ => by simp [PyData.eqv]
  | .str x, _ => by simp [PyData.eqv]
  | .list xs, h => by show PyData.eqvAll xs xs = true; exact eqvAll_refl xs (by simpa [PyData.hasDict] using h)
  | .tuple xs, h => by show PyData.eqvAll xs xs = true; exact eqvAll_refl xs (by simpa [PyData.hasDict] using h)
  | .dict kvs, h => by simp [PyData.hasDict] at h
theorem eqvAll_refl : ∀ ds : List PyData, PyData.hasDictAll ds = false → PyData.eqvAll ds ds = true
  | [], _ => rfl
  | d :: ds, h => by
    simp [PyData.hasDictAll] at h
    show (PyData.eqv d d && PyData.eqvAll ds ds) = true
    rw [eqv_refl d h.1, eqvAll_refl ds h.2]
    rfl
end
/-! rings -/
def rot (c : List Nat) (k : Nat) : List Nat := c.drop k ++ c.take k
def rots (c : List Nat) (n : Nat) : List (List Nat) := (List.range n).map fun k => rot c (k + 1)
def ringC (c : List Nat) : List Nat := leastOf c (rots c (c.length - 1))
@[irreducible] def ringM (w : List Nat) : List Nat := ringC (core (red w))
theorem ringM_eq (w : List Nat) : ringM w = ringC (core (red w)) := by unfold ringM; rfl
theorem rots_snoc (c : List Nat) (n : Nat) : rots c (n + 1) = rots c n ++ [rot c (n + 1)] := by unfold rots; rw [List.range_succ, List.map_append]; rfl
theorem leastOf_snoc : ∀ (r : List (List Nat)) (a b : List Nat), leastOf a (r ++ [b]) = lesser (leastOf a r) b
  | [], _, _ => rfl
  | _ :: r, _, _ => leastOf_snoc r _ _
theorem rot_len (c : List Nat) (k : Nat) : (rot c k).length = c.length := by unfold rot; rw [List.length_append, List.length_drop, List.length_take]; omega
theorem rot_mem {c : List Nat} {k x : Nat} (h : x ∈ rot c k) : x ∈ c := (List.mem_append.mp h).elim List.mem_of_mem_drop List.mem_of_mem_take
theorem leastOf_in : ∀ (r : List (List Nat)) (a : List Nat), leastOf a r = a ∨ leastOf a r ∈ r
  | [], a => .inl rfl
  | b :: r, a => by
    rcases leastOf_in r (lesser a b) with h | h
    · have hl : lesser a b = a ∨ lesser a b = b := by unfold lesser; split <;> simp
      rcases hl with e | e
      · left; show leastOf (lesser a b) r = a; rw [h, e]
      · right; show leastOf (lesser a b) r ∈ b :: r; rw [h, e]; exact List.mem_cons_self
    · right; exact List.mem_cons_of_mem _ h
theorem ringC_rot (c : List Nat) : ∃ k, ringC c = rot c k := by
  rcases leastOf_in (rots c (c.length - 1)) c with h | h
  · exact ⟨0, by show leastOf _ _ = _; rw [h]; unfold rot; simp⟩
  · unfold rots at h
    obtain ⟨k, _, e⟩ := List.mem_map.mp h
    exact ⟨k + 1, e.symm⟩
theorem core_lt {w : List Nat} (h : ∀ c ∈ w, Lt c) : ∀ c ∈ core (red w), Lt c := fun c hc => red_lt h c (core_mem hc)
theorem ringM_lt {w : List Nat} (h : ∀ c ∈ w, Lt c) : ∀ c ∈ ringM w, Lt c := fun c hc => by
  obtain ⟨k, e⟩ := ringC_rot (core (red w))
  unfold ringM at hc
  rw [e] at hc
  exact core_lt h c (rot_mem hc)
theorem ringM_len (w : List Nat) : (ringM w).length ≤ w.length := by
  obtain ⟨k, e⟩ := ringC_rot (core (red w))
  unfold ringM
  rw [e, rot_len]
  exact Nat.le_trans (core_len _) (red_len w)
def sp_ring (_ : PySem.W.Frag) : Sp := fun vs H Q _ => ∃ l : List Nat, vs = [.str (S l)] ∧ (∀ c ∈ l, Lt c) ∧ l.length ≤ 1000 ∧ ∀ H', Same H H' → Q (.str (S (ringM l))) H'
theorem len_ring {K : PySem.W.Frag} {vs : List V} {H : Hp} {Q : VK} {E : XK} (h : sp_ring K vs H Q E) : vs.length = 1 := by obtain ⟨c, rfl, _⟩ := h; rfl
/-! words begun elsewhere -/
def AllLt (l : List Nat) : Prop := ∀ c ∈ l, Lt c
theorem AllLt.app {a b : List Nat} (h : AllLt a) (g : AllLt b) : AllLt (a ++ b) := fun c hc => (List.mem_append.mp hc).elim (h c) (g c)
theorem AllLt.left {a b : List Nat} (h : AllLt (a ++ b)) : AllLt a := fun c hc => h c (List.mem_append_left _ hc)
theorem AllLt.right {a b : List Nat} (h : AllLt (a ++ b)) : AllLt b := fun c hc => h c (List.mem_append_right _ hc)
/-- made shorter within -/
theorem red_ctx_go : ∀ (t st x y : List Nat), AllLt t → red (x ++ (st ++ t) ++ y) = red (x ++ t.foldl rstep st ++ y)
  | [], st, x, y, _ => by rw [List.append_nil]; rfl
  | c :: t, st, x, y, h => by
    have hc : Lt c := h c List.mem_cons_self
    have ht : AllLt t := fun d hd => h d (List.mem_cons_of_mem _ hd)
    rw [List.foldl_cons, ← red_ctx_go t (rstep st c) x y ht]
    unfold rstep
    by_cases e : st.getLast? = some (ctr c)
    · rw [if_pos e]
      obtain ⟨m, rfl⟩ := last_snoc e
      rw [List.dropLast_concat]
      have := red_pair (a := x ++ m) (b := t ++ y) hc rfl
      simpa [List.append_assoc] using this
    · rw [if_neg e]
      simp [List.append_assoc]
theorem red_ctx {t : List Nat} (x y : List Nat) (h : AllLt t) : red (x ++ t ++ y) = red (x ++ red t ++ y) := by
  have : red (x ++ ([] ++ t) ++ y) = red (x ++ red t ++ y) := red_ctx_go t [] x y h
  simpa using this
theorem red_left {t : List Nat} (y : List Nat) (h : AllLt t) : red (t ++ y) = red (red t ++ y) := by simpa using red_ctx [] y h
theorem red_right {t : List Nat} (x : List Nat) (h : AllLt t) : red (x ++ t) = red (x ++ red t) := by simpa using red_ctx x [] h
/-! the least of the words begun elsewhere -/
theorem lesser_le_left (a b : List Nat) : ¬ a < lesser a b := by
  unfold lesser
  split
  · rename_i h; exact fun g => List.lt_irrefl a (List.lt_trans g h)
  · exact List.lt_irrefl a
theorem lesser_le_right (a b : List Nat) : ¬ b < lesser a b := by
  unfold lesser
  split
  · exact List.lt_irrefl b
  · rename_i h; exact h
theorem le_tr {a b c : List Nat} (h : ¬ b < a) (g : ¬ c < b) : ¬ c < a := List.le_trans (show a ≤ b from h) (show b ≤ c from g)
theorem le_asym {a b : List Nat} (h : ¬ b < a) (g : ¬ a < b) : a = b := List.le_antisymm (show a ≤ b from h) (show b ≤ a from g)
theorem leastOf_le : ∀ (r : List (List Nat)) (a : List Nat), ∀ x ∈ a :: r, ¬ x < leastOf a r
  | [], a, x, hx => by rw [List.mem_singleton.mp hx]; exact List.lt_irrefl a
  | b :: r, a, x, hx => by
    show ¬ x < leastOf (lesser a b) r
    have h0 := leastOf_le r (lesser a b) (lesser a b) List.mem_cons_self
    rcases List.mem_cons.mp hx with e | hx
    · rw [e]; exact le_tr h0 (lesser_le_left a b)
    · rcases List.mem_cons.mp hx with e | hx
      · rw [e]; exact le_tr h0 (lesser_le_right a b)
      · exact leastOf_le r (lesser a b) x (List.mem_cons_of_mem _ hx)
theorem rot_zero (c : List Nat) : rot c 0 = c := by unfold rot; simp
theorem rot_all (c : List Nat) : rot c c.length = c := by unfold rot; simp
theorem ringC_le (c : List Nat) (k : Nat) (hk : k ≤ c.length) : ¬ rot c k < ringC c := by
  have h := leastOf_le (rots c (c.length - 1)) c
  by_cases z : k = 0
  · rw [z, rot_zero]; exact h c List.mem_cons_self
  · by_cases z2 : k = c.length
    · rw [z2, rot_all]; exact h c List.mem_cons_self
    · refine h _ (List.mem_cons_of_mem _ ?_)
      unfold rots
      exact List.mem_map.mpr ⟨k - 1, List.mem_range.mpr (by omega), by rw [show k - 1 + 1 = k by omega]⟩
theorem ringC_some (c : List Nat) : ∃ k, k ≤ c.length ∧ ringC c = rot c k := by
  rcases leastOf_in (rots c (c.length - 1)) c with h | h
  · exact ⟨0, Nat.zero_le _, by show leastOf _ _ = _; rw [h, rot_zero]⟩
  · unfold rots at h
    obtain ⟨k, hk, e⟩ := List.mem_map.mp h
    have := List.mem_range.mp hk
    exact ⟨k + 1, by omega, e.symm⟩
theorem ringC_is {c m : List Nat} (h1 : ∃ k, k ≤ c.length ∧ m = rot c k) (h2 : ∀ k, k ≤ c.length → ¬ rot c k < m) : ringC c = m := by
  obtain ⟨k, hk, e⟩ := h1
  obtain ⟨j, hj, e2⟩ := ringC_some c
  refine le_asym ?_ ?_
  · rw [e]; exact ringC_le c k hk
  · rw [e2]; exact h2 j hj
theorem rot_app (a b : List Nat) : rot (a ++ b) a.length = b ++ a := by unfold rot; rw [List.drop_left, List.take_left]
theorem rot_rot {c : List Nat} {k j : Nat} (hk : k ≤ c.length) (hj : j ≤ c.length) : ∃ i, i ≤ c.length ∧ rot (rot c k) j = rot c i := by
  by_cases z : j ≤ c.length - k
  · refine ⟨k + j, by omega, ?_⟩
    unfold rot
    rw [List.drop_append_of_le_length (by rw [List.length_drop]; omega), List.take_append_of_le_length (by rw [List.length_drop]; omega), List.drop_drop, List.append_assoc, ← List.take_add]
  · refine ⟨j - (c.length - k), by omega, ?_⟩
    unfold rot
    have e1 : (c.drop k).length = c.length - k := List.length_drop
    rw [List.drop_append, List.take_append, e1, List.drop_of_length_le (by rw [e1]; omega), List.take_of_length_le (l := c.drop k) (by rw [e1]; omega), List.nil_append, List.drop_take, List.take_take]
    have e2 : min (j - (c.length - k)) k = j - (c.length - k) := by omega
    rw [e2]
    have e3 : c.drop (j - (c.length - k)) = (c.drop (j - (c.length - k))).take (k - (j - (c.length - k))) ++ c.drop k := by
      have := List.take_append_drop (k - (j - (c.length - k))) (c.drop (j - (c.length - k)))
      rw [List.drop_drop] at this
      have e : j - (c.length - k) + (k - (j - (c.length - k))) = k := by omega
      rw [e] at this
      exact this.symm
    rw [e3, List.append_assoc]
    congr 2
    exact e3.symm
theorem ringC_rotd {c : List Nat} {k : Nat} (hk : k ≤ c.length) : ringC (rot c k) = ringC c := by
  refine (ringC_is (c := c) ?_ fun j hj => ?_).symm
  · obtain ⟨j, hj, e⟩ := ringC_some (rot c k)
    rw [rot_len] at hj
    rw [e]
    exact rot_rot hk hj
  · have hb : c = rot (rot c k) (c.length - k) := by
      have e : rot c k = c.drop k ++ c.take k := rfl
      have := rot_app (c.drop k) (c.take k)
      rw [List.length_drop, ← e] at this
      rw [this, List.take_append_drop]
    obtain ⟨i, hi, e⟩ := rot_rot (c := rot c k) (k := c.length - k) (j := j) (by rw [rot_len]; omega) (by rw [rot_len]; exact hj)
    rw [← hb] at e
    rw [e]
    exact ringC_le _ i hi
theorem ringC_swap (a b : List Nat) : ringC (a ++ b) = ringC (b ++ a) := by
  rw [← rot_app a b]
  exact (ringC_rotd (by rw [List.length_append]; omega)).symm
/-- one letter goes from the beginning to the end -/
theorem ne_sym {a b : Nat} (ha : Lt a) (hb : Lt b) (h : a ≠ ctr b) : b ≠ ctr a := fun z => h (by rw [z, ctr_ctr ha])
theorem core_same {l : List Nat} (h : ∀ a m y, l = a :: (m ++ [y]) → a ≠ ctr y) : core l = l := by
  by_cases z : l.length < 2
  · exact core_short z
  · obtain ⟨a, m, y, rfl⟩ := ends2 (l := l) (by omega)
    exact core_stop (h a m y rfl)
theorem rdd_cons {c d : Nat} {r : List Nat} (h : Rdd (d :: r)) (hc : c ≠ ctr d) : Rdd (c :: d :: r) := ⟨hc, h⟩
theorem one_on {c : Nat} {t : List Nat} (hc : Lt c) (ht : AllLt t) : ringC (core (red (c :: t))) = ringC (core (red (t ++ [c]))) := by
  have e1 : red (c :: t) = red (c :: red t) := red_right [c] ht
  have e2 : red (t ++ [c]) = red (red t ++ [c]) := red_left [c] ht
  rw [e1, e2]
  have hr : Rdd (red t) := red_rdd t
  have hrl : AllLt (red t) := red_lt ht
  generalize red t = r at hr hrl
  cases r with
  | nil => rfl
  | cons d s =>
    have hd : Lt d := hrl d List.mem_cons_self
    have hsl : AllLt s := fun x hx => hrl x (List.mem_cons_of_mem _ hx)
    obtain ⟨m, e, hme⟩ : ∃ m e, d :: s = m ++ [e] := by
      rcases snoc_cases (d :: s) with z | ⟨m, e, z⟩
      · cases z
      · exact ⟨m, e, z⟩
    have hel : Lt e := hrl e (by rw [hme]; simp)
    have last : (d :: s).getLast? = some e := by rw [hme]; simp
    by_cases hcd : c = ctr d
    · have f1 : red (c :: d :: s) = s := by
        have := red_pair (a := []) (b := s) hd hcd
        rw [List.nil_append, List.nil_append] at this
        rw [this, red_same hr.tail]
      rw [f1]
      by_cases hec : e = ctr c
      · have f2 : red (d :: s ++ [c]) = m := by
          rw [hme, List.append_assoc]
          have := red_pair (a := m) (b := []) hc hec
          rw [List.append_nil] at this
          show red (m ++ e :: c :: []) = m
          rw [this, red_same]
          rw [hme] at hr
          exact hr.init.1
        rw [f2]
        have hed : e = d := by rw [hec, hcd, ctr_ctr hd]
        subst hed
        cases m with
        | nil =>
          have : s = [] := by cases hme; rfl
          rw [this]
        | cons x m' =>
          have hx : x = e ∧ s = m' ++ [e] := by
            have := hme
            rw [List.cons_append] at this
            injection this with h1 h2
            exact ⟨h1.symm, h2⟩
          obtain ⟨rfl, rfl⟩ := hx
          have k1 : core (m' ++ [x]) = m' ++ [x] := core_same fun a mm y z => by
            cases m' with
            | nil => simp at z
            | cons a' m'' =>
              rw [List.cons_append] at z
              injection z with z1 z2
              have z3 : y = x := by
                have := congrArg List.getLast? z2
                simpa using this.symm
              rw [← z1, z3]
              exact ne_sym hd (hsl a' (by simp)) hr.1
          have k2 : core (x :: m') = x :: m' := core_same fun a mm y z => by
            injection z with z1 z2
            rw [← z1]
            subst z2
            have := hr.tail
            rw [List.append_assoc] at this
            have h4 : Rdd ((mm ++ [y]) ++ [x]) := by rw [List.append_assoc]; exact this
            have h5 := h4.init.2
            intro z
            exact h5 (by rw [z, List.getLast?_concat, ctr_ctr (hsl y (by simp))])
          rw [k1, k2]
          exact ringC_swap m' [x]
      · have f2 : red (d :: s ++ [c]) = d :: s ++ [c] := red_same (hr.snoc (by rw [last]; intro z; exact hec (by injection z)))
        rw [f2]
        have : core (d :: (s ++ [c])) = core s := core_go (by rw [hcd, ctr_ctr hd])
        rw [List.cons_append, this]
    · have f1 : red (c :: d :: s) = c :: d :: s := red_same (rdd_cons hr hcd)
      rw [f1]
      by_cases hec : e = ctr c
      · have f2 : red (d :: s ++ [c]) = m := by
          rw [hme, List.append_assoc]
          have := red_pair (a := m) (b := []) hc hec
          rw [List.append_nil] at this
          show red (m ++ e :: c :: []) = m
          rw [this, red_same]
          rw [hme] at hr
          exact hr.init.1
        rw [f2, hme, core_go (by rw [hec, ctr_ctr hc])]
      · have f2 : red (d :: s ++ [c]) = d :: s ++ [c] := red_same (hr.snoc (by rw [last]; intro z; exact hec (by injection z)))
        rw [f2]
        have k1 : core (c :: d :: s) = c :: d :: s := by
          rw [hme]
          exact core_stop (ne_sym hel hc hec)
        have k2 : core (d :: s ++ [c]) = d :: s ++ [c] := by
          rw [List.cons_append]
          exact core_stop (ne_sym hc hd hcd)
        rw [k1, k2]
        exact ringC_swap [c] (d :: s)
theorem ring_swap : ∀ {u v : List Nat}, AllLt u → AllLt v → ringM (u ++ v) = ringM (v ++ u)
  | [], v, _, _ => by rw [List.append_nil]; rfl
  | c :: u, v, hu, hv => by
    have hc : Lt c := hu c List.mem_cons_self
    have hu' : AllLt u := fun x hx => hu x (List.mem_cons_of_mem _ hx)
    have e1 : ringM (c :: u ++ v) = ringM (u ++ v ++ [c]) := by
      rw [ringM_eq, ringM_eq]
      exact one_on hc (hu'.app hv)
    have e2 := ring_swap (u := u) (v := v ++ [c]) hu' (hv.app fun x hx => by rw [List.mem_singleton.mp hx]; exact hc)
    rw [e1, List.append_assoc, e2, List.append_assoc]
    rfl
/-! yards: letters, bands, what goes round -/
def letters : List Nat := [97, 98, 99, 100, 101, 102, 103, 104, 105, 106, 107, 108, 109, 110, 111, 112, 113, 114, 115, 116, 117, 118, 119, 120, 121, 122, 65, 66, 67, 68, 69, 70, 71, 72, 73, 74, 75, 76, 77, 78, 79, 80, 81, 82, 83, 84, 85, 86, 87, 88, 89, 90]
theorem nd_ix {l : List Nat} (h : l.Nodup) {i j : Nat} (hi : i < l.length) (hj : j < l.length) (e : l[i] = l[j]) : i = j := by
  have hp := List.pairwise_iff_getElem.mp h
  rcases Nat.lt_trichotomy i j with z | z | z
  · exact absurd e (hp i j hi hj z)
  · exact z
  · exact absurd e.symm (hp j i hj hi z)
theorem Lt.letters {c : Nat} (h : Lt c) : c ∈ letters := h.mem
theorem low_of_small : ∀ c ∈ smalls, isLow c = true ∧ PyProof.Rows.lo1 c = c ∧ ctr c ∈ caps := by decide +kernel
theorem low_of_cap : ∀ c ∈ caps, isLow c = false ∧ PyProof.Rows.lo1 c = ctr c ∧ c ∉ smalls ∧ ctr c ∈ smalls := by decide +kernel
theorem cap_small : ∀ c ∈ caps, c ∉ smalls := by decide +kernel
theorem isLow_iff {c : Nat} (h : Lt c) : isLow c = decide (c ∈ smalls) := by
  rcases h with h | h
  · rw [(low_of_small c h).1, decide_eq_true h]
  · rw [(low_of_cap c h).1, decide_eq_false (low_of_cap c h).2.2.1]
/-- the ends of some bands -/
def kept (sm : List Nat) (c : Nat) : Bool := decide (PyProof.Rows.lo1 c ∈ sm)
theorem kept_or {sm : List Nat} {c : Nat} (hs : ∀ d ∈ sm, d ∈ smalls) (h : Lt c) : kept sm c = (decide (c ∈ sm) || decide (ctr c ∈ sm)) := by
  unfold kept
  rcases h with h | h
  · obtain ⟨_, e, e2⟩ := low_of_small c h
    have : ctr c ∉ sm := fun z => cap_small _ e2 (hs _ z)
    rw [e, decide_eq_false this, Bool.or_false]
  · obtain ⟨_, e, e2, _⟩ := low_of_cap c h
    have : c ∉ sm := fun z => e2 (hs _ z)
    rw [e, decide_eq_false this, Bool.false_or]
theorem kept_ctr {sm : List Nat} {c : Nat} (hs : ∀ d ∈ sm, d ∈ smalls) (h : Lt c) : kept sm (ctr c) = kept sm c := by
  rw [kept_or hs h, kept_or hs h.ctr, ctr_ctr h, Bool.or_comm]
theorem Yd.within {y sm : List Nat} (h : Yd y) (hs : ∀ d ∈ sm, d ∈ smalls) : Yd (y.filter (kept sm)) :=
  ⟨h.nd.filter _, fun c hc => h.lt c (List.mem_filter.mp hc).1, fun c hc => by
    obtain ⟨h1, h2⟩ := List.mem_filter.mp hc
    exact List.mem_filter.mpr ⟨h.cl c h1, by rw [kept_ctr hs (h.lt c h1)]; exact h2⟩⟩
/-- which of two comes first, going on from a third -/
def gr (y : List Nat) (a b c : Nat) : Bool := decide ((((y.idxOf b : Nat) : Int) - ((y.idxOf a : Nat) : Int)) % (y.length : Int) < (((y.idxOf c : Nat) : Int) - ((y.idxOf a : Nat) : Int)) % (y.length : Int))
def cyc (i j k : Nat) : Prop := (i < j ∧ j < k) ∨ (j < k ∧ k < i) ∨ (k < i ∧ i < j)
instance (i j k : Nat) : Decidable (cyc i j k) := by unfold cyc; infer_instance
theorem mod_ix {i j n : Nat} (hi : i < n) (hj : j < n) : ((j : Int) - (i : Int)) % (n : Int) = if i ≤ j then (j : Int) - i else (j : Int) - i + n := by
  split
  · exact Int.emod_eq_of_lt (by omega) (by omega)
  · rw [← Int.add_emod_right]
    exact Int.emod_eq_of_lt (by omega) (by omega)
theorem gr_cyc {y : List Nat} {a b c : Nat} (hn : y.Nodup) (ha : a ∈ y) (hb : b ∈ y) (hc : c ∈ y) (hab : a ≠ b) (hac : a ≠ c) (hbc : b ≠ c) : gr y a b c = decide (cyc (y.idxOf a) (y.idxOf b) (y.idxOf c)) := by
  have ia := List.idxOf_lt_length_of_mem ha
  have ib := List.idxOf_lt_length_of_mem hb
  have ic := List.idxOf_lt_length_of_mem hc
  have inj : ∀ {u v : Nat}, u ∈ y → v ∈ y → u ≠ v → y.idxOf u ≠ y.idxOf v := fun {u v} hu hv h z => h (by
    have e1 := List.getElem_idxOf (List.idxOf_lt_length_of_mem hu)
    have e2 := List.getElem_idxOf (List.idxOf_lt_length_of_mem hv)
    rw [← e1, ← e2]
    congr 1)
  have n1 := inj ha hb hab
  have n2 := inj ha hc hac
  have n3 := inj hb hc hbc
  unfold gr
  rw [mod_ix ia ib, mod_ix ia ic]
  generalize y.idxOf a = i at *
  generalize y.idxOf b = j at *
  generalize y.idxOf c = k at *

  refine decide_eq_decide.mpr ?_
  unfold cyc
  split <;> split <;> omega
theorem idx_ne {y : List Nat} {u v : Nat} (hu : u ∈ y) (hv : v ∈ y) (h : u ≠ v) : y.idxOf u ≠ y.idxOf v := fun z => h (by
  have e1 := List.getElem_idxOf (List.idxOf_lt_length_of_mem hu)
  have e2 := List.getElem_idxOf (List.idxOf_lt_length_of_mem hv)
  rw [← e1, ← e2]
  congr 1)
theorem idx_at (d : Nat) (t : List Nat) (a : Nat) : (d :: t).idxOf a = if d = a then 0 else t.idxOf a + 1 := by
  by_cases h : d = a
  · subst h; rw [if_pos rfl, List.idxOf_cons_self]
  · rw [if_neg h, List.idxOf_cons, show (d == a) = false by simp [h]]; rfl
/-- of just as many, sorted, the same -/
theorem sorted_eq {a b : List Nat} (h : a.Perm b) (ha : a.Pairwise (· ≤ ·)) (hb : b.Pairwise (· ≤ ·)) : a = b :=
  List.Perm.eq_of_pairwise (le := fun x y => x ≤ y) (fun _ _ _ _ h1 h2 => Nat.le_antisymm h1 h2) ha hb h
/-! specs of the yards' own -/
def sp_bands (_ : PySem.W.Frag) : Sp := fun vs H Q _ => ∃ l : List Nat, vs = [.str (S l)] ∧ (∀ c ∈ l, c < 128) ∧ l.length < 64 ∧ ∀ l' H', l'.Perm (l.filter isLow) → l'.Pairwise (· ≤ ·) → Same H H' → Q (.str (S l')) H'
theorem len_bands {K : PySem.W.Frag} {vs : List V} {H : Hp} {Q : VK} {E : XK} (h : sp_bands K vs H Q E) : vs.length = 1 := by obtain ⟨c, rfl, _⟩ := h; rfl
def sp_steps_round (_ : PySem.W.Frag) : Sp := fun vs H Q _ => ∃ (y : List Nat) (a b : Nat), vs = [.str (S y), .str (S [a]), .str (S [b])] ∧ a ∈ y ∧ b ∈ y ∧ y.length ≤ 1000 ∧ Q (.int ((((y.idxOf b : Nat) : Int) - ((y.idxOf a : Nat) : Int)) % (y.length : Int))) H
theorem len_steps_round {K : PySem.W.Frag} {vs : List V} {H : Hp} {Q : VK} {E : XK} (h : sp_steps_round K vs H Q E) : vs.length = 3 := by obtain ⟨c, _, _, rfl, _⟩ := h; rfl
def sp_goes_round (_ : PySem.W.Frag) : Sp := fun vs H Q _ => ∃ (y : List Nat) (a b c : Nat), vs = [.str (S y), .str (S [a]), .str (S [b]), .str (S [c])] ∧ a ∈ y ∧ b ∈ y ∧ c ∈ y ∧ y.length ≤ 1000 ∧ Q (.bl (gr y a b c)) H
theorem len_goes_round {K : PySem.W.Frag} {vs : List V} {H : Hp} {Q : VK} {E : XK} (h : sp_goes_round K vs H Q E) : vs.length = 4 := by obtain ⟨c, _, _, _, rfl, _⟩ := h; rfl
theorem filter_take {p : Nat → Bool} {l : List Nat} {i c : Nat} (h : l[i]? = some c) : (l.take (i + 1)).filter p = (l.take i).filter p ++ if p c = true then [c] else [] := by
  rw [← take_snoc h, List.filter_append]
  congr 1
  by_cases z : p c = true
  · rw [if_pos z, List.filter_cons_of_pos z]; rfl
  · rw [if_neg z, List.filter_cons_of_neg z]; rfl
/-- half of the ends are small -/
theorem half_low {y : List Nat} (h : Yd y) : 2 * (y.filter isLow).length = y.length := by
  have key : ∀ p q : Nat → Bool, (∀ c ∈ y, p c = true → q (ctr c) = true) → (y.filter p).length ≤ (y.filter q).length := fun p q hpq => by
    have hn : ((y.filter p).map ctr).Nodup := by
      show ((y.filter p).map ctr).Pairwise (· ≠ ·)
      rw [List.pairwise_map]
      refine (h.nd.filter p).imp_of_mem fun {a b} ha hb z e => z ?_
      exact ctr_inj (h.lt a (List.mem_filter.mp ha).1) (h.lt b (List.mem_filter.mp hb).1) e
    have := hn.length_le_of_subset (l₂ := y.filter q) fun c hc => by
      obtain ⟨d, hd, rfl⟩ := List.mem_map.mp hc
      obtain ⟨d1, d2⟩ := List.mem_filter.mp hd
      exact List.mem_filter.mpr ⟨h.cl d d1, hpq d d1 d2⟩
    rwa [List.length_map] at this
  have k1 := key isLow (fun c => !isLow c) fun c hc z => by
    rw [isLow_iff (h.lt c hc)] at z
    have hs := of_decide_eq_true z
    rw [(low_of_cap _ (low_of_small c hs).2.2).1]; rfl
  have k2 := key (fun c => !isLow c) isLow fun c hc z => by
    rcases h.lt c hc with q | q
    · rw [(low_of_small c q).1] at z; cases z
    · exact (low_of_small _ (low_of_cap c q).2.2.2).1
  have k3 : (y.filter isLow).length + (y.filter fun c => !isLow c).length = y.length := by
    clear k1 k2 key h
    induction y with
    | nil => rfl
    | cons a r ih =>
      cases hq : isLow a
      · rw [List.filter_cons_of_neg (by simp [hq]), List.filter_cons_of_pos (by simp [hq]), List.length_cons, List.length_cons]; omega
      · rw [List.filter_cons_of_pos hq, List.filter_cons_of_neg (by simp [hq]), List.length_cons, List.length_cons]; omega
  omega
/-! rims: the cycles of a yard's ends -/
theorem step_mod {i n : Nat} (h : i < n) : (i + 1) % n = if i + 1 = n then 0 else i + 1 := by
  by_cases z : i + 1 = n
  · rw [if_pos z, z, Nat.mod_self]
  · rw [if_neg z]; exact Nat.mod_eq_of_lt (by omega)
/-- the next end, going on round the rim -/
def nxt (y : List Nat) (e : Nat) : Nat := y.getD ((y.idxOf e + 1) % y.length) 0
theorem nxt_at {y : List Nat} {e : Nat} (h : e ∈ y) : ∃ hk : (y.idxOf e + 1) % y.length < y.length, nxt y e = y[(y.idxOf e + 1) % y.length] := by
  have hp := List.length_pos_of_mem h
  have hk : (y.idxOf e + 1) % y.length < y.length := Nat.mod_lt _ hp
  exact ⟨hk, by unfold nxt; rw [List.getD_eq_getElem?_getD, List.getElem?_eq_getElem hk]; rfl⟩
theorem nxt_mem {y : List Nat} {e : Nat} (h : e ∈ y) : nxt y e ∈ y := by
  obtain ⟨hk, e2⟩ := nxt_at h
  rw [e2]; exact List.getElem_mem hk
theorem nxt_inj {y : List Nat} {a b : Nat} (hn : y.Nodup) (ha : a ∈ y) (hb : b ∈ y) (e : nxt y a = nxt y b) : a = b := by
  obtain ⟨k1, e1⟩ := nxt_at ha
  obtain ⟨k2, e2⟩ := nxt_at hb
  rw [e1, e2] at e
  have ix := nd_ix hn k1 k2 e
  have ia := List.idxOf_lt_length_of_mem ha
  have ib := List.idxOf_lt_length_of_mem hb
  rw [step_mod ia, step_mod ib] at ix
  have : y.idxOf a = y.idxOf b := by split at ix <;> split at ix <;> omega
  have g1 := List.getElem_idxOf ia
  have g2 := List.getElem_idxOf ib
  rw [← g1, ← g2]
  congr 1
theorem nxt_ne {y : List Nat} {a : Nat} (hn : y.Nodup) (ha : a ∈ y) (h2 : 2 ≤ y.length) : nxt y a ≠ a := by
  obtain ⟨k1, e1⟩ := nxt_at ha
  have ia := List.idxOf_lt_length_of_mem ha
  intro z
  rw [e1] at z
  have g1 := List.getElem_idxOf ia
  have ix := nd_ix hn k1 ia (z.trans g1.symm)
  rw [step_mod ia] at ix
  split at ix <;> omega
/-- where a rim goes on from a letter -/
def tau (y : List Nat) (e : Nat) : Nat := nxt y (ctr e)
theorem tau_mem {y : List Nat} (h : Yd y) {e : Nat} (he : e ∈ y) : tau y e ∈ y := nxt_mem (h.cl e he)
theorem tau_inj {y : List Nat} (h : Yd y) {a b : Nat} (ha : a ∈ y) (hb : b ∈ y) (e : tau y a = tau y b) : a = b :=
  ctr_inj (h.lt a ha) (h.lt b hb) (nxt_inj h.nd (h.cl a ha) (h.cl b hb) e)
/-- step by step by f, and behind the last comes z -/
def Path (f : Nat → Nat) : List Nat → Nat → Prop
  | [], _ => True
  | a :: r, z => f a = r.headD z ∧ Path f r z
theorem head_app (a b : List Nat) (z : Nat) : (a ++ b).headD z = a.headD (b.headD z) := by cases a <;> rfl
theorem path_app {f : Nat → Nat} : ∀ {a b : List Nat} {z : Nat}, Path f (a ++ b) z ↔ Path f a (b.headD z) ∧ Path f b z
  | [], b, z => ⟨fun h => ⟨trivial, h⟩, fun h => h.2⟩
  | c :: a, b, z => by
    show (f c = (a ++ b).headD z ∧ Path f (a ++ b) z) ↔ (f c = a.headD (b.headD z) ∧ Path f a (b.headD z)) ∧ Path f b z
    rw [head_app, path_app (a := a), and_assoc]
theorem path_at {f : Nat → Nat} : ∀ {w : List Nat} {z k a b : Nat}, Path f w z → w[k]? = some a → w[k + 1]? = some b → b = f a
  | [], z, k, a, b, _, h, _ => by cases h
  | c :: r, z, 0, a, b, h, h1, h2 => by
    have e1 : c = a := by simpa using h1
    have e2 : r[0]? = some b := by simpa using h2
    cases r with
    | nil => cases e2
    | cons d r =>
      have e3 : d = b := by simpa using e2
      have := h.1
      rw [← e3, ← e1]
      exact this.symm
  | c :: r, z, k + 1, a, b, h, h1, h2 => path_at h.2 (by simpa using h1) (by simpa using h2)
/-- a whole cycle -/
structure Orb (f : Nat → Nat) (w : List Nat) : Prop where
  ne : w ≠ []
  nd : w.Nodup
  pa : Path f w (w.headD 0)
theorem path_same {f : Nat → Nat} {c : Nat} : ∀ {r s : List Nat}, Path f r c → Path f s c → c ∉ r → c ∉ s → r.headD c = s.headD c → r = s
  | [], [], _, _, _, _, _ => rfl
  | [], b :: s, _, _, _, hs, e => absurd (show c = b from e) fun z => hs (z ▸ List.mem_cons_self)
  | a :: r, [], _, _, hr, _, e => absurd (show a = c from e) fun z => hr (z ▸ List.mem_cons_self)
  | a :: r, b :: s, h1, h2, hr, hs, e => by
    have e' : a = b := e
    subst e'
    rw [path_same h1.2 h2.2 (fun z => hr (List.mem_cons_of_mem _ z)) (fun z => hs (List.mem_cons_of_mem _ z)) (h1.1.symm.trans h2.1)]
/-- begun at one of its letters -/
theorem Orb.begun {f : Nat → Nat} {a b : List Nat} {c : Nat} (h : Orb f (a ++ c :: b)) : Orb f (c :: b ++ a) := by
  refine ⟨by simp, (List.perm_append_comm.nodup_iff).mp h.nd, ?_⟩
  have hp := h.pa
  rw [head_app] at hp
  rw [path_app] at hp
  show Path f (c :: b ++ a) c
  rw [path_app]
  exact ⟨hp.2, hp.1⟩
theorem Orb.one {f : Nat → Nat} {c : Nat} {r s : List Nat} (h : Orb f (c :: r)) (g : Orb f (c :: s)) : r = s :=
  path_same h.pa.2 g.pa.2 (List.nodup_cons.mp h.nd).1 (List.nodup_cons.mp g.nd).1 (h.pa.1.symm.trans g.pa.1)
theorem Orb.ring {f : Nat → Nat} {u v : List Nat} {c : Nat} (h : Orb f u) (g : Orb f v) (hu : c ∈ u) (hv : c ∈ v) (lu : AllLt u) (lv : AllLt v) : ringM u = ringM v ∧ ∀ d, d ∈ u ↔ d ∈ v := by
  obtain ⟨a, b, rfl⟩ := List.append_of_mem hu
  obtain ⟨a2, b2, rfl⟩ := List.append_of_mem hv
  have e : b ++ a = b2 ++ a2 := h.begun.one g.begun
  constructor
  · rw [ring_swap lu.left lu.right, ring_swap lv.left lv.right]
    show ringM (c :: (b ++ a)) = ringM (c :: (b2 ++ a2))
    rw [e]
  · intro d
    have m1 : d ∈ a ++ c :: b ↔ d = c ∨ d ∈ b ++ a := by simp only [List.mem_append, List.mem_cons]; constructor <;> (intro z; rcases z with z | z | z <;> simp [z])
    have m2 : d ∈ a2 ++ c :: b2 ↔ d = c ∨ d ∈ b2 ++ a2 := by simp only [List.mem_append, List.mem_cons]; constructor <;> (intro z; rcases z with z | z | z <;> simp [z])
    rw [m1, m2, e]
/-- a cycle of letters of a yard is a shortest word -/
theorem Orb.shortest {y w : List Nat} (h : Yd y) (h2 : 2 ≤ y.length) (o : Orb (tau y) w) (hw : ∀ c ∈ w, c ∈ y) : core (red w) = w := by
  have key : ∀ {a b : Nat}, a ∈ w → b = tau y a → a ≠ ctr b := fun {a b} ha e z => by
    have hy := hw a ha
    have e2 : ctr a = b := by rw [z, ctr_ctr (by rw [e]; exact h.lt _ (tau_mem h hy))]
    exact nxt_ne h.nd (h.cl a hy) h2 (show tau y a = ctr a by rw [e2, e])
  have hr : red w = w := red_same (rdd_of fun k a b e1 e2 => key (List.mem_of_getElem? e1) (path_at o.pa e1 e2))
  rw [hr]
  refine core_same fun a m z e => ?_
  have hp := o.pa
  rw [e] at hp
  have hp2 : Path (tau y) ((a :: m) ++ [z]) a := hp
  rw [path_app] at hp2
  have e3 : tau y z = a := hp2.2.1
  have hz : z ∈ w := by rw [e]; simp
  intro q
  have hzy := hw z hz
  exact nxt_ne h.nd (h.cl z hzy) h2 (by show tau y z = ctr z; rw [e3, q])
theorem Orb.ringC {y w : List Nat} (h : Yd y) (h2 : 2 ≤ y.length) (o : Orb (tau y) w) (hw : ∀ c ∈ w, c ∈ y) : ringM w = ringC w := by rw [ringM_eq, o.shortest h h2 hw]
theorem ringC_mem (w : List Nat) (c : Nat) : c ∈ ringC w ↔ c ∈ w := by
  obtain ⟨k, e⟩ := ringC_rot w
  rw [e]
  unfold rot
  constructor
  · intro z; exact (List.mem_append.mp z).elim List.mem_of_mem_drop List.mem_of_mem_take
  · intro z
    rw [← List.take_append_drop k w] at z
    exact (List.mem_append.mp z).elim (List.mem_append_right _) (List.mem_append_left _)
/-- all the cycles -/
structure Parts (y : List Nat) (ws : List (List Nat)) : Prop where
  orb : ∀ w ∈ ws, Orb (tau y) w ∧ ∀ c ∈ w, c ∈ y
  dis : ws.Pairwise fun u v => ∀ c, c ∈ u → c ∉ v
  all : ∀ c ∈ y, ∃ w ∈ ws, c ∈ w
theorem Parts.ringNd {y : List Nat} {ws : List (List Nat)} (h : Yd y) (h2 : 2 ≤ y.length) (orb : ∀ w ∈ ws, Orb (tau y) w ∧ ∀ c ∈ w, c ∈ y) (dis : ws.Pairwise fun u v => ∀ c, c ∈ u → c ∉ v) : (ws.map ringM).Nodup := by
  show (ws.map ringM).Pairwise (· ≠ ·)
  rw [List.pairwise_map]
  refine dis.imp_of_mem fun {u v} hu hv d e => ?_
  obtain ⟨ou, uy⟩ := orb u hu
  obtain ⟨ov, vy⟩ := orb v hv
  cases hq : u with
  | nil => exact ou.ne hq
  | cons c r =>
    have hc : c ∈ u := by rw [hq]; exact List.mem_cons_self
    rw [ou.ringC h h2 uy, ov.ringC h h2 vy] at e
    have := (ringC_mem u c).mpr hc
    rw [e, ringC_mem] at this
    exact d c hc this
theorem Parts.perm {y : List Nat} {ws us : List (List Nat)} (h : Yd y) (h2 : 2 ≤ y.length) (a : Parts y ws) (b : Parts y us) : (ws.map ringM).Perm (us.map ringM) := by
  have lt : ∀ {w : List Nat}, (∀ c ∈ w, c ∈ y) → AllLt w := fun {w} hw c hc => h.lt c (hw c hc)
  have one : ∀ {ws us : List (List Nat)}, Parts y ws → Parts y us → ∀ x ∈ ws.map ringM, x ∈ us.map ringM := fun {ws us} a b x hx => by
    obtain ⟨w, hw, rfl⟩ := List.mem_map.mp hx
    obtain ⟨ow, wy⟩ := a.orb w hw
    cases hq : w with
    | nil => exact absurd hq ow.ne
    | cons c r =>
      have hc : c ∈ w := by rw [hq]; exact List.mem_cons_self
      obtain ⟨u, hu, cu⟩ := b.all c (wy c hc)
      obtain ⟨ou, uy⟩ := b.orb u hu
      rw [← hq, (ow.ring ou hc cu (lt wy) (lt uy)).1]
      exact List.mem_map.mpr ⟨u, hu, rfl⟩
  exact (List.perm_ext_iff_of_nodup (Parts.ringNd h h2 a.orb a.dis) (Parts.ringNd h h2 b.orb b.dis)).mpr fun x => ⟨one a b x, one b a x⟩
/-- a way that has not come back yet -/
structure Way (y w : List Nat) : Prop where
  nd : w.Nodup
  iny : ∀ c ∈ w, c ∈ y
  pa : ∀ z, w ≠ [] → tau y (w.getLastD 0) = z → Path (tau y) w z
theorem getLastD_snoc (w : List Nat) (c d : Nat) : (w ++ [c]).getLastD d = c := by simp [List.getLastD_eq_getLast?]
theorem Way.more {y w : List Nat} (h : Yd y) (o : Way y w) (hne : w ≠ []) (hb : tau y (w.getLastD 0) ≠ w.headD 0) : Way y (w ++ [tau y (w.getLastD 0)]) := by
  obtain ⟨m, l, e⟩ : ∃ m l, w = m ++ [l] := by
    rcases snoc_cases w with z | z
    · exact absurd z hne
    · exact z
  have hl : w.getLastD 0 = l := by rw [e, getLastD_snoc]
  rw [hl] at hb ⊢
  have hlw : l ∈ w := by rw [e]; simp
  have hly := o.iny l hlw
  have hP := o.pa (tau y l) hne (by rw [hl])
  have hnew : tau y l ∉ w := fun z => by
    -- what comes there a second time comes from the same one
    obtain ⟨i, hi, ei⟩ := List.mem_iff_getElem.mp z
    cases i with
    | zero =>
      apply hb
      cases w with
      | nil => exact absurd rfl hne
      | cons a r => exact ei.symm
    | succ i =>
      have e1 : w[i]? = some w[i] := List.getElem?_eq_getElem (by omega)
      have e2 : w[i + 1]? = some w[i + 1] := List.getElem?_eq_getElem hi
      have e3 := path_at hP e1 e2
      rw [ei] at e3
      have e4 := tau_inj h hly (o.iny _ (List.getElem_mem _)) e3
      have hlen : w.length = m.length + 1 := by rw [e]; simp
      have e5 : w[m.length]'(by omega) = l := by simp [e]
      have := nd_ix o.nd (by omega) (by omega) (e5.trans e4)
      omega
  refine ⟨?_, fun c hc => ?_, fun z _ hz => ?_⟩
  · rw [List.nodup_append]
    refine ⟨o.nd, List.nodup_cons.mpr ⟨List.not_mem_nil, List.nodup_nil⟩, fun a ha b hb2 q => ?_⟩
    rw [List.mem_singleton.mp hb2] at q
    exact hnew (q ▸ ha)
  · rcases List.mem_append.mp hc with q | q
    · exact o.iny c q
    · rw [List.mem_singleton.mp q]; exact tau_mem h hly
  · rw [path_app]
    rw [getLastD_snoc] at hz
    exact ⟨hP, hz, trivial⟩
theorem Way.one {y : List Nat} {c : Nat} (hc : c ∈ y) : Way y [c] := ⟨List.nodup_cons.mpr ⟨List.not_mem_nil, List.nodup_nil⟩, fun d hd => by rw [List.mem_singleton.mp hd]; exact hc, fun z _ hz => ⟨hz, trivial⟩⟩
theorem Way.back {y w : List Nat} (o : Way y w) (hne : w ≠ []) (hb : tau y (w.getLastD 0) = w.headD 0) : Orb (tau y) w := ⟨hne, o.nd, o.pa _ hne hb⟩
theorem Way.len {y w : List Nat} (o : Way y w) : w.length ≤ y.length := o.nd.length_le_of_subset fun c hc => o.iny c hc
/-! paths and cycles -/
theorem path_of {f : Nat → Nat} : ∀ {w : List Nat} {z : Nat}, (∀ i a, w[i]? = some a → f a = (w[i + 1]?).getD z) → Path f w z
  | [], _, _ => trivial
  | a :: r, z, h => by
    refine ⟨?_, path_of fun i b hb => h (i + 1) b (by simpa using hb)⟩
    have := h 0 a rfl
    rw [this]
    cases r with
    | nil => rfl
    | cons b r => rfl
theorem path_fun {f g : Nat → Nat} : ∀ {w : List Nat} {z : Nat}, Path f w z → Path g w z → ∀ c ∈ w, f c = g c
  | [], _, _, _, _, h => absurd h List.not_mem_nil
  | a :: r, z, h1, h2, c, hc => by
    rcases List.mem_cons.mp hc with e | e
    · rw [e, h1.1, h2.1]
    · exact path_fun h1.2 h2.2 c e
theorem path_congr {f g : Nat → Nat} : ∀ {w : List Nat} {z : Nat}, Path f w z → (∀ c ∈ w, g c = f c) → Path g w z
  | [], _, _, _ => trivial
  | a :: r, z, h, e => ⟨by rw [e a List.mem_cons_self]; exact h.1, path_congr h.2 fun c hc => e c (List.mem_cons_of_mem _ hc)⟩
theorem orb_nxt {y : List Nat} (hn : y.Nodup) (hy : y ≠ []) : Orb (nxt y) y := by
  refine ⟨hy, hn, path_of fun i a h => ?_⟩
  obtain ⟨hi, e⟩ := List.getElem?_eq_some_iff.mp h
  have ha : a ∈ y := List.mem_of_getElem? h
  obtain ⟨hk, e2⟩ := nxt_at ha
  have hx : y.idxOf a = i := nd_ix hn (List.idxOf_lt_length_of_mem ha) hi ((List.getElem_idxOf _).trans e.symm)
  have e3 : nxt y a = y[(i + 1) % y.length]'(Nat.mod_lt _ (by omega)) := by rw [e2]; congr 2; rw [hx]
  rw [e3]
  by_cases z : i + 1 < y.length
  · rw [List.getElem?_eq_getElem z]
    show _ = y[i + 1]
    congr 1
    exact Nat.mod_eq_of_lt z
  · rw [List.getElem?_eq_none (by omega)]
    have e4 : (i + 1) % y.length = 0 := by rw [show i + 1 = y.length by omega, Nat.mod_self]
    cases y with
    | nil => exact absurd rfl hy
    | cons b r =>
      show (b :: r)[(i + 1) % (b :: r).length]'_ = b
      simp only [e4]
      rfl
/-! k10's own -/
theorem S_inj {a b : List Nat} (h : S a = S b) : a = b := by rw [← S_list a, h, S_list]
def tk (e : Nat) : Key := Sum.inr (S [e])
theorem tk_inj {a b : Nat} (h : tk a = tk b) : a = b := by
  have := S_inj (Sum.inr.inj h)
  simpa using this
def sp_next_end (_ : PySem.W.Frag) : Sp := fun vs H Q _ => ∃ (y : List Nat) (e : Nat), vs = [.str (S y), .str (S [e])] ∧ e ∈ y ∧ y.length ≤ 1000 ∧ Q (.str (S [nxt y e])) H
theorem len_next_end {K : PySem.W.Frag} {vs : List V} {H : Hp} {Q : VK} {E : XK} (h : sp_next_end K vs H Q E) : vs.length = 2 := by obtain ⟨c, _, rfl, _⟩ := h; rfl
def sp_rim_behind (_ : PySem.W.Frag) : Sp := fun vs H Q _ => ∃ (y : List Nat) (e : Nat), vs = [.str (S y), .str (S [e])] ∧ Yd y ∧ e ∈ y ∧ y.length ≤ 100 ∧ ∀ w, Orb (tau y) w → (∀ c ∈ w, c ∈ y) → ctr e ∈ w → Q (.str (S w)) H
theorem len_rim_behind {K : PySem.W.Frag} {vs : List V} {H : Hp} {Q : VK} {E : XK} (h : sp_rim_behind K vs H Q E) : vs.length = 2 := by obtain ⟨c, _, rfl, _⟩ := h; rfl
def RimsAre (y : List Nat) (L : List (List Nat)) : Prop := ∃ ws, Parts y ws ∧ L.Perm (ws.map ringM) ∧ L.Pairwise fun a b => ¬ b < a
theorem RimsAre.same {y : List Nat} {L M : List (List Nat)} (h : Yd y) (h2 : 2 ≤ y.length) (a : RimsAre y L) (b : RimsAre y M) : L = M := by
  obtain ⟨ws, p1, q1, r1⟩ := a
  obtain ⟨us, p2, q2, r2⟩ := b
  exact List.Perm.eq_of_pairwise (le := fun a b => ¬ b < a) (fun _ _ _ _ h1 h2 => le_asym h1 h2) r1 r2 ((q1.trans (p1.perm h h2 p2)).trans q2.symm)
theorem RimsAre.lt {y : List Nat} {L : List (List Nat)} (h : Yd y) (a : RimsAre y L) : ∀ l ∈ L, ∀ c ∈ l, c < 128 := fun l hl c hc => by
  obtain ⟨ws, p, q, r⟩ := a
  obtain ⟨w, hw, rfl⟩ := List.mem_map.mp (q.mem_iff.mp hl)
  exact (ringM_lt (fun d hd => h.lt d ((p.orb w hw).2 d hd)) c hc).lt
theorem RimsAre.few {y : List Nat} {L : List (List Nat)} (a : RimsAre y L) : L.length ≤ y.length ∧ ∀ l ∈ L, l.length ≤ y.length := by
  obtain ⟨ws, p, q, r⟩ := a
  constructor
  · rw [q.length_eq, List.length_map]
    have key : ∀ (ws : List (List Nat)), (∀ w ∈ ws, w ≠ [] ∧ w.Nodup ∧ ∀ c ∈ w, c ∈ y) → (ws.Pairwise fun u v => ∀ c, c ∈ u → c ∉ v) → ws.flatten.Nodup ∧ (∀ c ∈ ws.flatten, c ∈ y) ∧ ws.length ≤ ws.flatten.length := by
      intro ws
      induction ws with
      | nil => intro _ _; exact ⟨List.nodup_nil, fun _ h => absurd h List.not_mem_nil, Nat.le_refl _⟩
      | cons w ws ih =>
        intro h d
        obtain ⟨h1, h2⟩ := List.pairwise_cons.mp d
        obtain ⟨i1, i2, i3⟩ := ih (fun u hu => h u (List.mem_cons_of_mem _ hu)) h2
        obtain ⟨g1, g2, g3⟩ := h w List.mem_cons_self
        refine ⟨?_, fun c hc => ?_, ?_⟩
        · rw [List.flatten_cons, List.nodup_append]
          refine ⟨g2, i1, fun a ha b hb z => ?_⟩
          subst z
          obtain ⟨u, hu, hau⟩ := List.mem_flatten.mp hb
          exact h1 u hu a ha hau
        · rw [List.flatten_cons] at hc
          exact (List.mem_append.mp hc).elim (g3 c) (i2 c)
        · rw [List.flatten_cons, List.length_append, List.length_cons]
          have := List.length_pos_iff.mpr g1
          omega
    obtain ⟨k1, k2, k3⟩ := key ws (fun w hw => ⟨(p.orb w hw).1.ne, (p.orb w hw).1.nd, (p.orb w hw).2⟩) p.dis
    exact Nat.le_trans k3 (k1.length_le_of_subset fun c hc => k2 c hc)
  · intro l hl
    obtain ⟨w, hw, rfl⟩ := List.mem_map.mp (q.mem_iff.mp hl)
    exact Nat.le_trans (ringM_len w) ((p.orb w hw).1.nd.length_le_of_subset fun c hc => (p.orb w hw).2 c hc)
def sp_rims (_ : PySem.W.Frag) : Sp := fun vs H Q _ => ∃ y : List Nat, vs = [.str (S y)] ∧ Yd y ∧ 2 ≤ y.length ∧ y.length ≤ 8 ∧ ∀ (q : Addr) (L : List (List Nat)) (H' : Hp), RimsAre y L → H q = none → H' q = some (.lst (txs L)) → Same H H' → Q (.ref q) H'
theorem len_rims {K : PySem.W.Frag} {vs : List V} {H : Hp} {Q : VK} {E : XK} (h : sp_rims K vs H Q E) : vs.length = 1 := by obtain ⟨c, rfl, _⟩ := h; rfl
def sp_handles (_ : PySem.W.Frag) : Sp := fun vs H Q _ => ∃ y : List Nat, vs = [.str (S y)] ∧ Yd y ∧ 2 ≤ y.length ∧ y.length ≤ 8 ∧ ∀ (L : List (List Nat)) (H' : Hp), RimsAre y L → Same H H' → Q (.int ((((y.length : Int) / 2) + 1 - (L.length : Int)) / 2)) H'
theorem len_handles {K : PySem.W.Frag} {vs : List V} {H : Hp} {Q : VK} {E : XK} (h : sp_handles K vs H Q E) : vs.length = 1 := by obtain ⟨c, rfl, _⟩ := h; rfl
/-- on the way along a rim -/
structure RimW (y : List Nat) (e : Nat) (w : List Nat) (pl : Nat) : Prop where
  way : Way y w
  ply : pl ∈ y
  no : w = [] → pl = e
  hd : w ≠ [] → w.headD 0 = nxt y e ∧ pl = ctr (w.getLastD 0)
theorem Way.nil (y : List Nat) : Way y [] := ⟨List.nodup_nil, fun _ h => absurd h List.not_mem_nil, fun _ h _ => absurd rfl h⟩
theorem RimW.start {y : List Nat} {e : Nat} (he : e ∈ y) : RimW y e [] e := ⟨Way.nil y, he, fun _ => rfl, fun h => absurd rfl h⟩
theorem head_snoc {w : List Nat} {c d : Nat} (h : w ≠ []) : (w ++ [c]).headD d = w.headD d := by cases w with
  | nil => exact absurd rfl h
  | cons a r => rfl
theorem RimW.turn {y w : List Nat} {e pl : Nat} (h : Yd y) (he : e ∈ y) (r : RimW y e w pl) (go : w = [] ∨ pl ≠ e) : RimW y e (w ++ [nxt y pl]) (ctr (nxt y pl)) := by
  have hm := nxt_mem r.ply
  by_cases z : w = []
  · have e1 := r.no z
    subst z
    exact ⟨Way.one hm, h.cl _ hm, fun q => absurd q (by simp), fun _ => ⟨by rw [← e1]; rfl, rfl⟩⟩
  · obtain ⟨h1, h2⟩ := r.hd z
    have hne := go.resolve_left z
    have e1 : nxt y pl = tau y (w.getLastD 0) := by rw [h2]; rfl
    have hb : tau y (w.getLastD 0) ≠ w.headD 0 := fun q => hne (nxt_inj h.nd r.ply he (by rw [e1, q, h1]))
    rw [e1]
    refine ⟨r.way.more h z hb, h.cl _ (by rw [← e1]; exact hm), fun q => absurd q (by simp), fun _ => ⟨by rw [head_snoc z, h1], by rw [getLastD_snoc]⟩⟩
theorem RimW.stop {y w : List Nat} {e : Nat} (h : Yd y) (r : RimW y e w e) (hne : w ≠ []) : Orb (tau y) w ∧ ctr e ∈ w := by
  obtain ⟨h1, h2⟩ := r.hd hne
  have hl : w.getLastD 0 ∈ w := by
    rcases snoc_cases w with z | ⟨m, a, z⟩
    · exact absurd z hne
    · rw [z, getLastD_snoc]; simp
  refine ⟨r.way.back hne ?_, ?_⟩
  · rw [h1]; unfold tau; rw [← h2]
  · rw [h2, ctr_ctr (h.lt _ (r.way.iny _ hl))]; exact hl
/-- some of the rims -/
structure RimsW (y : List Nat) (i : Nat) (ws : List (List Nat)) : Prop where
  orb : ∀ w ∈ ws, Orb (tau y) w ∧ ∀ c ∈ w, c ∈ y
  dis : ws.Pairwise fun u v => ∀ c, c ∈ u → c ∉ v
  cov : ∀ e ∈ y.take i, ∃ w ∈ ws, ctr e ∈ w
  few : ws.length ≤ i
theorem RimsW.start (y : List Nat) : RimsW y 0 [] := ⟨fun _ h => absurd h List.not_mem_nil, List.Pairwise.nil, fun _ h => absurd h (by simp), Nat.le_refl _⟩
theorem RimsW.skip {y : List Nat} {i e : Nat} {ws : List (List Nat)} (r : RimsW y i ws) (he : y[i]? = some e) (z : ∃ w ∈ ws, ctr e ∈ w) : RimsW y (i + 1) ws :=
  ⟨r.orb, r.dis, fun d hd => by
    rw [← take_snoc he] at hd
    rcases List.mem_append.mp hd with q | q
    · exact r.cov d q
    · rw [List.mem_singleton.mp q]; exact z, Nat.le_succ_of_le r.few⟩
theorem dis_snoc {y c : List Nat} {ws : List (List Nat)} {e : Nat} (h : Yd y) (orb : ∀ w ∈ ws, Orb (tau y) w ∧ ∀ c ∈ w, c ∈ y) (dis : ws.Pairwise fun u v => ∀ c, c ∈ u → c ∉ v) (o : Orb (tau y) c) (hc : ∀ d ∈ c, d ∈ y) (he : e ∈ c) (no : ∀ w ∈ ws, e ∉ w) : (ws ++ [c]).Pairwise fun u v => ∀ c, c ∈ u → c ∉ v := by
  rw [List.pairwise_append]
  refine ⟨dis, List.pairwise_singleton _ _, fun u hu v hv d du dv => ?_⟩
  rw [List.mem_singleton.mp hv] at dv
  obtain ⟨ou, uy⟩ := orb u hu
  exact no u hu (((ou.ring o du dv (fun d hd => h.lt d (uy d hd)) (fun d hd => h.lt d (hc d hd))).2 e).mpr he)
theorem RimsW.turn {y w : List Nat} {i e : Nat} {ws : List (List Nat)} (h : Yd y) (r : RimsW y i ws) (he : y[i]? = some e) (no : ¬ ∃ w ∈ ws, ctr e ∈ w) (o : Orb (tau y) w) (hw : ∀ c ∈ w, c ∈ y) (hc : ctr e ∈ w) : RimsW y (i + 1) (ws ++ [w]) := by
  refine ⟨fun u hu => ?_, dis_snoc h r.orb r.dis o hw hc fun u hu z => no ⟨u, hu, z⟩, fun d hd => ?_, by rw [List.length_append]; exact Nat.succ_le_succ r.few⟩
  · rcases List.mem_append.mp hu with q | q
    · exact r.orb u q
    · rw [List.mem_singleton.mp q]; exact ⟨o, hw⟩
  · rw [← take_snoc he] at hd
    rcases List.mem_append.mp hd with q | q
    · obtain ⟨u, hu, z⟩ := r.cov d q
      exact ⟨u, List.mem_append_left _ hu, z⟩
    · rw [List.mem_singleton.mp q]; exact ⟨w, by simp, hc⟩
theorem RimsW.done {y : List Nat} {ws : List (List Nat)} (h : Yd y) (r : RimsW y y.length ws) : Parts y ws := ⟨r.orb, r.dis, fun c hc => by
  obtain ⟨w, hw, z⟩ := r.cov (ctr c) (by rw [List.take_length]; exact h.cl c hc)
  rw [ctr_ctr (h.lt c hc)] at z
  exact ⟨w, hw, z⟩⟩
/-- by the law: what is left, and the words so far -/
structure LeftW (y l : List Nat) (ws : List (List Nat)) : Prop where
  orb : ∀ w ∈ ws, Orb (tau y) w ∧ ∀ c ∈ w, c ∈ y
  dis : ws.Pairwise fun u v => ∀ c, c ∈ u → c ∉ v
  lft : ∀ c, c ∈ l ↔ c ∈ y ∧ ∀ w ∈ ws, c ∉ w
  few : ws.length + l.length ≤ y.length
theorem LeftW.start (y : List Nat) : LeftW y y [] := ⟨fun _ h => absurd h List.not_mem_nil, List.Pairwise.nil, fun c => ⟨fun h => ⟨h, fun _ h => absurd h List.not_mem_nil⟩, fun h => h.1⟩, by simp⟩
theorem LeftW.turn {y l w : List Nat} {c : Nat} {ws : List (List Nat)} (h : Yd y) (r : LeftW y (c :: l) ws) (o : Orb (tau y) w) (hw : ∀ d ∈ w, d ∈ y) (hc : c ∈ w) : LeftW y ((c :: l).filter fun d => !decide (d ∈ w)) (ws ++ [w]) ∧ ((c :: l).filter fun d => !decide (d ∈ w)).length ≤ l.length := by
  have hlen : ((c :: l).filter fun d => !decide (d ∈ w)).length ≤ l.length := by
    rw [List.filter_cons_of_neg (by simp [hc])]
    exact List.length_filter_le _ _
  refine ⟨⟨fun u hu => ?_, dis_snoc h r.orb r.dis o hw hc ((r.lft c).mp List.mem_cons_self).2, fun d => ?_, ?_⟩, hlen⟩
  · rcases List.mem_append.mp hu with q | q
    · exact r.orb u q
    · rw [List.mem_singleton.mp q]; exact ⟨o, hw⟩
  · rw [List.mem_filter, r.lft]
    constructor
    · rintro ⟨⟨h1, h2⟩, h3⟩
      refine ⟨h1, fun u hu => ?_⟩
      rcases List.mem_append.mp hu with q | q
      · exact h2 u q
      · rw [List.mem_singleton.mp q]; simpa using h3
    · rintro ⟨h1, h2⟩
      exact ⟨⟨h1, fun u hu => h2 u (List.mem_append_left _ hu)⟩, by have := h2 w (by simp); simpa using this⟩
  · have := r.few
    rw [List.length_append]
    rw [List.length_cons] at this
    show ws.length + 1 + _ ≤ _
    omega
theorem LeftW.done {y : List Nat} {ws : List (List Nat)} (r : LeftW y [] ws) : Parts y ws := ⟨r.orb, r.dis, fun c hc => by
  by_cases z : ∃ w ∈ ws, c ∈ w
  · exact z
  · exact absurd ((r.lft c).mpr ⟨hc, fun w hw q => z ⟨w, hw, q⟩⟩) List.not_mem_nil⟩
/-! a yard told otherwise: begun elsewhere, called otherwise, turned over -/
theorem Orb.congr {f g : Nat → Nat} {w : List Nat} (h : Orb f w) (e : ∀ c ∈ w, g c = f c) : Orb g w := ⟨h.ne, h.nd, path_congr h.pa e⟩
/-- begun elsewhere -/
theorem nxt_rot {a b : List Nat} (hn : (a ++ b).Nodup) (c : Nat) (hc : c ∈ a ++ b) : nxt (b ++ a) c = nxt (a ++ b) c := by
  cases b with
  | nil => rw [List.append_nil, List.nil_append]
  | cons d b =>
    have o1 := (orb_nxt hn (by simp)).begun
    have o2 : Orb (nxt (d :: b ++ a)) (d :: b ++ a) := orb_nxt (List.perm_append_comm.nodup_iff.mp hn) (by simp)
    exact path_fun o2.pa o1.pa c (List.perm_append_comm.mem_iff.mp hc)
theorem Yd.rot {a b : List Nat} (h : Yd (a ++ b)) : Yd (b ++ a) := h.perm List.perm_append_comm
theorem parts_rot {a b : List Nat} {ws : List (List Nat)} (h : Yd (a ++ b)) (p : Parts (a ++ b) ws) : Parts (b ++ a) ws :=
  ⟨fun w hw => ⟨(p.orb w hw).1.congr fun c hc => nxt_rot h.nd _ (h.cl c ((p.orb w hw).2 c hc)), fun c hc => List.perm_append_comm.mem_iff.mp ((p.orb w hw).2 c hc)⟩, p.dis, fun c hc => p.all c (List.perm_append_comm.mem_iff.mp hc)⟩
/-- of a ring's word -/
theorem orb_ring {y w : List Nat} (h : Yd y) (h2 : 2 ≤ y.length) (o : Orb (tau y) w) (hw : ∀ c ∈ w, c ∈ y) : Orb (tau y) (ringM w) ∧ ∀ c, c ∈ ringM w ↔ c ∈ w := by
  rw [o.ringC h h2 hw]
  refine ⟨?_, ringC_mem w⟩
  obtain ⟨k, e⟩ := ringC_rot w
  rw [e]
  unfold rot
  have o2 := o
  rw [← List.take_append_drop k w] at o2
  cases q : w.drop k with
  | nil =>
    rw [q, List.append_nil] at o2
    rw [List.nil_append]
    exact o2
  | cons d b =>
    rw [q] at o2
    exact o2.begun
/-- how rims go over -/
theorem rims_over {y z : List Nat} {g : List Nat → List Nat} (hy : Yd y) (h2 : 2 ≤ y.length) (hz : Yd z) (hg : ∀ w, Orb (tau y) w → (∀ c ∈ w, c ∈ y) → Orb (tau z) (g w) ∧ ∀ c ∈ g w, c ∈ z)
    (hm : ∀ u v, (∀ c ∈ u, c ∈ y) → (∀ c ∈ v, c ∈ y) → (∀ c, c ∈ u ↔ c ∈ v) → ∀ c, c ∈ g u → c ∈ g v)
    (hd : ∀ u v, (∀ c ∈ u, c ∈ y) → (∀ c ∈ v, c ∈ y) → (∀ c, c ∈ u → c ∉ v) → ∀ c, c ∈ g u → c ∉ g v) (ha : ∀ ws, Parts y ws → ∀ c ∈ z, ∃ w ∈ ws, c ∈ g w)
    {L : List (List Nat)} (r : RimsAre y L) : ∃ ws, Parts z ws ∧ (L.map fun l => ringM (g l)).Perm (ws.map ringM) := by
  obtain ⟨ws, p, q, _⟩ := r
  refine ⟨ws.map g, ⟨fun w hw => ?_, ?_, fun c hc => ?_⟩, ?_⟩
  · obtain ⟨u, hu, rfl⟩ := List.mem_map.mp hw
    exact hg u (p.orb u hu).1 (p.orb u hu).2
  · rw [List.pairwise_map]
    exact p.dis.imp_of_mem fun {u v} hu hv hh => hd u v (p.orb u hu).2 (p.orb v hv).2 hh
  · obtain ⟨w, hw, e⟩ := ha ws p c hc
    exact ⟨g w, List.mem_map.mpr ⟨w, hw, rfl⟩, e⟩
  · refine (q.map _).trans ?_
    rw [List.map_map, List.map_map]
    refine List.Perm.of_eq (List.map_congr_left fun w hw => ?_)
    obtain ⟨o, iny⟩ := p.orb w hw
    obtain ⟨o2, m2⟩ := orb_ring hy h2 o iny
    have i2 : ∀ c ∈ ringM w, c ∈ y := fun c hc => iny c ((m2 c).mp hc)
    obtain ⟨g1, z1⟩ := hg w o iny
    obtain ⟨g2, z2⟩ := hg _ o2 i2
    show ringM (g (ringM w)) = ringM (g w)
    have hne := g1.ne
    cases e : g w with
    | nil => exact absurd e hne
    | cons c r =>
      have hc : c ∈ g w := by rw [e]; exact List.mem_cons_self
      have hc2 := hm w (ringM w) iny i2 (fun c => (m2 c).symm) c hc
      rw [← e]
      exact (g2.ring g1 hc2 hc (fun d hd => hz.lt d (z2 d hd)) fun d hd => hz.lt d (z1 d hd)).1
/-- called otherwise -/
structure Call (y : List Nat) (f : Nat → Nat) : Prop where
  inj : ∀ a ∈ y, ∀ b ∈ y, f a = f b → a = b
  ctr : ∀ a ∈ y, f (ctr a) = ctr (f a)
  lt : ∀ a ∈ y, Lt (f a)
theorem idx_map {f : Nat → Nat} : ∀ {y : List Nat} {e : Nat}, (∀ a ∈ y, f a = f e → a = e) → (y.map f).idxOf (f e) = y.idxOf e
  | [], _, _ => rfl
  | a :: r, e, h => by
    rw [List.map_cons, idx_at, idx_at]
    by_cases z : a = e
    · rw [if_pos z, if_pos (by rw [z])]
    · rw [if_neg z, if_neg (fun q => z (h a List.mem_cons_self q)), idx_map fun b hb => h b (List.mem_cons_of_mem _ hb)]
theorem nxt_map {y : List Nat} {f : Nat → Nat} {e : Nat} (hi : ∀ a ∈ y, f a = f e → a = e) (he : e ∈ y) : nxt (y.map f) (f e) = f (nxt y e) := by
  obtain ⟨hk, e1⟩ := nxt_at he
  obtain ⟨hk2, e2⟩ := nxt_at (y := y.map f) (e := f e) (List.mem_map.mpr ⟨e, he, rfl⟩)
  rw [e1, e2, List.getElem_map]
  congr 2
  rw [idx_map hi, List.length_map]
theorem Call.yd {y : List Nat} {f : Nat → Nat} (h : Yd y) (c : Call y f) : Yd (y.map f) := by
  refine ⟨?_, fun d hd => ?_, fun d hd => ?_⟩
  · show (y.map f).Pairwise (· ≠ ·)
    rw [List.pairwise_map]
    exact h.nd.imp_of_mem fun {a b} ha hb z e => z (c.inj a ha b hb e)
  · obtain ⟨e, he, rfl⟩ := List.mem_map.mp hd
    exact c.lt e he
  · obtain ⟨e, he, rfl⟩ := List.mem_map.mp hd
    exact List.mem_map.mpr ⟨My.ctr e, h.cl e he, c.ctr e he⟩
theorem path_map {f g h : Nat → Nat} : ∀ {w : List Nat} {z : Nat}, Path f w z → (∀ c ∈ w, g (h c) = h (f c)) → Path g (w.map h) (h z)
  | [], _, _, _ => trivial
  | a :: r, z, p, e => by
    refine ⟨?_, path_map p.2 fun c hc => e c (List.mem_cons_of_mem _ hc)⟩
    rw [e a List.mem_cons_self, p.1]
    cases r <;> rfl
theorem call_rims {y : List Nat} {f : Nat → Nat} (h : Yd y) (h2 : 2 ≤ y.length) (c : Call y f) {L : List (List Nat)} (r : RimsAre y L) : ∃ ws, Parts (y.map f) ws ∧ (L.map fun l => ringM (l.map f)).Perm (ws.map ringM) := by
  refine rims_over (g := fun w => w.map f) h h2 (c.yd h) (fun w o iny => ?_) (fun u v hu hv huv d hd => ?_) (fun u v hu hv huv d hd hd2 => ?_) (fun ws p d hd => ?_) r
  · refine ⟨⟨by simp [o.ne], ?_, ?_⟩, fun d hd => ?_⟩
    · show (w.map f).Pairwise (· ≠ ·)
      rw [List.pairwise_map]
      exact o.nd.imp_of_mem fun {a b} ha hb z e => z (c.inj a (iny a ha) b (iny b hb) e)
    · have := path_map (g := tau (y.map f)) (h := f) o.pa fun d hd => by
        unfold tau
        rw [← c.ctr d (iny d hd)]
        exact nxt_map (fun a ha e => c.inj a ha _ (h.cl d (iny d hd)) e) (h.cl d (iny d hd))
      cases w with
      | nil => exact absurd rfl o.ne
      | cons a r => exact this
    · obtain ⟨e, he, rfl⟩ := List.mem_map.mp hd
      exact List.mem_map.mpr ⟨e, iny e he, rfl⟩
  · obtain ⟨e, he, rfl⟩ := List.mem_map.mp hd
    exact List.mem_map.mpr ⟨e, (huv e).mp he, rfl⟩
  · obtain ⟨e, he, rfl⟩ := List.mem_map.mp hd
    obtain ⟨e2, he2, q⟩ := List.mem_map.mp hd2
    exact huv e he (c.inj e2 (hv e2 he2) e (hu e he) q ▸ he2)
  · obtain ⟨e, he, rfl⟩ := List.mem_map.mp hd
    obtain ⟨w, hw, q⟩ := p.all e he
    exact ⟨w, hw, List.mem_map.mpr ⟨e, q, rfl⟩⟩
theorem Yd.over {y : List Nat} (h : Yd y) : Yd y.reverse := h.perm (List.reverse_perm y).symm
/-- threes -/
theorem idx_rot {a b : List Nat} {e : Nat} (hn : (a ++ b).Nodup) (he : e ∈ a ++ b) : (b ++ a).idxOf e = if (a ++ b).idxOf e < a.length then (a ++ b).idxOf e + b.length else (a ++ b).idxOf e - a.length := by
  rw [List.nodup_append] at hn
  obtain ⟨na, nb, dis⟩ := hn
  by_cases z : e ∈ a
  · have zb : e ∉ b := fun q => dis e z e q rfl
    rw [List.idxOf_append, List.idxOf_append, if_pos z, if_neg zb, if_pos (List.idxOf_lt_length_of_mem z)]
  · have zb : e ∈ b := (List.mem_append.mp he).resolve_left z
    rw [List.idxOf_append, List.idxOf_append, if_pos zb, if_neg z, if_neg (by omega)]
    omega
theorem gr_rot {a b : List Nat} {x y z : Nat} (hn : (a ++ b).Nodup) (hx : x ∈ a ++ b) (hy : y ∈ a ++ b) (hz : z ∈ a ++ b) (xy : x ≠ y) (xz : x ≠ z) (yz : y ≠ z) : gr (b ++ a) x y z = gr (a ++ b) x y z := by
  have pm : ∀ {e : Nat}, e ∈ a ++ b → e ∈ b ++ a := fun {e} he => List.perm_append_comm.mem_iff.mp he
  rw [gr_cyc hn hx hy hz xy xz yz, gr_cyc (List.perm_append_comm.nodup_iff.mp hn) (pm hx) (pm hy) (pm hz) xy xz yz]
  refine decide_eq_decide.mpr ?_
  rw [idx_rot hn hx, idx_rot hn hy, idx_rot hn hz]
  have ix := List.idxOf_lt_length_of_mem hx
  have iy := List.idxOf_lt_length_of_mem hy
  have iz := List.idxOf_lt_length_of_mem hz
  rw [List.length_append] at ix iy iz
  unfold cyc
  split <;> split <;> split <;> omega
/-- the bands, rising -/
def bsOf (y : List Nat) : List Nat := (y.filter isLow).mergeSort fun a b => decide (a ≤ b)
theorem bsOf_perm (y : List Nat) : (bsOf y).Perm (y.filter isLow) := List.mergeSort_perm _ _
theorem bsOf_sorted (y : List Nat) : (bsOf y).Pairwise (· ≤ ·) :=
  (List.pairwise_mergeSort (le := fun a b => decide (a ≤ b)) (fun a b c h1 h2 => decide_eq_true (Nat.le_trans (of_decide_eq_true h1) (of_decide_eq_true h2))) (fun a b => by
    rcases Nat.le_total a b with z | z
    · rw [decide_eq_true z]; rfl
    · rw [decide_eq_true z, Bool.or_true]) (y.filter isLow)).imp fun z => of_decide_eq_true z
theorem bsOf_eq {y l : List Nat} (h : l.Perm (y.filter isLow)) (p : l.Pairwise (· ≤ ·)) : l = bsOf y := sorted_eq (h.trans (bsOf_perm y).symm) p (bsOf_sorted y)
theorem bsOf_len {y : List Nat} (h : Yd y) : 2 * (bsOf y).length = y.length := by rw [(bsOf_perm y).length_eq]; exact half_low h
/-! nets and tables -/
/-- how a band lies across another one -/
def sg (y : List Nat) (x z : Nat) : Int := if x = z then 0 else if gr y (ctr x) (ctr z) x = gr y (ctr x) z x then 0 else if gr y (ctr x) (ctr z) x = true then 1 else -1
theorem sg_self (y : List Nat) (x : Nat) : sg y x x = 0 := by unfold sg; rw [if_pos rfl]
theorem sg_swap {y : List Nat} (hy : Yd y) {x z : Nat} (hx : x ∈ y) (hz : z ∈ y) (hxs : x ∈ smalls) (hzs : z ∈ smalls) : sg y z x = - sg y x z := by
  by_cases xz : x = z
  · subst xz; rw [sg_self]; rfl
  have hcx := hy.cl x hx
  have hcz := hy.cl z hz
  have n1 : ctr x ≠ x := ctr_ne (hy.lt x hx)
  have n2 : ctr z ≠ z := ctr_ne (hy.lt z hz)
  have n3 : ctr x ≠ z := fun q => small_ctr x hxs (q ▸ hzs)
  have n4 : ctr z ≠ x := fun q => small_ctr z hzs (q ▸ hxs)
  have n5 : ctr x ≠ ctr z := fun q => xz (ctr_inj (hy.lt x hx) (hy.lt z hz) q)
  unfold sg
  rw [if_neg xz, if_neg (Ne.symm xz), gr_cyc hy.nd hcx hcz hx n5 n1 n4, gr_cyc hy.nd hcx hz hx n3 n1 (Ne.symm xz), gr_cyc hy.nd hcz hcx hz (Ne.symm n5) n2 n3, gr_cyc hy.nd hcz hx hz n4 n2 xz]
  have m1 := idx_ne hcx hx n1
  have m2 := idx_ne hcz hz n2
  have m3 := idx_ne hcx hz n3
  have m4 := idx_ne hcz hx n4
  have m5 := idx_ne hcx hcz n5
  have m6 := idx_ne hx hz xz
  generalize y.idxOf (ctr x) = a at *
  generalize y.idxOf x = b at *
  generalize y.idxOf (ctr z) = c at *
  generalize y.idxOf z = d at *
  by_cases q1 : cyc a c b <;> by_cases q2 : cyc a d b <;> by_cases q3 : cyc c a d <;> by_cases q4 : cyc c b d <;> simp only [q1, q2, q3, q4, decide_true, decide_false] <;> first | rfl | (exfalso; unfold cyc at q1 q2 q3 q4; omega)
/-- sums of products -/
def cr (s : Nat → Nat → Int) (f g : Nat → Int) (as bs : List Nat) : Int := (as.map fun x => f x * (bs.map fun z => g z * s x z).sum).sum
theorem sum_zero : ∀ l : List Nat, (l.map fun _ => (0 : Int)).sum = 0
  | [] => rfl
  | a :: l => by rw [List.map_cons, List.sum_cons, sum_zero l]; rfl
theorem sum_add (f g : Nat → Int) : ∀ l : List Nat, (l.map fun x => f x + g x).sum = (l.map f).sum + (l.map g).sum
  | [] => rfl
  | a :: l => by rw [List.map_cons, List.sum_cons, sum_add f g l, List.map_cons, List.map_cons, List.sum_cons, List.sum_cons]; omega
theorem sum_mul (c : Int) (f : Nat → Int) : ∀ l : List Nat, (l.map fun x => c * f x).sum = c * (l.map f).sum
  | [] => by rw [List.map_nil, List.map_nil, List.sum_nil, Int.mul_zero]
  | a :: l => by rw [List.map_cons, List.sum_cons, sum_mul c f l, List.map_cons, List.sum_cons, Int.mul_add]
theorem cr_swap (s : Nat → Nat → Int) (f g : Nat → Int) (bs : List Nat) : ∀ as : List Nat, cr s f g as bs = cr (fun z x => s x z) g f bs as
  | [] => by
    unfold cr
    have e : (bs.map fun z => g z * (([] : List Nat).map fun x => f x * s x z).sum) = bs.map fun _ => (0 : Int) := List.map_congr_left fun z _ => by rw [List.map_nil, List.sum_nil, Int.mul_zero]
    rw [e, sum_zero]
    rfl
  | a :: as => by
    have ih := cr_swap s f g bs as
    unfold cr at ih ⊢
    rw [List.map_cons, List.sum_cons, ih]
    have e : (bs.map fun z => g z * ((a :: as).map fun x => f x * s x z).sum) = bs.map fun z => f a * (g z * s a z) + g z * (as.map fun x => f x * s x z).sum := List.map_congr_left fun z _ => by
      rw [List.map_cons, List.sum_cons, Int.mul_add, Int.mul_left_comm]
    rw [e, sum_add, sum_mul]
/-! k82's own -/
def zvs (ns : List Int) : List V := ns.map V.int
theorem zvs_len (ns : List Int) : (zvs ns).length = ns.length := by unfold zvs; rw [List.length_map]
theorem zvs_snoc (ns : List Int) (i : Int) : zvs ns ++ [V.int i] = zvs (ns ++ [i]) := by unfold zvs; rw [List.map_append]; rfl
theorem zvs_at {ns : List Int} {i : Nat} {v : V} (h : (zvs ns)[i]? = some v) : ∃ n, ns[i]? = some n ∧ v = .int n := by
  unfold zvs at h
  rw [List.getElem?_map] at h
  cases e : ns[i]? with
  | none => rw [e] at h; cases h
  | some n => rw [e] at h; exact ⟨n, rfl, (Option.some.inj h).symm⟩
theorem map_at {α β : Type} {f : α → β} {l : List α} {i : Nat} {v : β} (h : (l.map f)[i]? = some v) : ∃ x, l[i]? = some x ∧ v = f x := by
  rw [List.getElem?_map] at h
  cases e : l[i]? with
  | none => rw [e] at h; cases h
  | some n => rw [e] at h; exact ⟨n, rfl, (Option.some.inj h).symm⟩
/-- a word's net, at one band -/
def ntf (w : List Nat) (x : Nat) : Int := PyProof.Rows.cnt x w - PyProof.Rows.cnt (ctr x) w
theorem band_in {y : List Nat} (hy : Yd y) {x : Nat} (h : x ∈ bsOf y) : x ∈ y ∧ x ∈ smalls := by
  have h1 := List.mem_filter.mp ((bsOf_perm y).mem_iff.mp h)
  refine ⟨h1.1, ?_⟩
  have h2 := h1.2
  rw [isLow_iff (hy.lt x h1.1)] at h2
  exact of_decide_eq_true h2
/-- the table's rows -/
def RowsAt (H : Hp) (y : List Nat) (rs : List Addr) : Prop := rs.length = (bsOf y).length ∧ ∀ (i : Nat) (a : Addr) (x : Nat), rs[i]? = some a → (bsOf y)[i]? = some x → H a = some (.tup (zvs ((bsOf y).map (sg y x))))
theorem RowsAt.same {H H' : Hp} {y : List Nat} {rs : List Addr} (h : RowsAt H y rs) (s : Same H H') : RowsAt H' y rs := ⟨h.1, fun i a x h1 h2 => s _ _ (h.2 i a x h1 h2)⟩
def rfs (rs : List Addr) : List V := rs.map V.ref
theorem rfs_len (rs : List Addr) : (rfs rs).length = rs.length := by unfold rfs; rw [List.length_map]
theorem rfs_snoc (rs : List Addr) (a : Addr) : rfs rs ++ [V.ref a] = rfs (rs ++ [a]) := by unfold rfs; rw [List.map_append]; rfl
def zds (ns : List Int) : List PyData := ns.map PyData.int
theorem rd_zds (K : PySem.W.Frag) (H : Hp) : ∀ ns : List Int, RdDs K H (zvs ns) (zds ns)
  | [] => .nil
  | n :: ns => .cons (.int n) (rd_zds K H ns)
theorem dict_zds : ∀ ns : List Int, PyData.hasDictAll (zds ns) = false
  | [] => rfl
  | n :: ns => by
    show (PyData.hasDict (.int n) || PyData.hasDictAll (zds ns)) = false
    rw [dict_zds ns]; rfl
def sp_net (_ : PySem.W.Frag) : Sp := fun vs H Q _ => ∃ (y w : List Nat), vs = [.str (S y), .str (S w)] ∧ Yd y ∧ y.length ≤ 8 ∧ ∀ t H', H t = none → H' t = some (.tup (zvs ((bsOf y).map (ntf w)))) → Same H H' → Q (.ref t) H'
theorem len_net {K : PySem.W.Frag} {vs : List V} {H : Hp} {Q : VK} {E : XK} (h : sp_net K vs H Q E) : vs.length = 2 := by obtain ⟨c, _, rfl, _⟩ := h; rfl
def sp_crosses (_ : PySem.W.Frag) : Sp := fun vs H Q _ => ∃ (y : List Nat) (x z : Nat), vs = [.str (S y), .str (S [x]), .str (S [z])] ∧ Yd y ∧ y.length ≤ 8 ∧ x ∈ bsOf y ∧ z ∈ bsOf y ∧ Q (.int (sg y x z)) H
theorem len_crosses {K : PySem.W.Frag} {vs : List V} {H : Hp} {Q : VK} {E : XK} (h : sp_crosses K vs H Q E) : vs.length = 3 := by obtain ⟨c, _, _, rfl, _⟩ := h; rfl
def sp_table_row (_ : PySem.W.Frag) : Sp := fun vs H Q _ => ∃ (y : List Nat) (x : Nat), vs = [.str (S y), .str (S [x])] ∧ Yd y ∧ y.length ≤ 8 ∧ x ∈ bsOf y ∧ ∀ t H', H t = none → H' t = some (.tup (zvs ((bsOf y).map (sg y x)))) → Same H H' → Q (.ref t) H'
theorem len_table_row {K : PySem.W.Frag} {vs : List V} {H : Hp} {Q : VK} {E : XK} (h : sp_table_row K vs H Q E) : vs.length = 2 := by obtain ⟨c, _, rfl, _⟩ := h; rfl
def sp_table (_ : PySem.W.Frag) : Sp := fun vs H Q _ => ∃ (y : List Nat), vs = [.str (S y)] ∧ Yd y ∧ y.length ≤ 8 ∧ ∀ t rs H', H t = none → H' t = some (.tup (rfs rs)) → RowsAt H' y rs → Same H H' → Q (.ref t) H'
theorem len_table {K : PySem.W.Frag} {vs : List V} {H : Hp} {Q : VK} {E : XK} (h : sp_table K vs H Q E) : vs.length = 1 := by obtain ⟨c, rfl, _⟩ := h; rfl
def sp_crossed (_ : PySem.W.Frag) : Sp := fun vs H Q _ => ∃ (y w v : List Nat), vs = [.str (S y), .str (S w), .str (S v)] ∧ Yd y ∧ y.length ≤ 8 ∧ w.length ≤ 1000 ∧ ∀ H', Same H H' → Q (.int (cr (sg y) (ntf w) (ntf v) (bsOf y) (bsOf y))) H'
theorem len_crossed {K : PySem.W.Frag} {vs : List V} {H : Hp} {Q : VK} {E : XK} (h : sp_crossed K vs H Q E) : vs.length = 3 := by obtain ⟨c, _, _, rfl, _⟩ := h; rfl
/-- what is asked: a triple of texts -/
structure Ak where
  a : Addr
  y : List Nat
  w : List Nat
  v : List Nat
def kvs (ks : List Ak) : List V := ks.map fun k => V.ref k.a
structure AkOk (H : Hp) (k : Ak) : Prop where
  at_ : H k.a = some (.tup [.str (S k.y), .str (S k.w), .str (S k.v)])
  yd : Yd k.y
  fw : k.y.length ≤ 8
  lw : k.w.length ≤ 1000
  lv : k.v.length ≤ 1000
theorem AkOk.same {H H' : Hp} {k : Ak} (h : AkOk H k) (s : Same H H') : AkOk H' k := ⟨s _ _ h.at_, h.yd, h.fw, h.lw, h.lv⟩
theorem lay_zds : ∀ ns : List Int, PyData.canLayAll0 (zds ns) = true
  | [] => rfl
  | n :: ns => by
    show (PyData.canLay0 (.int n) && PyData.canLayAll0 (zds ns)) = true
    rw [lay_zds ns]; rfl
theorem dep_zds : ∀ ns : List Int, PyData.depthAll (zds ns) ≤ 1
  | [] => by decide
  | n :: ns => by
    have := dep_zds ns
    show max (PyData.depth (.int n)) (PyData.depthAll (zds ns)) ≤ 1
    exact Nat.max_le.mpr ⟨by show _ ≤ 1; first | exact Nat.le_refl _ | exact Nat.zero_le _, this⟩
theorem dep_zdl (ns : List Int) : (PyData.list (zds ns)).depth ≤ 60 := by
  have := dep_zds ns
  show PyData.depthAll (zds ns) + 1 ≤ 60
  omega
theorem cnt_le (c : Nat) : ∀ l : List Nat, 0 ≤ PyProof.Rows.cnt c l ∧ PyProof.Rows.cnt c l ≤ (l.length : Int)
  | [] => by rw [PyProof.Rows.cnt_nil]; exact ⟨by omega, by omega⟩
  | n :: l => by
    have := cnt_le c l
    rw [PyProof.Rows.cnt_cons, List.length_cons]
    split <;> (constructor <;> omega)
theorem mul_net {w : List Nat} {x : Nat} {j : Int} (h : w.length ≤ 1000) : CMul (ntf w x) j := by
  have h1 := cnt_le x w
  have h2 := cnt_le (ctr x) w
  unfold ntf
  exact .inl ⟨by omega, by omega⟩
theorem mul_sg {y : List Nat} {x z : Nat} {i : Int} : CMul i (sg y x z) := by
  refine .inr ?_
  unfold sg
  split
  · exact ⟨by decide, by decide⟩
  · split
    · exact ⟨by decide, by decide⟩
    · split <;> exact ⟨by decide, by decide⟩
/-! the rank of a yard's table: all yards of at most four bands, renamed and begun at the first band -/
/-- the first row with something at a column, and the others -/
def pick (c : Nat) : List (List Int) → Option (List Int × List (List Int))
  | [] => none
  | r :: rs => if r.getD c 0 ≠ 0 then some (r, rs) else (pick c rs).map fun q => (q.1, r :: q.2)
def clr (c : Nat) (b r : List Int) : List Int := List.zipWith (fun x z => b.getD c 0 * x - r.getD c 0 * z) r b
def stE (s : List (List Int) × Nat) (c : Nat) : List (List Int) × Nat := match pick c s.1 with
  | none => s
  | some q => (q.2.map (clr c q.1), s.2 + 1)
def elm (k : Nat) (rs : List (List Int)) : List (List Int) × Nat := (List.range k).foldl stE (rs, 0)
theorem elm_succ (k : Nat) (rs : List (List Int)) : elm (k + 1) rs = stE (elm k rs) k := by unfold elm; rw [List.range_succ, List.foldl_append]; rfl
def tabI (y : List Nat) : List (List Int) := (bsOf y).map fun x => (bsOf y).map (sg y x)
/-! all orders of some -/
def ins (a : Nat) : List Nat → List (List Nat)
  | [] => [[a]]
  | b :: l => (a :: b :: l) :: (ins a l).map (b :: ·)
def prm : List Nat → List (List Nat)
  | [] => [[]]
  | a :: l => (prm l).flatMap (ins a)
theorem ins_mem (a : Nat) : ∀ u v : List Nat, u ++ a :: v ∈ ins a (u ++ v)
  | [], [] => by simp [ins]
  | [], b :: v => by simp [ins]
  | b :: u, v => by
    show b :: (u ++ a :: v) ∈ (a :: b :: (u ++ v)) :: (ins a (u ++ v)).map (b :: ·)
    exact List.mem_cons_of_mem _ (List.mem_map.mpr ⟨_, ins_mem a u v, rfl⟩)
theorem prm_mem : ∀ {m l : List Nat}, l.Perm m → l ∈ prm m
  | [], l, h => by rw [List.perm_nil.mp h]; exact List.mem_singleton.mpr rfl
  | a :: m, l, h => by
    have ha : a ∈ l := h.mem_iff.mpr List.mem_cons_self
    obtain ⟨u, v, rfl⟩ := List.append_of_mem ha
    have h2 : (u ++ v).Perm m := List.Perm.cons_inv ((List.perm_middle.symm).trans h)
    exact List.mem_flatMap.mpr ⟨u ++ v, prm_mem h2, ins_mem a u v⟩
theorem perm_sub : ∀ {l m : List Nat}, l.Nodup → (∀ c ∈ l, c ∈ m) → l.length = m.length → l.Perm m
  | [], m, _, _, e => by
    have : m = [] := List.length_eq_zero_iff.mp e.symm
    rw [this]
  | a :: l, m, hn, hs, e => by
    obtain ⟨h1, h2⟩ := List.nodup_cons.mp hn
    obtain ⟨u, v, rfl⟩ := List.append_of_mem (hs a List.mem_cons_self)
    have ih := perm_sub (l := l) (m := u ++ v) h2 (fun c hc => by
      have := hs c (List.mem_cons_of_mem _ hc)
      rcases List.mem_append.mp this with g | g
      · exact List.mem_append_left _ g
      · rcases List.mem_cons.mp g with g | g
        · exact absurd (g ▸ hc) h1
        · exact List.mem_append_right _ g) (by
      simp only [List.length_append, List.length_cons] at e ⊢
      omega)
    exact (List.Perm.cons a ih).trans List.perm_middle.symm
/-! what is looked at, yard by yard -/
def cB (e : Nat) : Nat := if 97 ≤ e then e - 32 else e + 32
def stB (p : List Nat) (a e : Nat) : Nat := (p.idxOf e + p.length - p.idxOf a) % p.length
def sgC (u v : Bool) : Int := if u = v then 0 else if u = true then 1 else -1
def sgB (p : List Nat) (x z : Nat) : Int := if x = z then 0 else sgC (decide (stB p (x - 32) (z - 32) < stB p (x - 32) x)) (decide (stB p (x - 32) z < stB p (x - 32) x))
def nmB (n : Nat) : List Nat := (List.range n).map (97 + ·)
def tbB (n : Nat) (p : List Nat) : List (List Int) := (nmB n).map fun x => (nmB n).map (sgB p x)
def tauB (p : List Nat) (e : Nat) : Nat := p.getD ((p.idxOf (cB e) + 1) % p.length) 0
def wlk (p : List Nat) : Nat → Nat → Nat → List Nat
  | 0, _, _ => []
  | k + 1, s, e => e :: (if tauB p e = s then [] else wlk p k s (tauB p e))
def rmB (p : List Nat) : List Nat → List (List Nat) → List (List Nat)
  | [], acc => acc
  | e :: l, acc => if acc.any (·.contains e) then rmB p l acc else rmB p l (wlk p p.length e e :: acc)
def pathB (f : Nat → Nat) : List Nat → Nat → Bool
  | [], _ => true
  | a :: r, z => (f a == r.headD z) && pathB f r z
def ndB : List Nat → Bool
  | [] => true
  | a :: l => !l.contains a && ndB l
def inI (c : Nat) (w : List Nat) : Int := if w.contains c then 1 else 0
def ntB (n : Nat) (p w : List Nat) : Bool := (nmB n).all fun z => ((nmB n).map fun x => (inI x w - inI (x - 32) w) * sgB p x z).sum == 0
def prtB (n : Nat) (p : List Nat) (ws : List (List Nat)) : Bool := ws.all (fun w => !w.isEmpty && (pathB (tauB p) w (w.headD 0) && (w.all (p.contains ·) && ntB n p w))) && (ndB ws.flatten && p.all (ws.flatten.contains ·))
def okW (n : Nat) (p : List Nat) (ws : List (List Nat)) : Bool := prtB n p ws && ((elm n (tbB n p)).2 + ws.length == n + 1 && (n + 1 - ws.length) % 2 == 0)
def okB (n : Nat) (p : List Nat) : Bool := okW n p (rmB p p [])
def cny (n : Nat) : List (List Nat) := match n with
  | 1 => [[97, 65]]
  | 2 => (prm [65, 98, 66]).map (97 :: ·)
  | 3 => (prm [65, 98, 66, 99, 67]).map (97 :: ·)
  | _ => (prm [65, 98, 66, 99, 67, 100, 68]).map (97 :: ·)
/-! what the look tells -/
theorem small_sub : ∀ c ∈ smalls, ctr c = c - 32 := by decide +kernel
theorem cB_is : ∀ c ∈ smalls ++ caps, cB c = ctr c := by decide +kernel
theorem stB_is {y : List Nat} {a e : Nat} (ha : a ∈ y) (he : e ∈ y) : ((stB y a e : Nat) : Int) = (((y.idxOf e : Nat) : Int) - ((y.idxOf a : Nat) : Int)) % (y.length : Int) := by
  have ia := List.idxOf_lt_length_of_mem ha
  have ie := List.idxOf_lt_length_of_mem he
  rw [mod_ix ia ie]
  unfold stB
  generalize y.idxOf a = i at *
  generalize y.idxOf e = j at *
  generalize y.length = n at *
  by_cases h : i ≤ j
  · rw [if_pos h]
    have e1 : j + n - i = (j - i) + n := by omega
    rw [e1, Nat.add_mod_right, Nat.mod_eq_of_lt (by omega)]
    omega
  · rw [if_neg h, Nat.mod_eq_of_lt (by omega)]
    omega
theorem gr_stB {y : List Nat} {a b c : Nat} (ha : a ∈ y) (hb : b ∈ y) (hc : c ∈ y) : gr y a b c = decide (stB y a b < stB y a c) := by
  unfold gr
  rw [← stB_is ha hb, ← stB_is ha hc]
  exact decide_eq_decide.mpr (by omega)
theorem sgB_is {y : List Nat} (hy : Yd y) {x z : Nat} (hx : x ∈ y) (hz : z ∈ y) (sx : x ∈ smalls) (sz : z ∈ smalls) : sgB y x z = sg y x z := by
  have cx := hy.cl x hx
  have cz := hy.cl z hz
  unfold sgB sg sgC
  rw [← small_sub x sx, ← small_sub z sz, gr_stB cx cz hx, gr_stB cx hz hx]
theorem ndB_is : ∀ {l : List Nat}, ndB l = true → l.Nodup
  | [], _ => List.nodup_nil
  | a :: l, h => by
    have h : (!l.contains a && ndB l) = true := h
    rw [Bool.and_eq_true] at h
    refine List.nodup_cons.mpr ⟨fun z => ?_, ndB_is h.2⟩
    have := h.1
    simp [z] at this
theorem pathB_is {f g : Nat → Nat} : ∀ {w : List Nat} {z : Nat}, pathB g w z = true → (∀ c ∈ w, f c = g c) → Path f w z
  | [], _, _, _ => trivial
  | a :: r, z, h, e => by
    have h : ((g a == r.headD z) && pathB g r z) = true := h
    rw [Bool.and_eq_true] at h
    exact ⟨(e a List.mem_cons_self).trans (eq_of_beq h.1), pathB_is h.2 fun c hc => e c (List.mem_cons_of_mem _ hc)⟩
theorem flat_nd : ∀ {ws : List (List Nat)}, ws.flatten.Nodup → (∀ w ∈ ws, w.Nodup) ∧ ws.Pairwise fun u v => ∀ c, c ∈ u → c ∉ v
  | [], _ => ⟨fun _ h => absurd h List.not_mem_nil, List.Pairwise.nil⟩
  | w :: ws, h => by
    rw [List.flatten_cons, List.nodup_append] at h
    obtain ⟨h1, h2, h3⟩ := h
    obtain ⟨i1, i2⟩ := flat_nd h2
    refine ⟨fun u hu => ?_, List.pairwise_cons.mpr ⟨fun u hu c hc hc2 => h3 c hc c (List.mem_flatten.mpr ⟨u, hu, hc2⟩) rfl, i2⟩⟩
    rcases List.mem_cons.mp hu with g | g
    · rw [g]; exact h1
    · exact i1 u g
theorem prtB_is {n : Nat} {y : List Nat} (hy : Yd y) {ws : List (List Nat)} (h : prtB n y ws = true) : Parts y ws ∧ ∀ w ∈ ws, ntB n y w = true := by
  unfold prtB at h
  rw [Bool.and_eq_true, Bool.and_eq_true, List.all_eq_true, List.all_eq_true] at h
  obtain ⟨h1, h2, h3⟩ := h
  obtain ⟨n1, n2⟩ := flat_nd (ndB_is h2)
  have key : ∀ w ∈ ws, w ≠ [] ∧ pathB (tauB y) w (w.headD 0) = true ∧ (∀ c ∈ w, c ∈ y) ∧ ntB n y w = true := fun w hw => by
    have q := h1 w hw
    rw [Bool.and_eq_true, Bool.and_eq_true, Bool.and_eq_true, List.all_eq_true] at q
    obtain ⟨q1, q2, q3, q4⟩ := q
    exact ⟨fun z => by rw [z] at q1; simp at q1, q2, fun c hc => by simpa using q3 c hc, q4⟩
  refine ⟨⟨fun w hw => ?_, n2, fun c hc => ?_⟩, fun w hw => (key w hw).2.2.2⟩
  · obtain ⟨k1, k2, k3, _⟩ := key w hw
    refine ⟨⟨k1, n1 w hw, pathB_is k2 fun c hc => ?_⟩, k3⟩
    unfold tau tauB
    rw [cB_is c (hy.lt c (k3 c hc)).mem]
    rfl
  · have := h3 c hc
    have hm : c ∈ ws.flatten := by simpa using this
    obtain ⟨w, hw, hcw⟩ := List.mem_flatten.mp hm
    exact ⟨w, hw, hcw⟩
theorem cnt_nd {c : Nat} : ∀ {l : List Nat}, l.Nodup → PyProof.Rows.cnt c l = if c ∈ l then 1 else 0
  | [], _ => by rw [PyProof.Rows.cnt_nil, if_neg List.not_mem_nil]
  | a :: l, h => by
    obtain ⟨h1, h2⟩ := List.nodup_cons.mp h
    rw [PyProof.Rows.cnt_cons, cnt_nd h2]
    by_cases z : a = c
    · subst z
      rw [if_pos rfl, if_neg h1, if_pos List.mem_cons_self]; rfl
    · rw [if_neg z]
      by_cases g : c ∈ l
      · rw [if_pos g, if_pos (List.mem_cons_of_mem _ g)]; rfl
      · rw [if_neg g, if_neg (fun q => (List.mem_cons.mp q).elim (fun e => z e.symm) g)]; rfl
/-- a renamed yard has the same signs -/
theorem sg_map {y : List Nat} {f : Nat → Nat} (hy : Yd y) (c : Call y f) {x z : Nat} (hx : x ∈ y) (hz : z ∈ y) : sg (y.map f) (f x) (f z) = sg y x z := by
  have cx := hy.cl x hx
  have cz := hy.cl z hz
  have ix : ∀ e ∈ y, (y.map f).idxOf (f e) = y.idxOf e := fun e he => idx_map fun a ha q => c.inj a ha e he q
  have g : ∀ a ∈ y, ∀ b ∈ y, ∀ d ∈ y, gr (y.map f) (f a) (f b) (f d) = gr y a b d := fun a ha b hb d hd => by
    unfold gr
    rw [ix a ha, ix b hb, ix d hd, List.length_map]
  unfold sg
  rw [← c.ctr x hx, ← c.ctr z hz, g _ cx _ cz _ hx, g _ cx _ hz _ hx]
  by_cases e : x = z
  · rw [if_pos e, if_pos (by rw [e])]
  · rw [if_neg e, if_neg (fun q => e (c.inj x hx z hz q))]
theorem sg_rot {a b : List Nat} (hy : Yd (a ++ b)) {x z : Nat} (hx : x ∈ a ++ b) (hz : z ∈ a ++ b) (sx : x ∈ smalls) (sz : z ∈ smalls) : sg (b ++ a) x z = sg (a ++ b) x z := by
  by_cases e : x = z
  · subst e; rw [sg_self, sg_self]
  have cx := hy.cl x hx
  have cz := hy.cl z hz
  have n1 : ctr x ≠ x := ctr_ne (hy.lt x hx)
  have n3 : ctr x ≠ z := fun q => small_ctr x sx (q ▸ sz)
  have n4 : ctr z ≠ x := fun q => small_ctr z sz (q ▸ sx)
  have n5 : ctr x ≠ ctr z := fun q => e (ctr_inj (hy.lt x hx) (hy.lt z hz) q)
  unfold sg
  rw [gr_rot hy.nd cx cz hx n5 n1 n4, gr_rot hy.nd cx hz hx n3 n1 (Ne.symm e)]
/-! a yard's own names told in order -/
def cnm (y : List Nat) (c : Nat) : Nat := if c ∈ smalls then 97 + (bsOf y).idxOf c else 65 + (bsOf y).idxOf (ctr c)
def can (n : Nat) : List Nat := match n with
  | 1 => [97, 65]
  | 2 => [97, 65, 98, 66]
  | 3 => [97, 65, 98, 66, 99, 67]
  | _ => [97, 65, 98, 66, 99, 67, 100, 68]
theorem ctr_low : ∀ i, i < 4 → ctr (97 + i) = 65 + i ∧ ctr (65 + i) = 97 + i ∧ 97 + i ∈ smalls ∧ 65 + i ∈ caps := by decide +kernel
theorem can_mem : ∀ n ∈ [1, 2, 3, 4], ∀ i, i < n → 97 + i ∈ can n ∧ 65 + i ∈ can n := by decide
theorem can_len : ∀ n ∈ [1, 2, 3, 4], (can n).length = 2 * n := by decide
theorem bsOf_nd {y : List Nat} (hy : Yd y) : (bsOf y).Nodup := (bsOf_perm y).nodup_iff.mpr (hy.nd.filter _)
theorem band_mem {y : List Nat} {c : Nat} (hc : c ∈ y) (s : c ∈ smalls) : c ∈ bsOf y := (bsOf_perm y).mem_iff.mpr (List.mem_filter.mpr ⟨hc, (low_of_small c s).1⟩)
theorem idx_inj {l : List Nat} {a b : Nat} (ha : a ∈ l) (hb : b ∈ l) (e : l.idxOf a = l.idxOf b) : a = b := by
  have e1 := List.getElem_idxOf (List.idxOf_lt_length_of_mem ha)
  have e2 := List.getElem_idxOf (List.idxOf_lt_length_of_mem hb)
  rw [← e1, ← e2]
  congr 1
theorem cnm_is {y : List Nat} (hy : Yd y) (h8 : y.length ≤ 8) {a : Nat} (ha : a ∈ y) :
    (a ∈ smalls ∧ a ∈ bsOf y ∧ cnm y a = 97 + (bsOf y).idxOf a ∧ (bsOf y).idxOf a < 4 ∧ (bsOf y).idxOf a < (bsOf y).length) ∨ (a ∈ caps ∧ ctr a ∈ bsOf y ∧ cnm y a = 65 + (bsOf y).idxOf (ctr a) ∧ (bsOf y).idxOf (ctr a) < 4 ∧ (bsOf y).idxOf (ctr a) < (bsOf y).length) := by
  have hl := bsOf_len hy
  rcases hy.lt a ha with s | s
  · have hb := band_mem ha s
    have := List.idxOf_lt_length_of_mem hb
    exact .inl ⟨s, hb, by unfold cnm; rw [if_pos s], by omega, this⟩
  · have hb := band_mem (hy.cl a ha) (low_of_cap a s).2.2.2
    have := List.idxOf_lt_length_of_mem hb
    exact .inr ⟨s, hb, by unfold cnm; rw [if_neg (cap_small a s)], by omega, this⟩
theorem call_cnm {y : List Nat} (hy : Yd y) (h8 : y.length ≤ 8) : Call y (cnm y) := by
  refine ⟨fun a ha b hb e => ?_, fun a ha => ?_, fun a ha => ?_⟩
  · rcases cnm_is hy h8 ha with ⟨s, m, q, l, _⟩ | ⟨s, m, q, l, _⟩ <;> rcases cnm_is hy h8 hb with ⟨s2, m2, q2, l2, _⟩ | ⟨s2, m2, q2, l2, _⟩ <;> rw [q, q2] at e
    · exact idx_inj m m2 (by omega)
    · omega
    · omega
    · exact ctr_inj (hy.lt a ha) (hy.lt b hb) (idx_inj m m2 (by omega))
  · rcases cnm_is hy h8 ha with ⟨s, m, q, l, _⟩ | ⟨s, m, q, l, _⟩
    · rcases cnm_is hy h8 (hy.cl a ha) with ⟨s2, _⟩ | ⟨s2, m2, q2, l2, _⟩
      · exact absurd s2 (small_ctr a s)
      · rw [q2, q, ctr_ctr (hy.lt a ha), (ctr_low _ l).1]
    · rcases cnm_is hy h8 (hy.cl a ha) with ⟨s2, m2, q2, l2, _⟩ | ⟨s2, _⟩
      · rw [q2, q, (ctr_low _ l).2.1]
      · exact absurd (low_of_cap a s).2.2.2 (cap_small _ s2)
  · rcases cnm_is hy h8 ha with ⟨s, m, q, l, _⟩ | ⟨s, m, q, l, _⟩
    · rw [q]; exact .inl (ctr_low _ l).2.2.1
    · rw [q]; exact .inr (ctr_low _ l).2.2.2
theorem nm_is {y : List Nat} (hy : Yd y) : (bsOf y).map (cnm y) = nmB (bsOf y).length := by
  unfold nmB
  refine List.ext_getElem (by simp) fun i h1 h2 => ?_
  rw [List.getElem_map, List.getElem_map, List.getElem_range]
  rw [List.length_map] at h1
  have hm := List.getElem_mem h1
  have hi := List.idxOf_lt_length_of_mem hm
  have e := nd_ix (bsOf_nd hy) hi h1 (List.getElem_idxOf hi)
  unfold cnm
  rw [if_pos ((band_in hy hm).2), e]
/-- in order, and begun at the first band -/
theorem cny_of {y : List Nat} (hy : Yd y) (h2 : 2 ≤ y.length) (h8 : y.length ≤ 8) : ∃ a b, y.map (cnm y) = a ++ b ∧ b ++ a ∈ cny (bsOf y).length := by
  have hl := bsOf_len hy
  have hn : (bsOf y).length ∈ [1, 2, 3, 4] := by
    have h3 : (bsOf y).length = 1 ∨ (bsOf y).length = 2 ∨ (bsOf y).length = 3 ∨ (bsOf y).length = 4 := by omega
    rcases h3 with g | g | g | g <;> rw [g] <;> decide
  have hp : (y.map (cnm y)).Perm (can (bsOf y).length) := by
    refine perm_sub ((call_cnm hy h8).yd hy).nd (fun c hc => ?_) (by rw [List.length_map, can_len _ hn]; omega)
    obtain ⟨a, ha, rfl⟩ := List.mem_map.mp hc
    rcases cnm_is hy h8 ha with ⟨_, _, q, _, l⟩ | ⟨_, _, q, _, l⟩
    · rw [q]; exact (can_mem _ hn _ l).1
    · rw [q]; exact (can_mem _ hn _ l).2
  generalize (bsOf y).length = n at hn hp
  have h97 : 97 ∈ y.map (cnm y) := hp.mem_iff.mpr (by
    simp only [List.mem_cons, List.not_mem_nil, or_false] at hn
    rcases hn with g | g | g | g <;> rw [g] <;> decide)
  obtain ⟨a, b, e⟩ := List.append_of_mem h97
  rw [e] at hp ⊢
  refine ⟨a, 97 :: b, rfl, ?_⟩
  have hq : (97 :: (b ++ a)).Perm (can n) := (show (97 :: b ++ a).Perm (a ++ 97 :: b) from List.perm_append_comm).trans hp
  show 97 :: (b ++ a) ∈ cny n
  simp only [List.mem_cons, List.not_mem_nil, or_false] at hn
  rcases hn with g | g | g | g <;> subst g
  · have : b ++ a = [65] := List.perm_singleton.mp (List.Perm.cons_inv hq)
    rw [this]
    exact List.mem_singleton.mpr rfl
  · exact List.mem_map.mpr ⟨_, prm_mem (List.Perm.cons_inv hq), rfl⟩
  · exact List.mem_map.mpr ⟨_, prm_mem (List.Perm.cons_inv hq), rfl⟩
  · exact List.mem_map.mpr ⟨_, prm_mem (List.Perm.cons_inv hq), rfl⟩
theorem orb_map {y w : List Nat} {f : Nat → Nat} (h : Yd y) (c : Call y f) (o : Orb (tau y) w) (iny : ∀ c ∈ w, c ∈ y) : Orb (tau (y.map f)) (w.map f) := by
  refine ⟨by simp [o.ne], ?_, ?_⟩
  · show (w.map f).Pairwise (· ≠ ·)
    rw [List.pairwise_map]
    exact o.nd.imp_of_mem fun {a b} ha hb z e => z (c.inj a (iny a ha) b (iny b hb) e)
  · have := path_map (g := tau (y.map f)) (h := f) o.pa fun d hd => by
      unfold tau
      rw [← c.ctr d (iny d hd)]
      exact nxt_map (fun a ha e => c.inj a ha _ (h.cl d (iny d hd)) e) (h.cl d (iny d hd))
    cases w with
    | nil => exact absurd rfl o.ne
    | cons a r => exact this
theorem rank_yard {y : List Nat} {L : List (List Nat)} (chk : ∀ n ∈ [1, 2, 3, 4], (cny n).all (okB n) = true) (hy : Yd y) (h2 : 2 ≤ y.length) (h8 : y.length ≤ 8) (r : RimsAre y L) :
    (elm (bsOf y).length (tabI y)).2 + L.length = (bsOf y).length + 1 ∧ ((bsOf y).length + 1 - L.length) % 2 = 0 ∧ ∀ l ∈ L, ∀ z ∈ bsOf y, ((bsOf y).map fun x => ntf l x * sg y x z).sum = 0 := by
  have hl := bsOf_len hy
  have hc := call_cnm hy h8
  have hn : (bsOf y).length ∈ [1, 2, 3, 4] := by
    have h3 : (bsOf y).length = 1 ∨ (bsOf y).length = 2 ∨ (bsOf y).length = 3 ∨ (bsOf y).length = 4 := by omega
    rcases h3 with g | g | g | g <;> rw [g] <;> decide
  obtain ⟨a, b, e, hm⟩ := cny_of hy h2 h8
  have ok := List.all_eq_true.mp (chk _ hn) _ hm
  unfold okB okW at ok
  rw [Bool.and_eq_true, Bool.and_eq_true] at ok
  obtain ⟨ok1, ok2, ok3⟩ := ok
  have y0 : Yd (a ++ b) := e ▸ hc.yd hy
  have yz : Yd (b ++ a) := y0.rot
  obtain ⟨pu, nu⟩ := prtB_is yz ok1
  generalize rmB (b ++ a) (b ++ a) [] = us at ok1 ok2 ok3 pu nu
  have hlz : (b ++ a).length = y.length := by rw [List.length_append, Nat.add_comm, ← List.length_append, ← e, List.length_map]
  have mz : ∀ x ∈ y, cnm y x ∈ a ++ b := fun x hx => by rw [← e]; exact List.mem_map.mpr ⟨x, hx, rfl⟩
  have mz2 : ∀ x ∈ y, cnm y x ∈ b ++ a := fun x hx => List.perm_append_comm.mem_iff.mp (mz x hx)
  have bin : ∀ x ∈ bsOf y, x ∈ y ∧ x ∈ smalls ∧ cnm y x ∈ smalls := fun x hx => by
    have h1 := (List.mem_filter.mp ((bsOf_perm y).mem_iff.mp hx)).1
    have h3 := (band_in hy hx).2
    refine ⟨h1, h3, ?_⟩
    rcases cnm_is hy h8 h1 with ⟨_, _, q, l, _⟩ | ⟨s, _⟩
    · rw [q]; exact (ctr_low _ l).2.2.1
    · exact absurd h3 (cap_small x s)
  have sgz : ∀ x ∈ bsOf y, ∀ z ∈ bsOf y, sgB (b ++ a) (cnm y x) (cnm y z) = sg y x z := fun x hx z hz => by
    obtain ⟨x1, x2, x3⟩ := bin x hx
    obtain ⟨z1, z2, z3⟩ := bin z hz
    rw [sgB_is yz (mz2 x x1) (mz2 z z1) x3 z3, sg_rot y0 (mz x x1) (mz z z1) x3 z3, ← e, sg_map hy hc x1 z1]
  have htab : tbB (bsOf y).length (b ++ a) = tabI y := by
    unfold tbB tabI
    rw [← nm_is hy, List.map_map]
    refine List.map_congr_left fun x hx => ?_
    show (((bsOf y).map (cnm y)).map (sgB (b ++ a) (cnm y x))) = _
    rw [List.map_map]
    exact List.map_congr_left fun z hz => sgz x hx z hz
  obtain ⟨ws', p', q'⟩ := call_rims hy h2 hc r
  rw [e] at p'
  have p2 := parts_rot y0 p'
  have lw : L.length = us.length := by
    have e1 := q'.length_eq
    have e2 := (p2.perm yz (by omega) pu).length_eq
    simp only [List.length_map] at e1 e2
    omega
  rw [htab] at ok2
  refine ⟨by rw [lw]; exact eq_of_beq ok2, by rw [lw]; exact eq_of_beq ok3, fun l hl' z hz => ?_⟩
  obtain ⟨ws, p, q, _⟩ := r
  obtain ⟨w, hw, rfl⟩ := List.mem_map.mp (q.mem_iff.mp hl')
  obtain ⟨o, hwy⟩ := p.orb w hw
  obtain ⟨o2, hmem⟩ := orb_ring hy h2 o hwy
  generalize ringM w = l at o2 hmem
  have ly : ∀ c ∈ l, c ∈ y := fun c hc' => hwy c ((hmem c).mp hc')
  have o3 : Orb (tau (a ++ b)) (l.map (cnm y)) := e ▸ orb_map hy hc o2 ly
  have lz : ∀ c ∈ l.map (cnm y), c ∈ a ++ b := fun c hc' => by
    obtain ⟨d, hd, rfl⟩ := List.mem_map.mp hc'
    exact mz d (ly d hd)
  have o4 : Orb (tau (b ++ a)) (l.map (cnm y)) := o3.congr fun c hc' => nxt_rot y0.nd _ (y0.cl c (lz c hc'))
  obtain ⟨c0, hc0⟩ := List.exists_mem_of_ne_nil _ o4.ne
  obtain ⟨u, hu, hcu⟩ := pu.all c0 (List.perm_append_comm.mem_iff.mp (lz c0 hc0))
  obtain ⟨ou, huz⟩ := pu.orb u hu
  have same := (o4.ring ou hc0 hcu (fun c hc' => y0.lt c (lz c hc')) (fun c hc' => yz.lt c (huz c hc'))).2
  have nz := nu u hu
  unfold ntB at nz
  have nz2 := eq_of_beq (List.all_eq_true.mp nz (cnm y z) (by rw [← nm_is hy]; exact List.mem_map.mpr ⟨z, hz, rfl⟩))
  rw [← nm_is hy, List.map_map] at nz2
  refine Eq.trans (congrArg List.sum (List.map_congr_left fun x hx => ?_)) nz2
  obtain ⟨x1, x2, x3⟩ := bin x hx
  show _ = (inI (cnm y x) u - inI (cnm y x - 32) u) * sgB (b ++ a) (cnm y x) (cnm y z)
  rw [sgz x hx z hz, ← small_sub _ x3, ← hc.ctr x x1]
  have key : ∀ d ∈ y, PyProof.Rows.cnt d l = inI (cnm y d) u := fun d hd => by
    rw [cnt_nd o2.nd]
    unfold inI
    have iff1 : d ∈ l ↔ cnm y d ∈ u := by
      rw [← same]
      constructor
      · exact fun h => List.mem_map.mpr ⟨d, h, rfl⟩
      · intro h
        obtain ⟨d2, h3, h4⟩ := List.mem_map.mp h
        rw [← hc.inj d2 (ly d2 h3) d hd h4]
        exact h3
    by_cases g : d ∈ l
    · rw [if_pos g, if_pos (by simpa using iff1.mp g)]
    · rw [if_neg g, if_neg (by simpa using fun h => g (iff1.mpr h))]
  unfold ntf
  rw [key x x1, key (ctr x) (hy.cl x x1)]
/-! k85's own -/
/-- rows that are lists -/
def RowsL (H : Hp) (n : Nat) (rs : List Addr) (M : List (List Int)) : Prop := rs.length = M.length ∧ (∀ r ∈ M, r.length = n) ∧ ∀ (i : Nat) (a : Addr) (r : List Int), rs[i]? = some a → M[i]? = some r → H a = some (.lst (zvs r))
theorem RowsL.same {H H' : Hp} {n : Nat} {rs : List Addr} {M : List (List Int)} (h : RowsL H n rs M) (s : Same H H') : RowsL H' n rs M := ⟨h.1, h.2.1, fun i a r h1 h2 => s _ _ (h.2.2 i a r h1 h2)⟩
theorem RowsL.at_ {H : Hp} {n : Nat} {rs : List Addr} {M : List (List Int)} (h : RowsL H n rs M) {i : Nat} {a : Addr} (e : rs[i]? = some a) : ∃ r, M[i]? = some r ∧ r.length = n ∧ H a = some (.lst (zvs r)) := by
  have hi : i < M.length := by rw [← h.1]; exact (List.getElem?_eq_some_iff.mp e).1
  exact ⟨M[i], List.getElem?_eq_getElem hi, h.2.1 _ (List.getElem_mem hi), h.2.2 i a _ e (List.getElem?_eq_getElem hi)⟩
theorem rows_ne {rs : List Addr} {r : List Int} (h : 0 < r.length) : rfs rs ≠ zvs r := by
  cases r with
  | nil => exact absurd h (by decide)
  | cons x r => cases rs with
    | nil => exact fun z => by cases z
    | cons a rs => exact fun z => by injection z with z1 _; cases z1
/-- the rows' own list is none of the rows -/
theorem RowsL.out {H : Hp} {n : Nat} {rs us : List Addr} {M : List (List Int)} {p : Addr} (h : RowsL H n rs M) (hn : 0 < n) (hp : H p = some (.lst (rfs us))) : ∀ (i : Nat) (a : Addr), rs[i]? = some a → a ≠ p := fun i a e z => by
  obtain ⟨r, _, hl, hr⟩ := h.at_ e
  rw [z, hp] at hr
  injection hr with hr
  injection hr with hr
  exact rows_ne (by omega) hr
theorem RowsL.erase {H : Hp} {n : Nat} {rs : List Addr} {M : List (List Int)} (h : RowsL H n rs M) (j : Nat) : RowsL H n (rs.eraseIdx j) (M.eraseIdx j) := by
  refine ⟨by rw [List.length_eraseIdx, List.length_eraseIdx, h.1], fun r hr => h.2.1 r (List.mem_of_mem_eraseIdx hr), fun i a r h1 h2 => ?_⟩
  rw [List.getElem?_eraseIdx] at h1 h2
  by_cases z : i < j
  · rw [if_pos z] at h1 h2; exact h.2.2 i a r h1 h2
  · rw [if_neg z] at h1 h2; exact h.2.2 (i + 1) a r h1 h2
theorem RowsL.upd {H : Hp} {n : Nat} {rs us : List Addr} {M : List (List Int)} {p : Addr} {o : HO} (h : RowsL H n rs M) (hn : 0 < n) (hp : H p = some (.lst (rfs us))) : RowsL (L2.upd H p o) n rs M := ⟨h.1, h.2.1, fun i a r h1 h2 => by rw [upd_ne (h.out hn hp i a h1)]; exact h.2.2 i a r h1 h2⟩
def Bdd (b : Int) (M : List (List Int)) : Prop := ∀ r ∈ M, ∀ x ∈ r, -b ≤ x ∧ x ≤ b
def bnd : Nat → Int
  | 0 => 1
  | k + 1 => 2 * (bnd k * bnd k)
theorem bnd_pos : ∀ k, 1 ≤ bnd k
  | 0 => by decide
  | k + 1 => by
    have h := bnd_pos k
    have : 1 * 1 ≤ bnd k * bnd k := Int.mul_le_mul h h (by decide) (by omega)
    show 1 ≤ 2 * (bnd k * bnd k)
    omega
theorem bnd_few : ∀ k, k ≤ 4 → bnd k ≤ 32768 := by decide
theorem mul_bd {b x z : Int} (hb : 0 ≤ b) (hx : -b ≤ x ∧ x ≤ b) (hz : -b ≤ z ∧ z ≤ b) : -(b * b) ≤ x * z ∧ x * z ≤ b * b := by
  have e1 : 0 ≤ (b - x) * (b + z) := Int.mul_nonneg (by omega) (by omega)
  have e2 : 0 ≤ (b + x) * (b - z) := Int.mul_nonneg (by omega) (by omega)
  have e3 : 0 ≤ (b - x) * (b - z) := Int.mul_nonneg (by omega) (by omega)
  have e4 : 0 ≤ (b + x) * (b + z) := Int.mul_nonneg (by omega) (by omega)
  have q1 : (b - x) * (b + z) = b * b + b * z - x * b - x * z := by rw [Int.sub_mul, Int.mul_add, Int.mul_add]; omega
  have q2 : (b + x) * (b - z) = b * b - b * z + x * b - x * z := by rw [Int.add_mul, Int.mul_sub, Int.mul_sub]; omega
  have q3 : (b - x) * (b - z) = b * b - b * z - x * b + x * z := by rw [Int.sub_mul, Int.mul_sub, Int.mul_sub]; omega
  have q4 : (b + x) * (b + z) = b * b + b * z + x * b + x * z := by rw [Int.add_mul, Int.mul_add, Int.mul_add]; omega
  generalize b * b = bb at *
  generalize b * z = bz at *
  generalize x * b = xb at *
  generalize x * z = xz at *
  constructor <;> omega
theorem getD_bd {b : Int} {r : List Int} (hb : 0 ≤ b) (h : ∀ x ∈ r, -b ≤ x ∧ x ≤ b) (c : Nat) : -b ≤ r.getD c 0 ∧ r.getD c 0 ≤ b := by
  rw [List.getD_eq_getElem?_getD]
  cases e : r[c]? with
  | none => show -b ≤ 0 ∧ 0 ≤ b; omega
  | some x => exact h x (List.mem_of_getElem? e)
theorem zip_mem {α β γ : Type} {f : α → β → γ} : ∀ {l : List α} {m : List β} {x : γ}, x ∈ List.zipWith f l m → ∃ a ∈ l, ∃ b ∈ m, x = f a b
  | [], _, _, h => by simp at h
  | _ :: _, [], _, h => by simp at h
  | a :: l, b :: m, x, h => by
    rw [List.zipWith_cons_cons] at h
    rcases List.mem_cons.mp h with z | z
    · exact ⟨a, List.mem_cons_self, b, List.mem_cons_self, z⟩
    · obtain ⟨a', ha, b', hb, e⟩ := zip_mem z
      exact ⟨a', List.mem_cons_of_mem _ ha, b', List.mem_cons_of_mem _ hb, e⟩
theorem clr_bd {k c : Nat} {b r : List Int} (hb : ∀ x ∈ b, -bnd k ≤ x ∧ x ≤ bnd k) (hr : ∀ x ∈ r, -bnd k ≤ x ∧ x ≤ bnd k) : ∀ x ∈ clr c b r, -bnd (k + 1) ≤ x ∧ x ≤ bnd (k + 1) := fun x hx => by
  have h0 := bnd_pos k
  obtain ⟨u, hu, v, hv, rfl⟩ := zip_mem hx
  have h1 := mul_bd (by omega) (getD_bd (by omega) hb c) (hr u hu)
  have h2 := mul_bd (by omega) (getD_bd (by omega) hr c) (hb v hv)
  show -(2 * (bnd k * bnd k)) ≤ _ ∧ _ ≤ 2 * (bnd k * bnd k)
  constructor <;> omega
theorem clr_len {c n : Nat} {b r : List Int} (hb : b.length = n) (hr : r.length = n) : (clr c b r).length = n := by unfold clr; rw [List.length_zipWith, hb, hr, Nat.min_self]
theorem pick_at {c : Nat} : ∀ {M : List (List Int)} {j : Nat} {b : List Int}, M[j]? = some b → b.getD c 0 ≠ 0 → (∀ m (e : List Int), m < j → M[m]? = some e → e.getD c 0 = 0) → pick c M = some (b, M.eraseIdx j)
  | [], j, b, h, _, _ => by simp at h
  | r :: M, 0, b, h, hb, _ => by
    have e : r = b := by simpa using h
    subst e
    unfold pick
    rw [if_pos hb]; rfl
  | r :: M, j + 1, b, h, hb, no => by
    have hr : r.getD c 0 = 0 := no 0 r (by omega) rfl
    have ih := pick_at (M := M) (j := j) (by simpa using h) hb fun m e hm he => no (m + 1) e (by omega) (by simpa using he)
    unfold pick
    rw [if_neg (by simpa using hr), ih]; rfl
theorem pick_no {c : Nat} : ∀ {M : List (List Int)}, (∀ r ∈ M, r.getD c 0 = 0) → pick c M = none
  | [], _ => rfl
  | r :: M, h => by
    unfold pick
    rw [if_neg (by simpa using h r List.mem_cons_self), pick_no fun r hr => h r (List.mem_cons_of_mem _ hr)]; rfl
theorem at_int {r : List Int} {n c : Nat} (hr : r.length = n) (hc : c < n) : atI (zvs r) (c : Int) = some (.int (r.getD c 0)) := by
  refine atI_nat ?_
  have h : c < r.length := by omega
  rw [show (zvs r)[c]? = some (.int r[c]) by unfold zvs; rw [List.getElem?_map, List.getElem?_eq_getElem h]; rfl]
  rw [List.getD_eq_getElem?_getD, List.getElem?_eq_getElem h]; rfl
theorem bd_mul {b : Int} {r : List Int} (hb : b ≤ 32768) (h0 : 0 ≤ b) (h : ∀ x ∈ r, -b ≤ x ∧ x ≤ b) (c : Nat) (x : Int) : CMul (r.getD c 0) x := by
  have := getD_bd h0 h c
  exact .inl ⟨by omega, by omega⟩
theorem bd_mul2 {b : Int} {r : List Int} (hb : b ≤ 32768) (h0 : 0 ≤ b) (h : ∀ x ∈ r, -b ≤ x ∧ x ≤ b) (c : Nat) (x : Int) : CMul x (r.getD c 0) := by
  have := getD_bd h0 h c
  exact .inr ⟨by omega, by omega⟩
theorem take_zip {α β γ : Type} {f : α → β → γ} {l : List α} {m : List β} {i : Nat} {a : α} {b : β} (h1 : l[i]? = some a) (h2 : m[i]? = some b) : (List.zipWith f l m).take (i + 1) = (List.zipWith f l m).take i ++ [f a b] := by
  have : (List.zipWith f l m)[i]? = some (f a b) := by rw [List.getElem?_zipWith, h1, h2]
  rw [List.take_succ, this]; rfl
def Small (r : List Int) : Prop := ∃ k, k ≤ 4 ∧ ∀ x ∈ r, -bnd k ≤ x ∧ x ≤ bnd k
def sp_row_with (_ : PySem.W.Frag) : Sp := fun vs H Q _ => ∃ (p : Addr) (n c : Nat) (rs : List Addr) (M : List (List Int)), vs = [.ref p, .int c] ∧ H p = some (.lst (rfs rs)) ∧ RowsL H n rs M ∧ c < n ∧ M.length ≤ 8 ∧ (∀ H' (j : Nat) (b : List Int), Same H H' → M[j]? = some b → b.getD c 0 ≠ 0 → (∀ m (e : List Int), m < j → M[m]? = some e → e.getD c 0 = 0) → Q (.int j) H') ∧ ∀ H', Same H H' → (∀ r ∈ M, r.getD c 0 = 0) → Q .non H'
theorem len_row_with {K : PySem.W.Frag} {vs : List V} {H : Hp} {Q : VK} {E : XK} (h : sp_row_with K vs H Q E) : vs.length = 2 := by obtain ⟨_, _, _, _, _, rfl, _⟩ := h; rfl
def sp_cleared (_ : PySem.W.Frag) : Sp := fun vs H Q _ => ∃ (p q : Addr) (n c : Nat) (r b : List Int), vs = [.ref p, .ref q, .int c] ∧ H p = some (.lst (zvs r)) ∧ H q = some (.lst (zvs b)) ∧ r.length = n ∧ b.length = n ∧ c < n ∧ n ≤ 8 ∧ Small r ∧ Small b ∧ ∀ t H', H t = none → H' t = some (.lst (zvs (clr c b r))) → Same H H' → Q (.ref t) H'
theorem len_cleared {K : PySem.W.Frag} {vs : List V} {H : Hp} {Q : VK} {E : XK} (h : sp_cleared K vs H Q E) : vs.length = 3 := by obtain ⟨_, _, _, _, _, _, rfl, _⟩ := h; rfl
def sp_rank (_ : PySem.W.Frag) : Sp := fun vs H Q _ => ∃ (y : List Nat), vs = [.str (S y)] ∧ Yd y ∧ 2 ≤ y.length ∧ y.length ≤ 8 ∧ ∀ H', Same H H' → Q (.int ((elm (bsOf y).length (tabI y)).2 : Nat)) H'
theorem len_rank {K : PySem.W.Frag} {vs : List V} {H : Hp} {Q : VK} {E : XK} (h : sp_rank K vs H Q E) : vs.length = 1 := by obtain ⟨_, rfl, _⟩ := h; rfl
def sp_Lleft (_ : PySem.W.Frag) : Sp := fun vs H Q _ => ∃ (t : Addr) (y : List Nat) (rs : List Addr), vs = [.ref t] ∧ H t = some (.tup (rfs rs)) ∧ RowsAt H y rs ∧ Yd y ∧ 2 ≤ y.length ∧ y.length ≤ 8 ∧ ∀ H', Same H H' → Q (.int ((elm (bsOf y).length (tabI y)).2 : Nat)) H'
theorem len_Lleft {K : PySem.W.Frag} {vs : List V} {H : Hp} {Q : VK} {E : XK} (h : sp_Lleft K vs H Q E) : vs.length = 1 := by obtain ⟨_, _, _, rfl, _⟩ := h; rfl
def sp_Lright (_ : PySem.W.Frag) : Sp := fun vs H Q _ => ∃ (y : List Nat) (p : Addr) (ws : List (List Nat)), vs = [.str (S y), .ref p] ∧ H p = some (.lst (txs ws)) ∧ Yd y ∧ 2 ≤ y.length ∧ y.length ≤ 8 ∧ ws.length ≤ 8 ∧ ∀ H', Same H H' → Q (.bl true) H'
theorem len_Lright {K : PySem.W.Frag} {vs : List V} {H : Hp} {Q : VK} {E : XK} (h : sp_Lright K vs H Q E) : vs.length = 2 := by obtain ⟨_, _, _, rfl, _⟩ := h; rfl
theorem tab_rows {y : List Nat} : (∀ r ∈ tabI y, r.length = (bsOf y).length) ∧ (tabI y).length = (bsOf y).length ∧ Bdd (bnd 0) (tabI y) := by
  refine ⟨fun r hr => ?_, by unfold tabI; rw [List.length_map], fun r hr x hx => ?_⟩
  · obtain ⟨x, _, rfl⟩ := List.mem_map.mp hr
    rw [List.length_map]
  · obtain ⟨u, _, rfl⟩ := List.mem_map.mp hr
    obtain ⟨v, _, rfl⟩ := List.mem_map.mp hx
    show -1 ≤ sg y u v ∧ sg y u v ≤ 1
    unfold sg
    split
    · decide
    · split
      · decide
      · split <;> decide
theorem rows_list {H H' : Hp} {y : List Nat} {rs ts : List Addr} (h : RowsAt H y rs) (hl : ts.length = rs.length) (ht : ∀ (i : Nat) (a t : Addr) (ns : List Int), rs[i]? = some a → ts[i]? = some t → H a = some (.tup (zvs ns)) → H' t = some (.lst (zvs ns))) : RowsL H' (bsOf y).length ts (tabI y) := by
  obtain ⟨t1, t2, _⟩ := tab_rows (y := y)
  refine ⟨by rw [hl, h.1, t2], t1, fun i t r h1 h2 => ?_⟩
  have hi : i < rs.length := by rw [← hl]; exact (List.getElem?_eq_some_iff.mp h1).1
  unfold tabI at h2
  obtain ⟨x, hx, rfl⟩ := map_at h2
  exact ht i rs[i] t _ (List.getElem?_eq_getElem hi) h1 (h.2 i _ x (List.getElem?_eq_getElem hi) hx)
/-- how far the clearing is -/
structure Clrd (y : List Nat) (k : Nat) (M : List (List Int)) (many : Nat) : Prop where
  is : elm k (tabI y) = (M, many)
  bd : Bdd (bnd k) M
  few : M.length ≤ (bsOf y).length
theorem Clrd.start (y : List Nat) : Clrd y 0 (tabI y) 0 := ⟨rfl, tab_rows.2.2, Nat.le_of_eq tab_rows.2.1⟩
theorem Clrd.none {y : List Nat} {k many : Nat} {M : List (List Int)} (h : Clrd y k M many) (no : ∀ r ∈ M, r.getD k 0 = 0) : Clrd y (k + 1) M many := by
  refine ⟨?_, fun r hr x hx => ?_, h.few⟩
  · rw [elm_succ, h.is]
    unfold stE
    show (match pick k M with | .none => _ | some q => _) = _
    rw [pick_no no]
  · have h1 := h.bd r hr x hx
    have h0 := bnd_pos k
    have h2 : bnd k * 1 ≤ bnd k * bnd k := Int.mul_le_mul (Int.le_refl _) h0 (by decide) (by omega)
    show -(2 * (bnd k * bnd k)) ≤ x ∧ x ≤ 2 * (bnd k * bnd k)
    constructor <;> omega
theorem Clrd.some {y : List Nat} {k many j : Nat} {M : List (List Int)} {b : List Int} (h : Clrd y k M many) (hj : M[j]? = some b) (hb : b.getD k 0 ≠ 0) (no : ∀ m (e : List Int), m < j → M[m]? = .some e → e.getD k 0 = 0) : Clrd y (k + 1) ((M.eraseIdx j).map (clr k b)) (many + 1) := by
  refine ⟨?_, fun r hr => ?_, ?_⟩
  · rw [elm_succ, h.is]
    unfold stE
    show (match pick k M with | .none => _ | .some q => _) = _
    rw [pick_at hj hb no]
  · obtain ⟨u, hu, rfl⟩ := List.mem_map.mp hr
    exact clr_bd (h.bd b (List.mem_of_getElem? hj)) (h.bd u (List.mem_of_mem_eraseIdx hu))
  · rw [List.length_map, List.length_eraseIdx]
    have := h.few
    split <;> omega
theorem tab_anti {y : List Nat} (hy : Yd y) {x z : Nat} (hx : x ∈ bsOf y) (hz : z ∈ bsOf y) : sg y x z = 0 - sg y z x := by
  have := sg_swap hy (band_in hy hx).1 (band_in hy hz).1 (band_in hy hx).2 (band_in hy hz).2
  omega
theorem eqv_zds : ∀ a b : List Int, PyData.eqvAll (zds a) (zds b) = true → a = b
  | [], [], _ => rfl
  | [], y :: b, h => by simp [zds, PyData.eqvAll] at h
  | x :: a, [], h => by simp [zds, PyData.eqvAll] at h
  | x :: a, y :: b, h => by
    have h : (PyData.eqv (.int x) (.int y) && PyData.eqvAll (zds a) (zds b)) = true := h
    rw [Bool.and_eq_true] at h
    have h1 : x = y := by simpa [PyData.eqv] using h.1
    rw [h1, eqv_zds a b h.2]
def lds (N : List (List Int)) : List PyData := N.map fun r => .list (zds r)
theorem rd_rows {K : PySem.W.Frag} {H : Hp} {n : Nat} : ∀ {rs : List Addr} {N : List (List Int)}, RowsL H n rs N → RdDs K H (rfs rs) (lds N)
  | [], [], _ => .nil
  | [], _ :: _, h => absurd h.1 (by simp)
  | _ :: _, [], h => absurd h.1 (by simp)
  | a :: rs, r :: N, h => by
    refine .cons (.lst (SqL.of (h.2.2 0 a r rfl rfl)) (rd_zds K H r)) (rd_rows (rs := rs) (N := N) ⟨by simpa using h.1, fun u hu => h.2.1 u (List.mem_cons_of_mem _ hu), fun i a2 r2 h1 h2 => h.2.2 (i + 1) a2 r2 (by simpa using h1) (by simpa using h2)⟩)
theorem lay_lds : ∀ N : List (List Int), PyData.canLayAll0 (lds N) = true
  | [] => rfl
  | r :: N => by
    show (PyData.canLayAll0 (zds r) && PyData.canLayAll0 (lds N)) = true
    rw [lay_zds r, lay_lds N]; rfl
theorem dep_lds : ∀ N : List (List Int), PyData.depthAll (lds N) ≤ 2
  | [] => by decide
  | r :: N => by
    have h1 := dep_lds N
    have h2 := dep_zds r
    show max (PyData.depthAll (zds r) + 1) (PyData.depthAll (lds N)) ≤ 2
    exact Nat.max_le.mpr ⟨by omega, h1⟩
theorem dep_ldl (N : List (List Int)) : (PyData.list (lds N)).depth ≤ 60 := by
  have := dep_lds N
  show PyData.depthAll (lds N) + 1 ≤ 60
  omega
/-- the first of those that have something at a column -/
theorem first_of {c : Nat} : ∀ {M : List (List Int)} {b : List Int} {N : List (List Int)}, (M.filter fun r => !decide (r.getD c 0 = 0)) = b :: N → ∃ j : Nat, M[j]? = some b ∧ b.getD c 0 ≠ 0 ∧ ∀ m (e : List Int), m < j → M[m]? = some e → e.getD c 0 = 0
  | [], _, _, h => by simp at h
  | r :: M, b, N, h => by
    by_cases z : r.getD c 0 = 0
    · rw [List.filter_cons_of_neg (by simpa using z)] at h
      obtain ⟨j, h1, h2, h3⟩ := first_of h
      refine ⟨j + 1, by simpa using h1, h2, fun m e hm he => ?_⟩
      cases m with
      | zero => have : r = e := by simpa using he
                rw [← this]; exact z
      | succ m => exact h3 m e (by omega) (by simpa using he)
    · rw [List.filter_cons_of_pos (by simpa using z)] at h
      injection h with h1 _
      subst h1
      exact ⟨0, rfl, z, fun m e hm => absurd hm (Nat.not_lt_zero _)⟩
theorem none_of {c : Nat} {M : List (List Int)} (h : (M.filter fun r => !decide (r.getD c 0 = 0)) = []) : ∀ r ∈ M, r.getD c 0 = 0 := fun r hr => by
  have := List.filter_eq_nil_iff.mp h r hr
  simpa using this
theorem clr_comm {c : Nat} {b r : List Int} : clr c b r = List.zipWith (fun x z => x * b.getD c 0 - z * r.getD c 0) r b := by
  unfold clr
  congr 1
  funext x z
  rw [Int.mul_comm, Int.mul_comm (r.getD c 0)]
theorem RowsL.snoc {H : Hp} {n : Nat} {rs : List Addr} {M : List (List Int)} {a : Addr} {r : List Int} (h : RowsL H n rs M) (hl : r.length = n) (ha : H a = some (.lst (zvs r))) : RowsL H n (rs ++ [a]) (M ++ [r]) := by
  refine ⟨by rw [List.length_append, List.length_append, h.1]; rfl, fun u hu => ?_, fun i a2 r2 h1 h2 => ?_⟩
  · rcases List.mem_append.mp hu with z | z
    · exact h.2.1 u z
    · rw [List.mem_singleton.mp z]; exact hl
  · by_cases z : i < rs.length
    · rw [List.getElem?_append_left z] at h1
      rw [List.getElem?_append_left (by rw [← h.1]; exact z)] at h2
      exact h.2.2 i a2 r2 h1 h2
    · have hj : i = rs.length := by
        have := (List.getElem?_eq_some_iff.mp h1).1
        rw [List.length_append] at this
        have : i < rs.length + 1 := this
        omega
      subst hj
      rw [List.getElem?_append_right (Nat.le_refl _), Nat.sub_self] at h1
      rw [h.1, List.getElem?_append_right (Nat.le_refl _), Nat.sub_self] at h2
      have e1 : a = a2 := by simpa using h1
      have e2 : r = r2 := by simpa using h2
      rw [← e1, ← e2]; exact ha
theorem RowsL.nil (H : Hp) (n : Nat) : RowsL H n [] [] := ⟨rfl, fun _ h => absurd h List.not_mem_nil, fun i a r h => by simp at h⟩
theorem erase_rfs : ∀ (rs : List Addr) (j : Nat), (rfs rs).eraseIdx j = rfs (rs.eraseIdx j)
  | [], _ => rfl
  | _ :: _, 0 => rfl
  | a :: rs, j + 1 => by show V.ref a :: (rfs rs).eraseIdx j = V.ref a :: rfs (rs.eraseIdx j); rw [erase_rfs rs j]
def prm5 : List (List Nat) := prm [66, 99, 67, 100, 68]
def okR (r : List Nat) : Bool := (ins 98 r).all fun a => (ins 65 a).all fun q => okB 4 (97 :: q)
theorem chk4_0 : ((prm5.drop 0).take 5).all okR = true := by decide +kernel
theorem chk4_1 : ((prm5.drop 5).take 5).all okR = true := by decide +kernel
theorem chk4_2 : ((prm5.drop 10).take 5).all okR = true := by decide +kernel
theorem chk4_3 : ((prm5.drop 15).take 5).all okR = true := by decide +kernel
theorem chk4_4 : ((prm5.drop 20).take 5).all okR = true := by decide +kernel
theorem chk4_5 : ((prm5.drop 25).take 5).all okR = true := by decide +kernel
theorem chk4_6 : ((prm5.drop 30).take 5).all okR = true := by decide +kernel
theorem chk4_7 : ((prm5.drop 35).take 5).all okR = true := by decide +kernel
theorem chk4_8 : ((prm5.drop 40).take 5).all okR = true := by decide +kernel
theorem chk4_9 : ((prm5.drop 45).take 5).all okR = true := by decide +kernel
theorem chk4_10 : ((prm5.drop 50).take 5).all okR = true := by decide +kernel
theorem chk4_11 : ((prm5.drop 55).take 5).all okR = true := by decide +kernel
theorem chk4_12 : ((prm5.drop 60).take 5).all okR = true := by decide +kernel
theorem chk4_13 : ((prm5.drop 65).take 5).all okR = true := by decide +kernel
theorem chk4_14 : ((prm5.drop 70).take 5).all okR = true := by decide +kernel
theorem chk4_15 : ((prm5.drop 75).take 5).all okR = true := by decide +kernel
theorem chk4_16 : ((prm5.drop 80).take 5).all okR = true := by decide +kernel
theorem chk4_17 : ((prm5.drop 85).take 5).all okR = true := by decide +kernel
theorem chk4_18 : ((prm5.drop 90).take 5).all okR = true := by decide +kernel
theorem chk4_19 : ((prm5.drop 95).take 5).all okR = true := by decide +kernel
theorem chk4_20 : ((prm5.drop 100).take 5).all okR = true := by decide +kernel
theorem chk4_21 : ((prm5.drop 105).take 5).all okR = true := by decide +kernel
theorem chk4_22 : ((prm5.drop 110).take 5).all okR = true := by decide +kernel
theorem chk4_23 : ((prm5.drop 115).take 5).all okR = true := by decide +kernel
theorem all_fives {α : Type} {F : α → Bool} {l : List α} {m : Nat} (hl : l.length ≤ 5 * m) (h : ∀ k, k < m → ((l.drop (5 * k)).take 5).all F = true) : l.all F = true := by
  refine List.all_eq_true.mpr fun x hx => ?_
  obtain ⟨i, hi, rfl⟩ := List.getElem_of_mem hx
  have hk := h (i / 5) (by omega)
  refine List.all_eq_true.mp hk _ (List.mem_of_getElem? (i := i % 5) ?_)
  rw [List.getElem?_take_of_lt (by omega), List.getElem?_drop, show 5 * (i / 5) + i % 5 = i by omega, List.getElem?_eq_getElem hi]
theorem chk4 : prm5.all okR = true := by
  refine all_fives (m := 24) (by decide +kernel) fun k hk => ?_
  match k, hk with
  | 0, _ => exact chk4_0
  | 1, _ => exact chk4_1
  | 2, _ => exact chk4_2
  | 3, _ => exact chk4_3
  | 4, _ => exact chk4_4
  | 5, _ => exact chk4_5
  | 6, _ => exact chk4_6
  | 7, _ => exact chk4_7
  | 8, _ => exact chk4_8
  | 9, _ => exact chk4_9
  | 10, _ => exact chk4_10
  | 11, _ => exact chk4_11
  | 12, _ => exact chk4_12
  | 13, _ => exact chk4_13
  | 14, _ => exact chk4_14
  | 15, _ => exact chk4_15
  | 16, _ => exact chk4_16
  | 17, _ => exact chk4_17
  | 18, _ => exact chk4_18
  | 19, _ => exact chk4_19
  | 20, _ => exact chk4_20
  | 21, _ => exact chk4_21
  | 22, _ => exact chk4_22
  | 23, _ => exact chk4_23
  | k + 24, h => exact absurd h (by omega)
theorem chk_all : ∀ n ∈ [1, 2, 3, 4], (cny n).all (okB n) = true := by
  intro n hn
  simp only [List.mem_cons, List.not_mem_nil, or_false] at hn
  rcases hn with rfl | rfl | rfl | rfl
  · decide +kernel
  · decide +kernel
  · decide +kernel
  · show ((prm [65, 98, 66, 99, 67, 100, 68]).map (97 :: ·)).all (okB 4) = true
    rw [List.all_map]
    show ((prm5.flatMap (ins 98)).flatMap (ins 65)).all (okB 4 ∘ (97 :: ·)) = true
    rw [List.all_flatMap, List.all_flatMap]
    exact chk4
local macro_rules | `(tactic| walk_at "rd") => `(tactic| repeat (first
  | refine ⟨_, rfl, ?_⟩
  | refine ⟨_, _, rfl, rfl, ?_⟩
  | refine ⟨rfl, ?_⟩
  | refine And.intro (by first | decide | omega | assumption | exact Nat.le_of_ble_eq_true rfl | exact .inl ⟨by decide, by decide⟩ | exact .inr ⟨by decide, by decide⟩ | exact ⟨by decide, by decide⟩ | exact ⟨by omega, by omega⟩) ?_))
local macro_rules | `(tactic| walk_at "wk") => `(tactic| repeat (first
  | refine ⟨_, rfl, ?_⟩
  | refine ⟨_, _, rfl, rfl, ?_⟩
  | refine ⟨_, _, _, rfl, rfl, by first | assumption | omega, by assumption, ?_⟩
  | refine ⟨rfl, ?_⟩
  | refine And.intro (by first | decide | omega | assumption | exact Nat.le_of_ble_eq_true rfl | exact .inl ⟨by decide, by decide⟩ | exact .inr ⟨by decide, by decide⟩ | exact ⟨by decide, by decide⟩ | exact ⟨by omega, by omega⟩) ?_))
def top (i : Nat) : Stmt := PySem.Challenge.pw_mustmeet_k85_whole_rank_and_handles.main.body.getD i (.Pass ⟨0, 0, 0, 0⟩)
abbrev s_contrary : Stmt := top 1
abbrev s_bands : Stmt := top 3
abbrev s_steps_round : Stmt := top 4
abbrev s_goes_round : Stmt := top 5
abbrev s_net : Stmt := top 7
abbrev s_crosses : Stmt := top 8
abbrev s_table_row : Stmt := top 9
abbrev s_table : Stmt := top 10
abbrev s_crossed : Stmt := top 11
abbrev s_row_with : Stmt := top 12
abbrev s_cleared : Stmt := top 13
abbrev s_rank : Stmt := top 14
abbrev s_shortened : Stmt := top 16
abbrev s_shortest : Stmt := top 17
abbrev s_ring : Stmt := top 18
abbrev s_next_end : Stmt := top 20
abbrev s_rim_behind : Stmt := top 21
abbrev s_rims : Stmt := top 22
abbrev s_handles : Stmt := top 23
abbrev s_Lbox : Stmt := top 25
abbrev s_Ltake : Stmt := top 26
abbrev s_Lother : Stmt := top 27
abbrev s_Lyard : Stmt := top 28
abbrev s_Lword : Stmt := top 29
abbrev s_Lleft : Stmt := top 30
abbrev s_Lright : Stmt := top 31
abbrev s_law : Stmt := top 32
structure FunAt (K : PySem.W.Frag) (mg : Str → Option Value) (x : Str) (st : Stmt) (ps : List Str) (f : Addr) (fd : FuncData) : Prop where
  fn : Fun K x x st f fd
  mg : mg x = some (.ref f)
  bd : Binds K fd ps []
structure Txt (K : PySem.W.Frag) (mg : Str → Option Value) (f0 f1 f2 f3 f4 f5 f6 f7 f8 f9 f10 f11 f12 f13 f14 f15 f16 f17 f18 f19 f20 f21 f22 f23 f24 f25 f26 : Addr) (d0 d1 d2 d3 d4 d5 d6 d7 d8 d9 d10 d11 d12 d13 d14 d15 d16 d17 d18 d19 d20 d21 d22 d23 d24 d25 d26 : FuncData) : Prop where
  F0 : FunAt K mg "contrary" s_contrary ["letter"] f0 d0
  F1 : FunAt K mg "bands" s_bands ["yard"] f1 d1
  F2 : FunAt K mg "steps_round" s_steps_round ["yard", "start", "end"] f2 d2
  F3 : FunAt K mg "goes_round" s_goes_round ["yard", "x", "y", "z"] f3 d3
  F4 : FunAt K mg "net" s_net ["yard", "word"] f4 d4
  F5 : FunAt K mg "crosses" s_crosses ["yard", "band", "other"] f5 d5
  F6 : FunAt K mg "table_row" s_table_row ["yard", "band"] f6 d6
  F7 : FunAt K mg "table" s_table ["yard"] f7 d7
  F8 : FunAt K mg "crossed" s_crossed ["yard", "one", "other"] f8 d8
  F9 : FunAt K mg "row_with" s_row_with ["rows", "column"] f9 d9
  F10 : FunAt K mg "cleared" s_cleared ["row", "by", "column"] f10 d10
  F11 : FunAt K mg "rank" s_rank ["yard"] f11 d11
  F12 : FunAt K mg "shortened" s_shortened ["word"] f12 d12
  F13 : FunAt K mg "shortest" s_shortest ["word"] f13 d13
  F14 : FunAt K mg "ring" s_ring ["word"] f14 d14
  F15 : FunAt K mg "next_end" s_next_end ["yard", "end"] f15 d15
  F16 : FunAt K mg "rim_behind" s_rim_behind ["yard", "start"] f16 d16
  F17 : FunAt K mg "rims" s_rims ["yard"] f17 d17
  F18 : FunAt K mg "handles" s_handles ["yard"] f18 d18
  F19 : FunAt K mg "_law_box" s_Lbox ["_law_script", "_law_k"] f19 d19
  F20 : FunAt K mg "_law_take" s_Ltake ["_law_box_here", "_law_many"] f20 d20
  F21 : FunAt K mg "_law_other" s_Lother ["_law_letter"] f21 d21
  F22 : FunAt K mg "_law_yard" s_Lyard ["_law_box_here", "_law_few", "_law_top"] f22 d22
  F23 : FunAt K mg "_law_word" s_Lword ["_law_box_here", "_law_yard_here", "_law_top"] f23 d23
  F24 : FunAt K mg "_law_left" s_Lleft ["_law_rows"] f24 d24
  F25 : FunAt K mg "_law_right" s_Lright ["_law_yard_here", "_law_words"] f25 d25
  F26 : FunAt K mg "law" s_law ["_law_script"] f26 d26
  z_all : mg "all" = none
  z_bool : mg "bool" = none
  z_enumerate : mg "enumerate" = none
  z_int : mg "int" = none
  z_isinstance : mg "isinstance" = none
  z_len : mg "len" = none
  z_list : mg "list" = none
  z_range : mg "range" = none
  z_sorted : mg "sorted" = none
  z_sum : mg "sum" = none
  z_tuple : mg "tuple" = none
  z_zip : mg "zip" = none
theorem sc_contrary : FnScope ["letter"] ["letter"] (defScope s_contrary) := ⟨rfl, rfl, rfl, by decide +kernel, rfl, by decide +kernel, by decide +kernel⟩
theorem sc_bands : FnScope ["yard"] ["yard"] (defScope s_bands) := ⟨rfl, rfl, rfl, by decide +kernel, rfl, by decide +kernel, by decide +kernel⟩
theorem sc_steps_round : FnScope ["yard", "start", "end"] ["yard", "start", "end"] (defScope s_steps_round) := ⟨rfl, rfl, rfl, by decide +kernel, rfl, by decide +kernel, by decide +kernel⟩
theorem sc_goes_round : FnScope ["yard", "x", "y", "z"] ["yard", "x", "y", "z"] (defScope s_goes_round) := ⟨rfl, rfl, rfl, by decide +kernel, rfl, by decide +kernel, by decide +kernel⟩
theorem sc_net : FnScope ["yard", "word"] ["yard", "word"] (defScope s_net) := ⟨rfl, rfl, rfl, by decide +kernel, rfl, by decide +kernel, by decide +kernel⟩
theorem sc_crosses : FnScope ["yard", "band", "other", "start", "capital_ahead"] ["yard", "band", "other"] (defScope s_crosses) := ⟨rfl, rfl, rfl, by decide +kernel, rfl, by decide +kernel, by decide +kernel⟩
theorem sc_table_row : FnScope ["yard", "band"] ["yard", "band"] (defScope s_table_row) := ⟨rfl, rfl, rfl, by decide +kernel, rfl, by decide +kernel, by decide +kernel⟩
theorem sc_table : FnScope ["yard"] ["yard"] (defScope s_table) := ⟨rfl, rfl, rfl, by decide +kernel, rfl, by decide +kernel, by decide +kernel⟩
theorem sc_crossed : FnScope ["yard", "one", "other", "other_net", "total", "many", "row"] ["yard", "one", "other"] (defScope s_crossed) := ⟨rfl, rfl, rfl, by decide +kernel, rfl, by decide +kernel, by decide +kernel⟩
theorem sc_row_with : FnScope ["rows", "column", "number", "row"] ["rows", "column"] (defScope s_row_with) := ⟨rfl, rfl, rfl, by decide +kernel, rfl, by decide +kernel, by decide +kernel⟩
theorem sc_cleared : FnScope ["row", "by", "column"] ["row", "by", "column"] (defScope s_cleared) := ⟨rfl, rfl, rfl, by decide +kernel, rfl, by decide +kernel, by decide +kernel⟩
theorem sc_rank : FnScope ["yard", "rows", "many", "column", "number", "by"] ["yard"] (defScope s_rank) := ⟨rfl, rfl, rfl, by decide +kernel, rfl, by decide +kernel, by decide +kernel⟩
theorem sc_shortened : FnScope ["word", "kept", "letter"] ["word"] (defScope s_shortened) := ⟨rfl, rfl, rfl, by decide +kernel, rfl, by decide +kernel, by decide +kernel⟩
theorem sc_shortest : FnScope ["word", "left", "start", "end"] ["word"] (defScope s_shortest) := ⟨rfl, rfl, rfl, by decide +kernel, rfl, by decide +kernel, by decide +kernel⟩
theorem sc_ring : FnScope ["word", "whole", "least", "start", "begun"] ["word"] (defScope s_ring) := ⟨rfl, rfl, rfl, by decide +kernel, rfl, by decide +kernel, by decide +kernel⟩
theorem sc_next_end : FnScope ["yard", "end"] ["yard", "end"] (defScope s_next_end) := ⟨rfl, rfl, rfl, by decide +kernel, rfl, by decide +kernel, by decide +kernel⟩
theorem sc_rim_behind : FnScope ["yard", "start", "word", "place", "passed"] ["yard", "start"] (defScope s_rim_behind) := ⟨rfl, rfl, rfl, by decide +kernel, rfl, by decide +kernel, by decide +kernel⟩
theorem sc_rims : FnScope ["yard", "seen", "told", "end", "word", "letter"] ["yard"] (defScope s_rims) := ⟨rfl, rfl, rfl, by decide +kernel, rfl, by decide +kernel, by decide +kernel⟩
theorem sc_handles : FnScope ["yard"] ["yard"] (defScope s_handles) := ⟨rfl, rfl, rfl, by decide +kernel, rfl, by decide +kernel, by decide +kernel⟩
theorem sc_Lbox : FnScope ["_law_script", "_law_k", "_law_cell", "_law_seed"] ["_law_script", "_law_k"] (defScope s_Lbox) := ⟨rfl, rfl, rfl, by decide +kernel, rfl, by decide +kernel, by decide +kernel⟩
theorem sc_Ltake : FnScope ["_law_box_here", "_law_many", "_law_digit", "_law_one"] ["_law_box_here", "_law_many"] (defScope s_Ltake) := ⟨rfl, rfl, rfl, by decide +kernel, rfl, by decide +kernel, by decide +kernel⟩
theorem sc_Lother : FnScope ["_law_letter", "_law_small", "_law_capital"] ["_law_letter"] (defScope s_Lother) := ⟨rfl, rfl, rfl, by decide +kernel, rfl, by decide +kernel, by decide +kernel⟩
theorem sc_Lyard : FnScope ["_law_box_here", "_law_few", "_law_top", "_law_left_here", "_law_ends", "_law_k", "_law_letter", "_law_found"] ["_law_box_here", "_law_few", "_law_top"] (defScope s_Lyard) := ⟨rfl, rfl, rfl, by decide +kernel, rfl, by decide +kernel, by decide +kernel⟩
theorem sc_Lword : FnScope ["_law_box_here", "_law_yard_here", "_law_top"] ["_law_box_here", "_law_yard_here", "_law_top"] (defScope s_Lword) := ⟨rfl, rfl, rfl, by decide +kernel, rfl, by decide +kernel, by decide +kernel⟩
theorem sc_Lleft : FnScope ["_law_rows", "_law_many", "_law_at", "_law_some", "_law_first"] ["_law_rows"] (defScope s_Lleft) := ⟨rfl, rfl, rfl, by decide +kernel, rfl, by decide +kernel, by decide +kernel⟩
theorem sc_Lright : FnScope ["_law_yard_here", "_law_words", "_law_rows", "_law_many", "_law_x", "_law_rim"] ["_law_yard_here", "_law_words"] (defScope s_Lright) := ⟨rfl, rfl, rfl, by decide +kernel, rfl, by decide +kernel, by decide +kernel⟩
theorem sc_law : FnScope ["_law_script", "_law_k", "_law_box_here", "_law_yard_here"] ["_law_script"] (defScope s_law) := ⟨rfl, rfl, rfl, by decide +kernel, rfl, by decide +kernel, by decide +kernel⟩
section
variable {P : Program} {w : World} {K : PySem.W.Frag} {mg : Str → Option Value} {base : Heap} {f0 f1 f2 f3 f4 f5 f6 f7 f8 f9 f10 f11 f12 f13 f14 f15 f16 f17 f18 f19 f20 f21 f22 f23 f24 f25 f26 : Addr} {d0 d1 d2 d3 d4 d5 d6 d7 d8 d9 d10 d11 d12 d13 d14 d15 d16 d17 d18 d19 d20 d21 d22 d23 d24 d25 d26 : FuncData}
/-- names: 0 yard -/
theorem ok_bands (T : Txt K mg f0 f1 f2 f3 f4 f5 f6 f7 f8 f9 f10 f11 f12 f13 f14 f15 f16 f17 f18 f19 f20 f21 f22 f23 f24 f25 f26 d0 d1 d2 d3 d4 d5 d6 d7 d8 d9 d10 d11 d12 d13 d14 d15 d16 d17 d18 d19 d20 d21 d22 d23 d24 d25 d26) : FnOk P w K mg base CX0 1 f1 d1 ["yard"] (sp_bands K) := by
  refine T.F1.fn.ok sc_bands (fun vs H Q E h => len_bands h) (fun cdv A outer s H vs Q E hr h => ?_)
  refine ⟨_, (pss_one (ps_ret (pe_bmK K rfl PySem.F.plainAttrs_str PySem.F.slot_str_join PySem.F.type_str_join (mt_joinK K rfl) (pe_S [] (by decide +kernel)) (pa_cons (pe_callB (call_sortedK K rfl) rfl T.z_sorted boot_sorted (pa_cons (pe_compB ["letter"] [none] (pi_str (pv 0)) trivial (fun _ _ _ _ => (pg_name (i := 0) (by decide +kernel : List.Nodup (["letter"] : List Str)) rfl (Or.inl rfl))) (fun _ _ _ _ => (pf_one (pt_val (pe_bm0K K rfl PySem.F.plainAttrs_str PySem.F.slot_str_islower PySem.F.type_str_islower mt_islower (pv 0))))) (fun _ _ _ _ => (pv 0))) pa_nil)) pa_nil)))), ?_⟩
  obtain ⟨l, rfl, hl, hz, q⟩ := h
  have hs : (1000 : Nat) < sizeLine := by decide
  refine ⟨rfl, _, rfl, l, rfl, ?_⟩
  refine comp_fix (xs := sgs l) (fun i acc H' => Same H H' ∧ acc = sgs ((l.take i).filter isLow)) (by rw [sgs_len]; omega) ⟨Same.refl H, rfl⟩ ?_ ?_
  · rintro i x acc H1 Nx hi hx hal ⟨s1, rfl⟩ nx
    obtain ⟨c, hc, rfl⟩ := sgs_get hx
    have e := filter_take (p := isLow) hc
    refine ⟨trivial, ?_⟩
    refine ⟨_, rfl, rfl, c, rfl, rfl, hl c (List.mem_of_getElem? hc), _, rfl, ?_⟩
    refine ite2 (fun z => ?_) (fun z => ?_)
    · rw [if_pos z] at e
      exact ⟨_, rfl, nx _ _ (by simpa using hal) ⟨s1, by rw [e, ← sgs_snoc]⟩⟩
    · rw [if_neg z, List.append_nil] at e
      exact nx _ _ (Nat.le_succ_of_le hal) ⟨s1, by rw [e]⟩
  · rintro acc H1 D hal ⟨s1, rfl⟩ hD
    rw [sgs_take, sgs_lists]
    have hfl : (l.filter isLow).length ≤ l.length := List.length_filter_le _ _
    refine ⟨D, (l.filter isLow).map fun c => [c], rfl, SqL.of upd_same, by rw [List.length_map]; omega, fun p ls hp hpm hpw => ?_⟩
    obtain ⟨l', rfl, pl⟩ := ones_of hpm
    have hl' := pl.length_eq
    refine ⟨p, l'.map fun c => [c], rfl, rfl, SqL.of upd_same, by rw [sum1]; omega, ?_⟩
    rw [flat1]
    exact q l' _ pl (ones_pw hpw) ((s1.trans (Same.upd hD)).trans (Same.upd hp))
/-- names: 0 letter -/
theorem ok_contrary (T : Txt K mg f0 f1 f2 f3 f4 f5 f6 f7 f8 f9 f10 f11 f12 f13 f14 f15 f16 f17 f18 f19 f20 f21 f22 f23 f24 f25 f26 d0 d1 d2 d3 d4 d5 d6 d7 d8 d9 d10 d11 d12 d13 d14 d15 d16 d17 d18 d19 d20 d21 d22 d23 d24 d25 d26) : FnOk P w K mg base CX0 1 f0 d0 ["letter"] (sp_contrary K) := by
  refine T.F0.fn.ok sc_contrary (fun vs H Q E h => len_contrary h) (fun cdv A outer s H vs Q E hr h => ?_)
  refine ⟨_, (pss_cons (ps_if (pt_val (pe_bm0K K rfl PySem.F.plainAttrs_str PySem.F.slot_str_islower PySem.F.type_str_islower mt_islower (pv 0))) (pss_one (ps_ret (pe_bm0K K rfl PySem.F.plainAttrs_str PySem.F.slot_str_upper PySem.F.type_str_upper mt_upper (pv 0)))) pss_nil)
      (pss_one (ps_ret (pe_bm0K K rfl PySem.F.plainAttrs_str PySem.F.slot_str_lower PySem.F.type_str_lower mt_lower (pv 0))))), ?_⟩
  obtain ⟨c, rfl, hc, q⟩ := h
  refine ⟨_, rfl, rfl, c, rfl, rfl, hc, _, rfl, ite2 (fun e => ?_) (fun e => ?_)⟩
  · refine ⟨_, rfl, rfl, c, rfl, rfl, hc, ?_⟩
    have z : ctr c = PyProof.Rows.up1 c := if_pos e
    rw [← z]
    exact q
  · refine ⟨_, rfl, rfl, c, rfl, rfl, hc, ?_⟩
    have z : ctr c = PyProof.Rows.lo1 c := if_neg e
    rw [← z]
    exact q
/-- names: 0 yard, 1 word -/
theorem ok_net (T : Txt K mg f0 f1 f2 f3 f4 f5 f6 f7 f8 f9 f10 f11 f12 f13 f14 f15 f16 f17 f18 f19 f20 f21 f22 f23 f24 f25 f26 d0 d1 d2 d3 d4 d5 d6 d7 d8 d9 d10 d11 d12 d13 d14 d15 d16 d17 d18 d19 d20 d21 d22 d23 d24 d25 d26) : FnOk P w K mg base CX0 2 f4 d4 ["yard", "word"] (sp_net K) := by
  have G_bands := ok_bands (P := P) (w := w) (base := base) T
  have G_contrary := ok_contrary (P := P) (w := w) (base := base) T
  refine T.F4.fn.ok sc_net (fun vs H Q E h => len_net h) (fun cdv A outer s H vs Q E hr h => ?_)
  refine ⟨_, (pss_one (ps_ret (pe_callTy (call_tuple_ofK K rfl) rfl T.z_tuple boot_tuple (pa_cons (pe_compB ["band", "word"] [none, some 1] (pi_str (pe_call G_bands (hr.mono (by decide)) rfl T.F1.mg T.F1.fn.kp T.F1.bd .nil pass0 (pa_cons (pv 0) pa_nil))) ⟨⟨rfl, rfl, by first | exact .inl rfl | exact .inr rfl⟩, trivial⟩ (fun _ _ _ _ => (pg_name (i := 0) (by decide +kernel : List.Nodup (["band", "word"] : List Str)) rfl (Or.inl rfl))) (fun _ _ _ _ => pf_nil) (fun _ _ _ _ => (pe_op op_sub (pe_bmK K rfl PySem.F.plainAttrs_str PySem.F.slot_str_count PySem.F.type_str_count mt_countS (pv 1) (pa_cons (pv 0) pa_nil)) (pe_bmK K rfl PySem.F.plainAttrs_str PySem.F.slot_str_count PySem.F.type_str_count mt_countS (pv 1) (pa_cons (pe_call G_contrary (hr.mono (by decide)) rfl T.F0.mg T.F0.fn.kp T.F0.bd .nil pass0 (pa_cons (pv 0) pa_nil)) pa_nil))))) pa_nil)))), ?_⟩
  obtain ⟨y, w, rfl, hy, hz, q⟩ := h
  have hs : (100000 : Nat) < sizeLine := by decide
  have hbl := bsOf_len hy
  refine ⟨_, rfl, y, rfl, lt128 hy.lt, by omega, fun l' H1 hp hw s1 => ?_⟩
  have el := bsOf_eq hp hw
  subst el
  refine ⟨bsOf y, rfl, ?_⟩
  refine comp_fix (xs := sgs (bsOf y)) (fun i acc H' => H' = H1 ∧ acc = zvs (((bsOf y).take i).map (ntf w))) (by rw [sgs_len]; omega) ⟨rfl, rfl⟩ ?_ ?_
  · rintro i x acc H2 Nx hi hx hal ⟨rfl, rfl⟩ nx
    obtain ⟨c, hc, rfl⟩ := sgs_get hx
    have hcl : Lt c := .inl (band_in hy (List.mem_of_getElem? hc)).2
    refine ⟨⟨rfl, trivial⟩, yes_ite ?_⟩
    refine ⟨_, rfl, rfl, _, rfl, w, c, rfl, rfl, ?_⟩
    refine ⟨_, rfl, rfl, _, rfl, c, rfl, hcl.lt, w, ctr c, rfl, rfl, ?_⟩
    refine ⟨_, _, rfl, rfl, ?_⟩
    exact nx _ _ (by simpa using hal) ⟨rfl, by rw [zvs_snoc, ← take_snoc hc, List.map_append]; rfl⟩
  rintro acc H2 D hal ⟨rfl, rfl⟩ hD
  rw [sgs_take]
  refine ⟨D, _, rfl, .inl ⟨SqL.of upd_same, fun t nt => ?_⟩⟩
  exact q t _ (Same.free (s1.trans (Same.upd hD)) nt) upd_same ((s1.trans (Same.upd hD)).trans (Same.upd nt))
/-- names: 0 yard, 1 start, 2 end -/
theorem ok_steps_round (T : Txt K mg f0 f1 f2 f3 f4 f5 f6 f7 f8 f9 f10 f11 f12 f13 f14 f15 f16 f17 f18 f19 f20 f21 f22 f23 f24 f25 f26 d0 d1 d2 d3 d4 d5 d6 d7 d8 d9 d10 d11 d12 d13 d14 d15 d16 d17 d18 d19 d20 d21 d22 d23 d24 d25 d26) : FnOk P w K mg base CX0 1 f2 d2 ["yard", "start", "end"] (sp_steps_round K) := by
  refine T.F2.fn.ok sc_steps_round (fun vs H Q E h => len_steps_round h) (fun cdv A outer s H vs Q E hr h => ?_)
  refine ⟨_, (pss_one (ps_ret (pe_op op_mod (pe_op op_sub (pe_bmK K rfl PySem.F.plainAttrs_str PySem.F.slot_str_find PySem.F.type_str_find mt_findS (pv 0) (pa_cons (pv 2) pa_nil)) (pe_bmK K rfl PySem.F.plainAttrs_str PySem.F.slot_str_find PySem.F.type_str_find mt_findS (pv 0) (pa_cons (pv 1) pa_nil))) (pe_callB call_lenS rfl T.z_len PySem.boot_len (pa_cons (pv 0) pa_nil))))), ?_⟩
  obtain ⟨y, a, b, rfl, ha, hb, hz, q⟩ := h
  have hs : (1000 : Nat) < sizeLine := by decide
  have hp : (0 : Int) < (y.length : Int) := by have := List.length_pos_of_mem ha; omega
  refine ⟨_, rfl, rfl, _, rfl, y, b, rfl, rfl, ?_⟩
  rw [if_pos hb]
  refine ⟨_, rfl, rfl, _, rfl, y, a, rfl, rfl, ?_⟩
  rw [if_pos ha]
  exact ⟨_, _, rfl, rfl, _, rfl, y, rfl, by omega, _, _, rfl, rfl, hp, q⟩
/-- names: 0 yard, 1 x, 2 y, 3 z -/
theorem ok_goes_round (T : Txt K mg f0 f1 f2 f3 f4 f5 f6 f7 f8 f9 f10 f11 f12 f13 f14 f15 f16 f17 f18 f19 f20 f21 f22 f23 f24 f25 f26 d0 d1 d2 d3 d4 d5 d6 d7 d8 d9 d10 d11 d12 d13 d14 d15 d16 d17 d18 d19 d20 d21 d22 d23 d24 d25 d26) : FnOk P w K mg base CX0 2 f3 d3 ["yard", "x", "y", "z"] (sp_goes_round K) := by
  have G_steps_round := ok_steps_round (P := P) (w := w) (base := base) T
  refine T.F3.fn.ok sc_goes_round (fun vs H Q E h => len_goes_round h) (fun cdv A outer s H vs Q E hr h => ?_)
  refine ⟨_, (pss_one (ps_ret (pe_cmpR op_lt (pe_call G_steps_round (hr.mono (by decide)) rfl T.F2.mg T.F2.fn.kp T.F2.bd .nil pass0 (pa_cons (pv 0) (pa_cons (pv 1) (pa_cons (pv 2) pa_nil)))) (pe_call G_steps_round (hr.mono (by decide)) rfl T.F2.mg T.F2.fn.kp T.F2.bd .nil pass0 (pa_cons (pv 0) (pa_cons (pv 1) (pa_cons (pv 3) pa_nil)))) (nomark _)))), ?_⟩
  obtain ⟨y, a, b, c, rfl, ha, hb, hc, hz, q⟩ := h
  refine ⟨_, rfl, _, rfl, _, rfl, y, a, b, rfl, ha, hb, hz, ?_⟩
  refine ⟨_, rfl, _, rfl, _, rfl, y, a, c, rfl, ha, hc, hz, ?_⟩
  exact ⟨_, _, rfl, rfl, q⟩
/-- names: 0 yard, 1 band, 2 other, 3 start, 4 capital_ahead -/
theorem ok_crosses (T : Txt K mg f0 f1 f2 f3 f4 f5 f6 f7 f8 f9 f10 f11 f12 f13 f14 f15 f16 f17 f18 f19 f20 f21 f22 f23 f24 f25 f26 d0 d1 d2 d3 d4 d5 d6 d7 d8 d9 d10 d11 d12 d13 d14 d15 d16 d17 d18 d19 d20 d21 d22 d23 d24 d25 d26) : FnOk P w K mg base CX0 3 f5 d5 ["yard", "band", "other"] (sp_crosses K) := by
  have G_contrary := ok_contrary (P := P) (w := w) (base := base) T
  have G_goes_round := ok_goes_round (P := P) (w := w) (base := base) T
  refine T.F5.fn.ok sc_crosses (fun vs H Q E h => len_crosses h) (fun cdv A outer s H vs Q E hr h => ?_)
  refine ⟨_, (pss_cons (ps_set (i := 3) sc_crosses.nd rfl (Or.inl rfl) (pe_call G_contrary (hr.mono (by decide)) rfl T.F0.mg T.F0.fn.kp T.F0.bd .nil pass0 (pa_cons (pv 1) pa_nil)))
      (pss_cons (ps_if (pt_cmpR op_eqS (pv 1) (pv 2) (nomark _)) (pss_one (ps_ret pe_int)) pss_nil)
      (pss_cons (ps_set (i := 4) sc_crosses.nd rfl (Or.inl rfl) (pe_call G_goes_round (hr.mono (by decide)) rfl T.F3.mg T.F3.fn.kp T.F3.bd .nil pass0 (pa_cons (pv 0) (pa_cons (pv 3) (pa_cons (pe_call G_contrary (hr.mono (by decide)) rfl T.F0.mg T.F0.fn.kp T.F0.bd .nil pass0 (pa_cons (pv 2) pa_nil)) (pa_cons (pv 1) pa_nil))))))
      (pss_cons (ps_if (pt_cmpR op_eqB (pv 4) (pe_call G_goes_round (hr.mono (by decide)) rfl T.F3.mg T.F3.fn.kp T.F3.bd .nil pass0 (pa_cons (pv 0) (pa_cons (pv 3) (pa_cons (pv 2) (pa_cons (pv 1) pa_nil))))) (nomark _)) (pss_one (ps_ret pe_int)) pss_nil)
      (pss_one (ps_ret (pe_ifExp (pt_val (pv 4)) pe_int (pe_un un_neg pe_int)))))))), ?_⟩
  obtain ⟨y, x, z, rfl, hy, hl, hx, hz, q⟩ := h
  obtain ⟨mx, sx⟩ := band_in hy hx
  obtain ⟨mz, sz⟩ := band_in hy hz
  have lx : Lt x := .inl sx
  have lz : Lt z := .inl sz
  have cx := hy.cl x mx
  have cz := hy.cl z mz
  refine ⟨_, rfl, x, rfl, lx.lt, ?_⟩
  refine ⟨_, rfl, _, rfl, _, _, rfl, rfl, _, rfl, ite2 (fun e => ?_) (fun e => ?_)⟩
  · have e1 : x = z := by simpa [S] using of_decide_eq_true e
    rw [show sg y x z = 0 by unfold sg; rw [if_pos e1]] at q
    exact q
  have e1 : x ≠ z := fun g => e (decide_eq_true (by rw [g]))
  refine ⟨_, rfl, _, rfl, _, rfl, z, rfl, lz.lt, _, rfl, y, ctr x, ctr z, x, rfl, cx, cz, mx, by omega, ?_⟩
  refine ⟨_, rfl, _, rfl, _, rfl, _, rfl, _, rfl, y, ctr x, z, x, rfl, cx, mz, mx, by omega, ?_⟩
  refine ⟨_, _, rfl, rfl, _, rfl, ite2 (fun e2 => ?_) (fun e2 => ?_)⟩
  · rw [show sg y x z = 0 by unfold sg; rw [if_neg e1, if_pos (of_decide_eq_true e2)]] at q
    exact q
  have e3 : ¬ gr y (ctr x) (ctr z) x = gr y (ctr x) z x := fun g => e2 (decide_eq_true g)
  refine ⟨_, rfl, _, rfl, ite2 (fun e4 => ?_) (fun e4 => ?_)⟩
  · rw [show sg y x z = 1 by unfold sg; rw [if_neg e1, if_neg e3, if_pos e4]] at q
    exact q
  · rw [show sg y x z = -1 by unfold sg; rw [if_neg e1, if_neg e3, if_neg e4]] at q
    exact ⟨_, rfl, q⟩
/-- names: 0 yard, 1 end -/
theorem ok_next_end (T : Txt K mg f0 f1 f2 f3 f4 f5 f6 f7 f8 f9 f10 f11 f12 f13 f14 f15 f16 f17 f18 f19 f20 f21 f22 f23 f24 f25 f26 d0 d1 d2 d3 d4 d5 d6 d7 d8 d9 d10 d11 d12 d13 d14 d15 d16 d17 d18 d19 d20 d21 d22 d23 d24 d25 d26) : FnOk P w K mg base CX0 1 f15 d15 ["yard", "end"] (sp_next_end K) := by
  refine T.F15.fn.ok sc_next_end (fun vs H Q E h => len_next_end h) (fun cdv A outer s H vs Q E hr h => ?_)
  refine ⟨_, (pss_one (ps_ret (pe_ix ix_S (pv 0) (pe_op op_mod (pe_op op_add (pe_bmK K rfl PySem.F.plainAttrs_str PySem.F.slot_str_index PySem.F.type_str_index mt_indexS (pv 0) (pa_cons (pv 1) pa_nil)) pe_int) (pe_callB call_lenS rfl T.z_len PySem.boot_len (pa_cons (pv 0) pa_nil))) (fun _ _ => rfl)))), ?_⟩
  obtain ⟨y, e, rfl, he, hz, q⟩ := h
  have hs : (1000 : Nat) < sizeLine := by decide
  have hp : (0 : Int) < (y.length : Int) := by have := List.length_pos_of_mem he; omega
  obtain ⟨hk, e2⟩ := nxt_at he
  have hat : atI y ((((y.idxOf e : Nat) : Int) + 1) % (y.length : Int)) = some (nxt y e) := by
    have : ((((y.idxOf e : Nat) : Int) + 1) % (y.length : Int)) = (((y.idxOf e + 1) % y.length : Nat) : Int) := by push_cast; rfl
    rw [this, e2]
    exact atI_nat (List.getElem?_eq_getElem hk)
  exact ⟨_, rfl, _, rfl, rfl, _, rfl, y, e, rfl, rfl, he, _, _, rfl, rfl, _, rfl, y, rfl, by omega, _, _, rfl, rfl, hp, y, _, _, rfl, rfl, by omega, hat, q⟩
/-- names: 0 yard, 1 start, 2 word, 3 place, 4 passed -/
theorem ok_rim_behind (T : Txt K mg f0 f1 f2 f3 f4 f5 f6 f7 f8 f9 f10 f11 f12 f13 f14 f15 f16 f17 f18 f19 f20 f21 f22 f23 f24 f25 f26 d0 d1 d2 d3 d4 d5 d6 d7 d8 d9 d10 d11 d12 d13 d14 d15 d16 d17 d18 d19 d20 d21 d22 d23 d24 d25 d26) : FnOk P w K mg base CX0 2 f16 d16 ["yard", "start"] (sp_rim_behind K) := by
  have G_next_end := ok_next_end (P := P) (w := w) (base := base) T
  have G_contrary := ok_contrary (P := P) (w := w) (base := base) T
  refine T.F16.fn.ok sc_rim_behind (fun vs H Q E h => len_rim_behind h) (fun cdv A outer s H vs Q E hr h => ?_)
  refine ⟨_, (pss_cons (ps_set (i := 2) sc_rim_behind.nd rfl (Or.inl rfl) (pe_S [] (by decide +kernel)))
      (pss_cons (ps_set (i := 3) sc_rim_behind.nd rfl (Or.inl rfl) (pv 1))
      (pss_cons (ps_whileN PassesOwn.never (PW.pt (pw_or (pt_cmpR op_eqS (pv 2) (pe_S [] (by decide +kernel)) (nomark _)) (pw_or1 (pt_cmpR op_neS (pv 3) (pv 1) (nomark _))))) (pss_cons (ps_set (i := 4) sc_rim_behind.nd rfl (Or.inl rfl) (pe_call G_next_end (hr.mono (by decide)) rfl T.F15.mg T.F15.fn.kp T.F15.bd .nil pass0 (pa_cons (pv 0) (pa_cons (pv 3) pa_nil))))
      (pss_cons (ps_aug (i := 2) sc_rim_behind.nd rfl (Or.inl rfl) (pv 4) ip_addS)
      (pss_one (ps_set (i := 3) sc_rim_behind.nd rfl (Or.inl rfl) (pe_call G_contrary (hr.mono (by decide)) rfl T.F0.mg T.F0.fn.kp T.F0.bd .nil pass0 (pa_cons (pv 4) pa_nil)))))))
      (pss_one (ps_ret (pv 2)))))), ?_⟩
  obtain ⟨y, e, rfl, hy, he, hz, q⟩ := h
  have hs : (1000 : Nat) < sizeLine := by decide
  walk_at "wk"
  refine ⟨fun m σ H' => H' = H ∧ ∃ (w : List Nat) (pl : Nat) (pv : Option V), σ = [some (.str (S y)), some (.str (S [e])), some (.str (S w)), some (.str (S [pl])), pv] ∧ m = y.length - w.length ∧ RimW y e w pl, ⟨_, rfl, [], e, none, rfl, rfl, RimW.start he⟩, ?_⟩
  rintro m σ H1 ⟨rfl, w, pl, pv, rfl, rfl, r⟩
  refine ⟨_, rfl, w, [], rfl, rfl, _, rfl, ite2 (fun z => ?_) (fun z => ?_)⟩
  · have hw0 : w = [] := of_decide_eq_true z
    refine iteT ?_
    have rt := r.turn hy he (.inl hw0)
    have hlt := rt.way.len
    rw [List.length_append] at hlt
    have hl1 : w.length + 1 ≤ y.length := hlt
    have h8 : nxt y pl < 128 := (hy.lt _ (nxt_mem r.ply)).lt
    have hwz : w.length + [nxt y pl].length ≤ sizeLine := by show w.length + 1 ≤ _; omega
    refine ⟨_, rfl, _, rfl, y, pl, rfl, r.ply, by omega, ?_⟩
    walk_at "wk"
    refine ⟨y.length - (w ++ [nxt y pl]).length, by rw [List.length_append]; show y.length - (w.length + 1) < _; omega, rfl, _, _, _, rfl, rfl, rt⟩
  · have hw0 : w ≠ [] := fun q => z (decide_eq_true q)
    refine ⟨_, rfl, _, rfl, [pl], [e], rfl, rfl, _, rfl, ite2 (fun z2 => ?_) (fun z2 => ?_)⟩
    · have hpe : pl ≠ e := fun q => by rw [q] at z2; simp at z2
      have rt := r.turn hy he (.inr hpe)
      have hlt := rt.way.len
      rw [List.length_append] at hlt
      have hl1 : w.length + 1 ≤ y.length := hlt
      have h8 : nxt y pl < 128 := (hy.lt _ (nxt_mem r.ply)).lt
      have hwz : w.length + [nxt y pl].length ≤ sizeLine := by show w.length + 1 ≤ _; omega
      refine ⟨_, rfl, _, rfl, y, pl, rfl, r.ply, by omega, ?_⟩
      walk_at "wk"
      refine ⟨y.length - (w ++ [nxt y pl]).length, by rw [List.length_append]; show y.length - (w.length + 1) < _; omega, rfl, _, _, _, rfl, rfl, rt⟩

    · have hpe : pl = e := by simpa using z2
      subst hpe
      obtain ⟨o1, o2⟩ := r.stop hy hw0
      exact ⟨_, rfl, q w o1 r.way.iny o2⟩
/-- names: 0 word, 1 kept, 2 letter -/
theorem ok_shortened (T : Txt K mg f0 f1 f2 f3 f4 f5 f6 f7 f8 f9 f10 f11 f12 f13 f14 f15 f16 f17 f18 f19 f20 f21 f22 f23 f24 f25 f26 d0 d1 d2 d3 d4 d5 d6 d7 d8 d9 d10 d11 d12 d13 d14 d15 d16 d17 d18 d19 d20 d21 d22 d23 d24 d25 d26) : FnOk P w K mg base CX0 2 f12 d12 ["word"] (sp_shortened K) := by
  have G_contrary := ok_contrary (P := P) (w := w) (base := base) T
  refine T.F12.fn.ok sc_shortened (fun vs H Q E h => len_shortened h) (fun cdv A outer s H vs Q E hr h => ?_)
  refine ⟨_, (pss_cons (ps_set (i := 1) sc_shortened.nd rfl (Or.inl rfl) (pe_lst pa_nil))
      (pss_cons (ps_for PassesOwn.never rfl (pi_str (pv 0)) (pg_name (i := 2) sc_shortened.nd rfl (Or.inl rfl)) (pss_one (ps_if (PW.pt (pw_and (pt_truL K rfl (pv 1)) (pw_and1 (pt_cmpR op_eqS (pe_ix (ix_listK K rfl) (pv 1) (pe_un un_neg pe_int) (fun _ _ => rfl)) (pe_call G_contrary (hr.mono (by decide)) rfl T.F0.mg T.F0.fn.kp T.F0.bd .nil pass0 (pa_cons (pv 2) pa_nil)) (nomark _))))) (pss_one (ps_expr (pe_bm0K K rfl PySem.F.plainAttrs_list PySem.F.slot_list_pop PySem.F.type_list_pop mt_pop (pv 1)))) (pss_one (ps_expr (pe_bmK K rfl PySem.F.plainAttrs_list PySem.F.slot_list_append PySem.F.type_list_append mt_append (pv 1) (pa_cons (pv 2) pa_nil)))))))
      (pss_one (ps_ret (pe_bmK K rfl PySem.F.plainAttrs_str PySem.F.slot_str_join PySem.F.type_str_join (mt_joinK K rfl) (pe_S [] (by decide +kernel)) (pa_cons (pv 1) pa_nil)))))), ?_⟩
  obtain ⟨l, rfl, hl, hz, q⟩ := h
  have hs : (100000 : Nat) < sizeLine := by decide
  walk_at "rd"
  intro p1 n1
  refine ⟨_, rfl, l, rfl, ?_⟩
  refine for_fix (xs := sgs l) (fun i σ H' => ∃ lv, σ = [some (.str (S l)), some (.ref p1), lv] ∧ H' p1 = some (.lst (sgs (red (l.take i)))) ∧ SameB p1 H H') ⟨none, rfl, upd_same, SameB.of (Same.upd n1)⟩ ?_ ?_
  · rintro i x σ H1 hx ⟨lv, rfl, hp, s1⟩
    obtain ⟨c, hc, rfl⟩ := sgs_get hx
    have hi : i < l.length := (List.getElem?_eq_some_iff.mp hc).1
    have h8 : c < 128 := (hl c (List.mem_of_getElem? hc)).lt
    have hrl : (red (l.take i)).length ≤ 1000 := Nat.le_trans (red_len _) (by rw [List.length_take]; omega)
    have fin : ∀ st, st = rstep (red (l.take i)) c → ∃ lv, [some (V.str (S l)), some (V.ref p1), some (V.str (S [c]))] = [some (V.str (S l)), some (.ref p1), lv] ∧ (upd H1 p1 (.lst (sgs st))) p1 = some (.lst (sgs (red (l.take (i + 1))))) ∧ SameB p1 H (upd H1 p1 (.lst (sgs st))) := fun st e =>
      ⟨_, rfl, by rw [upd_same, red_take hc, e], fun b o e z => by rw [upd_ne z]; exact s1 b o e z⟩
    refine ⟨_, rfl, p1, _, rfl, SqL.of hp, ?_⟩
    rcases snoc_cases (red (l.take i)) with e | ⟨m, a, e⟩
    · rw [e] at hp ⊢
      refine iteN rfl ?_
      refine iteF ?_
      refine ⟨_, rfl, .inl ⟨rfl, _, SqL.of hp⟩, _, rfl, p1, _, _, rfl, rfl, hp, by rw [sgs_len]; exact (by decide : (0 : Nat) < sizeLine), ?_⟩
      rw [sgs_snoc]
      refine fin _ ?_
      rw [e]
      unfold rstep
      rw [if_neg (by simp)]
    · rw [e] at hp hrl ⊢
      have hml : m.length ≤ 1000 := by simp at hrl; omega
      rw [← sgs_snoc] at hp ⊢
      refine iteY (by simp) ?_
      refine ⟨_, rfl, _, rfl, p1, _, _, _, rfl, rfl, SqL.of hp, atI_last _ _, _, rfl, c, rfl, h8, [a], [ctr c], rfl, rfl, _, rfl, ite2 (fun z => ?_) (fun z => ?_)⟩
      · have ea : a = ctr c := by simpa using of_decide_eq_true z
        refine ⟨_, rfl, .inl ⟨rfl, _, SqL.of hp⟩, p1, _, V.str (S [a]), rfl, rfl, hp, by simp, ?_⟩
        rw [List.dropLast_concat]
        refine fin _ ?_
        rw [e]
        unfold rstep
        rw [if_pos (by simp [ea]), List.dropLast_concat]
      · have ea : a ≠ ctr c := fun w => z (decide_eq_true (by rw [w]))
        refine ⟨_, rfl, .inl ⟨rfl, _, SqL.of hp⟩, _, rfl, p1, _, _, rfl, rfl, hp, by rw [List.length_append, sgs_len]; show m.length + 1 < sizeLine; omega, ?_⟩
        rw [sgs_snoc, sgs_snoc]
        refine fin _ ?_
        rw [e]
        unfold rstep
        rw [if_neg (by simpa using ea)]
  · rintro σ H1 ⟨lv, rfl, hp, s1⟩
    rw [sgs_take] at hp
    refine ⟨rfl, _, rfl, p1, (red l).map fun c => [c], rfl, rfl, SqL.of (by rw [← sgs_lists]; exact hp), ?_, ?_⟩
    · rw [sum1]
      have := red_len l
      omega
    · rw [flat1]
      exact q _ (fun b o e => s1 b o e (ne_of_none e n1))
/-- names: 0 word, 1 left, 2 start, 3 end -/
theorem ok_shortest (T : Txt K mg f0 f1 f2 f3 f4 f5 f6 f7 f8 f9 f10 f11 f12 f13 f14 f15 f16 f17 f18 f19 f20 f21 f22 f23 f24 f25 f26 d0 d1 d2 d3 d4 d5 d6 d7 d8 d9 d10 d11 d12 d13 d14 d15 d16 d17 d18 d19 d20 d21 d22 d23 d24 d25 d26) : FnOk P w K mg base CX0 3 f13 d13 ["word"] (sp_shortest K) := by
  have G_shortened := ok_shortened (P := P) (w := w) (base := base) T
  have G_contrary := ok_contrary (P := P) (w := w) (base := base) T
  refine T.F13.fn.ok sc_shortest (fun vs H Q E h => len_shortest h) (fun cdv A outer s H vs Q E hr h => ?_)
  refine ⟨_, (pss_cons (ps_set (i := 1) sc_shortest.nd rfl (Or.inl rfl) (pe_call G_shortened (hr.mono (by decide)) rfl T.F12.mg T.F12.fn.kp T.F12.bd .nil pass0 (pa_cons (pv 0) pa_nil)))
      (pss_cons (ps_set (i := 2) sc_shortest.nd rfl (Or.inl rfl) pe_int)
      (pss_cons (ps_set (i := 3) sc_shortest.nd rfl (Or.inl rfl) (pe_callB call_lenS rfl T.z_len PySem.boot_len (pa_cons (pv 1) pa_nil)))
      (pss_cons (ps_whileN PassesOwn.never (PW.pt (pw_and (pt_cmpR op_ge (pe_op op_sub (pv 3) (pv 2)) pe_int (nomark _)) (pw_and1 (pt_cmpR op_eqS (pe_ix ix_S (pv 1) (pv 2) (fun _ _ => rfl)) (pe_call G_contrary (hr.mono (by decide)) rfl T.F0.mg T.F0.fn.kp T.F0.bd .nil pass0 (pa_cons (pe_ix ix_S (pv 1) (pe_op op_sub (pv 3) pe_int) (fun _ _ => rfl)) pa_nil)) (nomark _))))) (pss_cons (ps_aug (i := 2) sc_shortest.nd rfl (Or.inl rfl) pe_int ip_add)
      (pss_one (ps_aug (i := 3) sc_shortest.nd rfl (Or.inl rfl) pe_int ip_sub))))
      (pss_one (ps_ret (pe_slice sl_S (pv 1) (po_some (pv 2)) (po_some (pv 3))))))))), ?_⟩
  obtain ⟨l, rfl, hl, hz, q⟩ := h
  have hs : (100000 : Nat) < sizeLine := by decide
  refine ⟨_, rfl, l, rfl, hl, hz, fun H1 s1 => ?_⟩
  have hr1 := red_len l
  have hlt := red_lt hl
  generalize red l = r at hr1 hlt q ⊢
  have hrz : r.length ≤ sizeLine := by omega
  walk_at "rd"
  refine ⟨fun m σ H' => ∃ (a e : Nat), σ = [some (.str (S l)), some (.str (S r)), some (.int a), some (.int e)] ∧ m = e - a ∧ a ≤ e ∧ e ≤ r.length ∧ core (win r a e) = core r ∧ H' = H1, ⟨_, 0, r.length, rfl, rfl, Nat.zero_le _, Nat.le_refl _, by rw [win_all], rfl⟩, ?_⟩
  rintro m σ H2 ⟨a, e, rfl, rfl, h1, h2, hc, rfl⟩
  have fin : core (win r a e) = win r a e → Q (.str (S (cut r (some (a : Int)) (some (e : Int))))) H2 := fun z => by
    have e1 : cut r (some (a : Int)) (some (e : Int)) = win r a e := by
      unfold cut win
      rw [HT.sIx_nat, HT.sIx_nat]
      have e1 : min a r.length = a := by omega
      have e2 : min e r.length = e := by omega
      rw [e1, e2]
    rw [e1, ← z, hc]
    exact q H2 s1
  walk_at "rd"
  refine ite2 (fun z => ?_) (fun z => ?_)
  · have z1 : (2 : Int) ≤ (e : Int) - (a : Int) := of_decide_eq_true z
    have ha : a < r.length := by omega
    have he : e - 1 < r.length := by omega
    have g0 : atI r (a : Int) = some r[a] := atI_nat (List.getElem?_eq_getElem ha)
    have g1 : atI r ((e : Int) - 1) = some r[e - 1] := by
      have : (e : Int) - 1 = ((e - 1 : Nat) : Int) := by omega
      rw [this]; exact atI_nat (List.getElem?_eq_getElem he)
    have h8 : r[e - 1] < 128 := (hlt _ (List.getElem_mem he)).lt
    have hw := win_go (l := r) (s := a) (e := e) (by omega) h2
    refine ⟨_, rfl, _, rfl, r, _, _, rfl, rfl, hrz, g0, ?_⟩
    walk_at "rd"
    refine ⟨r, _, _, rfl, rfl, hrz, g1, ?_⟩
    walk_at "rd"
    refine ite2 (fun y => ?_) (fun y => ?_)
    · have ey : r[a] = ctr r[e - 1] := by simpa using of_decide_eq_true y
      walk_at "rd"
      refine ⟨(e - 1) - (a + 1), by omega, a + 1, e - 1, ?_, rfl, by omega, by omega, ?_, rfl⟩
      · have e1 : (a : Int) + 1 = ((a + 1 : Nat) : Int) := by omega
        have e2 : (e : Int) - 1 = ((e - 1 : Nat) : Int) := by omega
        rw [← e1, ← e2]
        rfl
      · rw [← hc, hw, core_go ey]
    · have ey : r[a] ≠ ctr r[e - 1] := fun w => y (decide_eq_true (by rw [w]))
      walk_at "rd"
      exact fin (by rw [hw, core_stop ey])
  · have z1 : ¬ (2 : Int) ≤ (e : Int) - (a : Int) := fun w => z (decide_eq_true w)
    walk_at "rd"
    exact fin (core_short (by rw [win_len h2]; omega))
/-- names: 0 yard, 1 band -/
theorem ok_table_row (T : Txt K mg f0 f1 f2 f3 f4 f5 f6 f7 f8 f9 f10 f11 f12 f13 f14 f15 f16 f17 f18 f19 f20 f21 f22 f23 f24 f25 f26 d0 d1 d2 d3 d4 d5 d6 d7 d8 d9 d10 d11 d12 d13 d14 d15 d16 d17 d18 d19 d20 d21 d22 d23 d24 d25 d26) : FnOk P w K mg base CX0 4 f6 d6 ["yard", "band"] (sp_table_row K) := by
  have G_bands := ok_bands (P := P) (w := w) (base := base) T
  have G_crosses := ok_crosses (P := P) (w := w) (base := base) T
  refine T.F6.fn.ok sc_table_row (fun vs H Q E h => len_table_row h) (fun cdv A outer s H vs Q E hr h => ?_)
  refine ⟨_, (pss_one (ps_ret (pe_callTy (call_tuple_ofK K rfl) rfl T.z_tuple boot_tuple (pa_cons (pe_compB ["other", "yard", "band"] [none, some 0, some 1] (pi_str (pe_call G_bands (hr.mono (by decide)) rfl T.F1.mg T.F1.fn.kp T.F1.bd .nil pass0 (pa_cons (pv 0) pa_nil))) ⟨⟨rfl, rfl, by first | exact .inl rfl | exact .inr rfl⟩, ⟨⟨rfl, rfl, by first | exact .inl rfl | exact .inr rfl⟩, trivial⟩⟩ (fun _ _ _ _ => (pg_name (i := 0) (by decide +kernel : List.Nodup (["other", "yard", "band"] : List Str)) rfl (Or.inl rfl))) (fun _ _ _ _ => pf_nil) (fun _ _ _ _ => (pe_call G_crosses (hr.mono (by decide)) rfl T.F5.mg T.F5.fn.kp T.F5.bd .nil pass0 (pa_cons (pv 1) (pa_cons (pv 2) (pa_cons (pv 0) pa_nil)))))) pa_nil)))), ?_⟩
  obtain ⟨y, x, rfl, hy, hz, hx, q⟩ := h
  have hs : (100000 : Nat) < sizeLine := by decide
  have hbl := bsOf_len hy
  refine ⟨_, rfl, y, rfl, lt128 hy.lt, by omega, fun l' H1 hp hw s1 => ?_⟩
  have el := bsOf_eq hp hw
  subst el
  refine ⟨bsOf y, rfl, ?_⟩
  refine comp_fix (xs := sgs (bsOf y)) (fun i acc H' => H' = H1 ∧ acc = zvs (((bsOf y).take i).map (sg y x))) (by rw [sgs_len]; omega) ⟨rfl, rfl⟩ ?_ ?_
  · rintro i v acc H2 Nx hi hv hal ⟨rfl, rfl⟩ nx
    obtain ⟨c, hc, rfl⟩ := sgs_get hv
    refine ⟨⟨rfl, rfl, trivial⟩, yes_ite ?_⟩
    refine ⟨_, rfl, _, rfl, _, rfl, y, x, c, rfl, hy, hz, hx, List.mem_of_getElem? hc, ?_⟩
    exact nx _ _ (by simpa using hal) ⟨rfl, by rw [zvs_snoc, ← take_snoc hc, List.map_append]; rfl⟩
  rintro acc H2 D hal ⟨rfl, rfl⟩ hD
  rw [sgs_take]
  refine ⟨D, _, rfl, .inl ⟨SqL.of upd_same, fun t nt => ?_⟩⟩
  exact q t _ (Same.free (s1.trans (Same.upd hD)) nt) upd_same ((s1.trans (Same.upd hD)).trans (Same.upd nt))
/-- names: 0 yard -/
theorem ok_table (T : Txt K mg f0 f1 f2 f3 f4 f5 f6 f7 f8 f9 f10 f11 f12 f13 f14 f15 f16 f17 f18 f19 f20 f21 f22 f23 f24 f25 f26 d0 d1 d2 d3 d4 d5 d6 d7 d8 d9 d10 d11 d12 d13 d14 d15 d16 d17 d18 d19 d20 d21 d22 d23 d24 d25 d26) : FnOk P w K mg base CX0 5 f7 d7 ["yard"] (sp_table K) := by
  have G_bands := ok_bands (P := P) (w := w) (base := base) T
  have G_table_row := ok_table_row (P := P) (w := w) (base := base) T
  refine T.F7.fn.ok sc_table (fun vs H Q E h => len_table h) (fun cdv A outer s H vs Q E hr h => ?_)
  refine ⟨_, (pss_one (ps_ret (pe_callTy (call_tuple_ofK K rfl) rfl T.z_tuple boot_tuple (pa_cons (pe_compB ["band", "yard"] [none, some 0] (pi_str (pe_call G_bands (hr.mono (by decide)) rfl T.F1.mg T.F1.fn.kp T.F1.bd .nil pass0 (pa_cons (pv 0) pa_nil))) ⟨⟨rfl, rfl, by first | exact .inl rfl | exact .inr rfl⟩, trivial⟩ (fun _ _ _ _ => (pg_name (i := 0) (by decide +kernel : List.Nodup (["band", "yard"] : List Str)) rfl (Or.inl rfl))) (fun _ _ _ _ => pf_nil) (fun _ _ _ _ => (pe_call G_table_row (hr.mono (by decide)) rfl T.F6.mg T.F6.fn.kp T.F6.bd .nil pass0 (pa_cons (pv 1) (pa_cons (pv 0) pa_nil))))) pa_nil)))), ?_⟩
  obtain ⟨y, rfl, hy, hz, q⟩ := h
  have hs : (100000 : Nat) < sizeLine := by decide
  have hbl := bsOf_len hy
  refine ⟨_, rfl, y, rfl, lt128 hy.lt, by omega, fun l' H1 hp hw s1 => ?_⟩
  have el := bsOf_eq hp hw
  subst el
  refine ⟨bsOf y, rfl, ?_⟩
  refine comp_fix (xs := sgs (bsOf y)) (fun i acc H' => Same H1 H' ∧ ∃ rs : List Addr, acc = rfs rs ∧ rs.length = i ∧ ∀ (j : Nat) (a : Addr) (x : Nat), rs[j]? = some a → (bsOf y)[j]? = some x → H' a = some (.tup (zvs ((bsOf y).map (sg y x))))) (by rw [sgs_len]; omega) ⟨Same.refl _, [], rfl, rfl, fun j a x h => by simp at h⟩ ?_ ?_
  · rintro i v acc H2 Nx hi hv hal ⟨s2, rs, rfl, hrl, hr⟩ nx
    obtain ⟨c, hc, rfl⟩ := sgs_get hv
    refine ⟨⟨rfl, trivial⟩, yes_ite ?_⟩
    refine ⟨_, rfl, _, rfl, y, c, rfl, hy, hz, List.mem_of_getElem? hc, fun t H3 nt ht s3 => ?_⟩
    refine nx _ _ (by simpa using hal) ⟨s2.trans s3, rs ++ [t], rfs_snoc rs t, by rw [List.length_append, hrl]; rfl, fun j a x hj hx => ?_⟩
    by_cases hlt : j < rs.length
    · rw [List.getElem?_append_left hlt] at hj
      exact s3 _ _ (hr j a x hj hx)
    · have hj2 : j = rs.length := by
        have := (List.getElem?_eq_some_iff.mp hj).1
        rw [List.length_append] at this
        have : j < rs.length + 1 := this
        omega
      subst hj2
      rw [List.getElem?_append_right (Nat.le_refl _), Nat.sub_self] at hj
      have ea : t = a := by simpa using hj
      rw [hrl, hc] at hx
      have ex : c = x := Option.some.inj hx
      subst ea
      subst ex
      exact ht
  rintro acc H2 D hal ⟨s2, rs, rfl, hrl, hr⟩ hD
  rw [sgs_len] at hrl
  refine ⟨D, _, rfl, .inl ⟨SqL.of upd_same, fun t nt => ?_⟩⟩
  have sA := (Same.upd (o := .lst (rfs rs)) hD).trans (Same.upd (o := .tup (rfs rs)) nt)
  exact q t rs _ (Same.free (s1.trans (s2.trans (Same.upd hD))) nt) upd_same ⟨hrl, fun j a x h1 h2 => sA _ _ (hr j a x h1 h2)⟩ (s1.trans (s2.trans sA))
/-- names: 0 yard, 1 one, 2 other, 3 other_net, 4 total, 5 many, 6 row -/
theorem ok_crossed (T : Txt K mg f0 f1 f2 f3 f4 f5 f6 f7 f8 f9 f10 f11 f12 f13 f14 f15 f16 f17 f18 f19 f20 f21 f22 f23 f24 f25 f26 d0 d1 d2 d3 d4 d5 d6 d7 d8 d9 d10 d11 d12 d13 d14 d15 d16 d17 d18 d19 d20 d21 d22 d23 d24 d25 d26) : FnOk P w K mg base CX0 6 f8 d8 ["yard", "one", "other"] (sp_crossed K) := by
  have G_net := ok_net (P := P) (w := w) (base := base) T
  have G_table := ok_table (P := P) (w := w) (base := base) T
  refine T.F8.fn.ok sc_crossed (fun vs H Q E h => len_crossed h) (fun cdv A outer s H vs Q E hr h => ?_)
  refine ⟨_, (pss_cons (ps_set (i := 3) sc_crossed.nd rfl (Or.inl rfl) (pe_call G_net (hr.mono (by decide)) rfl T.F4.mg T.F4.fn.kp T.F4.bd .nil pass0 (pa_cons (pv 0) (pa_cons (pv 2) pa_nil))))
      (pss_cons (ps_set (i := 4) sc_crossed.nd rfl (Or.inl rfl) pe_int)
      (pss_cons (ps_for PassesOwn.never rfl (pi_zipTT K rfl rfl T.z_zip (pa_cons (pe_call G_net (hr.mono (by decide)) rfl T.F4.mg T.F4.fn.kp T.F4.bd .nil pass0 (pa_cons (pv 0) (pa_cons (pv 1) pa_nil))) (pa_cons (pe_call G_table (hr.mono (by decide)) rfl T.F7.mg T.F7.fn.kp T.F7.bd .nil pass0 (pa_cons (pv 0) pa_nil)) pa_nil))) (pg_tupK (n := 2) K rfl rfl (pgs_cons (pg_name (i := 5) sc_crossed.nd rfl (Or.inl rfl)) (pgs_cons (pg_name (i := 6) sc_crossed.nd rfl (Or.inl rfl)) pgs_nil))) (pss_one (ps_aug (i := 4) sc_crossed.nd rfl (Or.inl rfl) (pe_op op_mul (pv 5) (pe_callB (call_sumI K rfl rfl) rfl T.z_sum boot_sum (pa_cons (pe_compB ["number", "entry"] [none, none] (pi_zipTT K rfl rfl T.z_zip (pa_cons (pv 3) (pa_cons (pv 6) pa_nil))) trivial (fun _ _ _ _ => (pg_tupK (n := 2) K rfl rfl (pgs_cons (pg_name (i := 0) (by decide +kernel : List.Nodup (["number", "entry"] : List Str)) rfl (Or.inl rfl)) (pgs_cons (pg_name (i := 1) (by decide +kernel : List.Nodup (["number", "entry"] : List Str)) rfl (Or.inl rfl)) pgs_nil)))) (fun _ _ _ _ => pf_nil) (fun _ _ _ _ => (pe_op op_mul (pv 0) (pv 1)))) pa_nil))) ip_add)))
      (pss_one (ps_ret (pv 4)))))), ?_⟩
  obtain ⟨y, w, v, rfl, hy, hz, hwl, q⟩ := h
  have hs : (100000 : Nat) < sizeLine := by decide
  have hbl := bsOf_len hy
  refine ⟨_, rfl, _, rfl, y, v, rfl, hy, hz, fun t0 H1 n0 ht0 s1 => ?_⟩
  refine ⟨_, rfl, _, rfl, y, w, rfl, hy, hz, fun t1 H2 n1 ht1 s2 => ?_⟩
  refine ⟨_, rfl, y, rfl, hy, hz, fun t2 rs H3 n2 ht2 hr s3 => ?_⟩
  have ht1' := s3 _ _ ht1
  have ht0' := s3 _ _ (s2 _ _ ht0)
  have s03 : Same H H3 := s1.trans (s2.trans s3)
  refine ⟨t1, t2, rfl, ⟨_, SqT.of ht1'⟩, ⟨_, SqT.of ht2⟩, ?_⟩
  refine for_zip (xs := zvs ((bsOf y).map (ntf w))) (ys := rfs rs) (fun i σ H' => ∃ (mv rv : Option V), σ = [some (.str (S y)), some (.str (S w)), some (.str (S v)), some (.ref t0), some (.int ((((bsOf y).take i).map fun x => ntf w x * ((bsOf y).map fun z => ntf v z * sg y x z).sum).sum)), mv, rv] ∧ Same H3 H') (by rw [zvs_len, rfs_len, hr.1, List.length_map]) ⟨none, none, rfl, Same.refl _⟩ (fun i σ H' _ ⟨_, _, _, s⟩ => ⟨SqT.of (s _ _ ht1'), SqT.of (s _ _ ht2)⟩) ?_ ?_
  · rintro i x r σ H4 T hx hrr ⟨mv, rv, rfl, s4⟩ nT
    obtain ⟨n, hn, rfl⟩ := zvs_at hx
    obtain ⟨c, hc, rfl⟩ := map_at hn
    obtain ⟨a, ha, rfl⟩ := map_at hrr
    have hrow := s4 _ _ (hr.2 i a c ha hc)
    refine ⟨T, _, rfl, SqT.of upd_same, rfl, _, _, rfl, _, _, rfl, rfl, ?_⟩
    have s4T := Same.upd (o := .tup [.int (ntf w c), .ref a]) nT
    refine ⟨_, rfl, ?_⟩
    refine ⟨_, rfl, _, rfl, _, rfl, t0, a, rfl, ⟨_, SqT.of (s4T _ _ (s4 _ _ ht0'))⟩, ⟨_, SqT.of (s4T _ _ hrow)⟩, ?_⟩
    refine comp_zip (xs := zvs ((bsOf y).map (ntf v))) (ys := zvs ((bsOf y).map (sg y c))) (fun j acc H' => Same (upd H4 T (.tup [.int (ntf w c), .ref a])) H' ∧ acc = zvs (((bsOf y).take j).map fun z => ntf v z * sg y c z)) (by rw [zvs_len, zvs_len, List.length_map, List.length_map]) (by rw [zvs_len, List.length_map]; omega) (fun j acc H' h => ⟨SqT.of (h.1 _ _ (s4T _ _ (s4 _ _ ht0'))), SqT.of (h.1 _ _ (s4T _ _ hrow))⟩) ⟨Same.refl _, rfl⟩ ?_ ?_
    · rintro j x1 x2 acc H5 T2 Nx h1 h2 hal ⟨s5, rfl⟩ nT2 nx
      obtain ⟨m1, hm1, rfl⟩ := zvs_at h1
      obtain ⟨d, hd, rfl⟩ := map_at hm1
      obtain ⟨m2, hm2, rfl⟩ := zvs_at h2
      obtain ⟨d2, hd2, rfl⟩ := map_at hm2
      have ed : d = d2 := Option.some.inj (hd.symm.trans hd2)
      subst ed
      refine ⟨T2, _, rfl, SqT.of upd_same, rfl, _, _, rfl, _, _, rfl, rfl, ?_⟩
      refine ⟨trivial, yes_ite ?_⟩
      refine ⟨_, rfl, _, rfl, _, _, rfl, rfl, mul_sg, ?_⟩
      exact nx _ _ (by simpa using hal) ⟨s5.trans (Same.upd nT2), by rw [zvs_snoc, ← take_snoc hd, List.map_append]; rfl⟩
    · rintro acc H5 D hal ⟨s5, rfl⟩ hD
      rw [zvs_len, List.length_map, List.take_length]
      refine ⟨D, _, rfl, SqL.of upd_same, ?_⟩
      refine ⟨_, _, rfl, rfl, mul_net hwl, ?_⟩
      refine ⟨_, _, rfl, rfl, ?_⟩
      have es : (((bsOf y).take (i + 1)).map fun x => ntf w x * ((bsOf y).map fun z => ntf v z * sg y x z).sum).sum = (((bsOf y).take i).map fun x => ntf w x * ((bsOf y).map fun z => ntf v z * sg y x z).sum).sum + ntf w c * ((bsOf y).map fun z => ntf v z * sg y c z).sum := by
        rw [← take_snoc hc, List.map_append, List.sum_append]
        simp
      refine ⟨some (.int (ntf w c)), some (.ref a), ?_, s4.trans (s4T.trans (s5.trans (Same.upd hD)))⟩
      rw [es]
      rfl
  · rintro σ H4 ⟨mv, rv, rfl, s4⟩
    rw [zvs_len, List.length_map, List.take_length]
    exact ⟨_, rfl, q _ (s03.trans s4)⟩
/-- names: 0 word, 1 whole, 2 least, 3 start, 4 begun -/
theorem ok_ring (T : Txt K mg f0 f1 f2 f3 f4 f5 f6 f7 f8 f9 f10 f11 f12 f13 f14 f15 f16 f17 f18 f19 f20 f21 f22 f23 f24 f25 f26 d0 d1 d2 d3 d4 d5 d6 d7 d8 d9 d10 d11 d12 d13 d14 d15 d16 d17 d18 d19 d20 d21 d22 d23 d24 d25 d26) : FnOk P w K mg base CX0 4 f14 d14 ["word"] (sp_ring K) := by
  have G_shortest := ok_shortest (P := P) (w := w) (base := base) T
  refine T.F14.fn.ok sc_ring (fun vs H Q E h => len_ring h) (fun cdv A outer s H vs Q E hr h => ?_)
  refine ⟨_, (pss_cons (ps_set (i := 1) sc_ring.nd rfl (Or.inl rfl) (pe_call G_shortest (hr.mono (by decide)) rfl T.F13.mg T.F13.fn.kp T.F13.bd .nil pass0 (pa_cons (pv 0) pa_nil)))
      (pss_cons (ps_set (i := 2) sc_ring.nd rfl (Or.inl rfl) (pv 1))
      (pss_cons (ps_for PassesOwn.never rfl (pi_range2 rfl T.z_range (pa_cons pe_int (pa_cons (pe_callB call_lenS rfl T.z_len PySem.boot_len (pa_cons (pv 1) pa_nil)) pa_nil))) (pg_name (i := 3) sc_ring.nd rfl (Or.inl rfl)) (pss_cons (ps_set (i := 4) sc_ring.nd rfl (Or.inl rfl) (pe_op op_addS (pe_slice sl_S (pv 1) (po_some (pv 3)) po_none) (pe_slice sl_S (pv 1) po_none (po_some (pv 3)))))
      (pss_one (ps_if (pt_cmpR op_ltS (pv 4) (pv 2) (nomark _)) (pss_one (ps_set (i := 2) sc_ring.nd rfl (Or.inl rfl) (pv 4))) pss_nil))))
      (pss_one (ps_ret (pv 2)))))), ?_⟩
  obtain ⟨l, rfl, hl, hz, q⟩ := h
  have hs : (100000 : Nat) < sizeLine := by decide
  refine ⟨_, rfl, l, rfl, hl, hz, fun H1 s1 => ?_⟩
  have hc1 : (core (red l)).length ≤ 1000 := Nat.le_trans (core_len _) (Nat.le_trans (red_len l) hz)
  unfold ringM ringC at q
  generalize core (red l) = c at hc1 q ⊢
  have hcz : c.length ≤ sizeLine := by omega
  walk_at "rd"
  refine ⟨_, _, rfl, ⟨by decide, by decide, by omega, by omega⟩, ?_⟩
  refine for_range (fun i σ H' => H' = H1 ∧ ∃ sv bv, σ = [some (.str (S l)), some (.str (S c)), some (.str (S (leastOf c (rots c i)))), sv, bv]) ⟨rfl, none, none, rfl⟩ ?_ ?_
  · rintro i σ H2 hi ⟨rfl, sv, bv, rfl⟩
    have e1 : (1 : Int) + (i : Int) = ((i + 1 : Nat) : Int) := by omega
    rw [e1]
    have hlen : (cut c (some ((i + 1 : Nat) : Int)) none).length + (cut c none (some ((i + 1 : Nat) : Int))).length ≤ sizeLine := by rw [cut_to, cut_from, List.length_drop, List.length_take]; omega
    have hrot : cut c (some ((i + 1 : Nat) : Int)) none ++ cut c none (some ((i + 1 : Nat) : Int)) = rot c (i + 1) := by rw [cut_to, cut_from]; rfl
    walk_at "rd"
    rw [hrot]
    refine ite2 (fun z => ?_) (fun z => ?_)
    · have z' : rot c (i + 1) < leastOf c (rots c i) := of_decide_eq_true z
      have hle : leastOf c (rots c (i + 1)) = rot c (i + 1) := by rw [rots_snoc, leastOf_snoc]; unfold lesser; rw [if_pos z']
      refine ⟨_, rfl, ?_⟩
      rw [hle]
      exact ⟨rfl, _, _, rfl⟩
    · have z' : ¬ rot c (i + 1) < leastOf c (rots c i) := fun y => z (decide_eq_true y)
      have hle : leastOf c (rots c (i + 1)) = leastOf c (rots c i) := by rw [rots_snoc, leastOf_snoc]; unfold lesser; rw [if_neg z']
      rw [hle]
      exact ⟨rfl, _, _, rfl⟩
  · rintro σ H2 ⟨rfl, sv, bv, rfl⟩
    have e : ((c.length : Int) - 1).toNat = c.length - 1 := by omega
    rw [e]
    exact ⟨_, rfl, q _ s1⟩
/-- names: 0 yard, 1 seen, 2 told, 3 end, 4 word, 5 letter -/
theorem ok_rims (T : Txt K mg f0 f1 f2 f3 f4 f5 f6 f7 f8 f9 f10 f11 f12 f13 f14 f15 f16 f17 f18 f19 f20 f21 f22 f23 f24 f25 f26 d0 d1 d2 d3 d4 d5 d6 d7 d8 d9 d10 d11 d12 d13 d14 d15 d16 d17 d18 d19 d20 d21 d22 d23 d24 d25 d26) : FnOk P w K mg base CX0 5 f17 d17 ["yard"] (sp_rims K) := by
  have G_rim_behind := ok_rim_behind (P := P) (w := w) (base := base) T
  have G_contrary := ok_contrary (P := P) (w := w) (base := base) T
  have G_ring := ok_ring (P := P) (w := w) (base := base) T
  refine T.F17.fn.ok sc_rims (fun vs H Q E h => len_rims h) (fun cdv A outer s H vs Q E hr h => ?_)
  refine ⟨_, (pss_cons (ps_set (i := 1) sc_rims.nd rfl (Or.inl rfl) pe_dnewK)
      (pss_cons (ps_set (i := 2) sc_rims.nd rfl (Or.inl rfl) (pe_lst pa_nil))
      (pss_cons (ps_for PassesOwn.never rfl (pi_str (pv 0)) (pg_name (i := 3) sc_rims.nd rfl (Or.inl rfl)) (pss_one (ps_if (pt_cmp (pc_dnotin (hu_of hr) (pv 3) (pv 1)) (by with_unfolding_all rfl)) (pss_cons (ps_set (i := 4) sc_rims.nd rfl (Or.inl rfl) (pe_call G_rim_behind (hr.mono (by decide)) rfl T.F16.mg T.F16.fn.kp T.F16.bd .nil pass0 (pa_cons (pv 0) (pa_cons (pv 3) pa_nil))))
      (pss_cons (ps_for PassesOwn.never rfl (pi_str (pv 4)) (pg_name (i := 5) sc_rims.nd rfl (Or.inl rfl)) (pss_one (ps_dput (hu_of hr) (pv 1) (pe_call G_contrary (hr.mono (by decide)) rfl T.F0.mg T.F0.fn.kp T.F0.bd .nil pass0 (pa_cons (pv 5) pa_nil)) pe_bl rfl)))
      (pss_one (ps_expr (pe_bmK K rfl PySem.F.plainAttrs_list PySem.F.slot_list_append PySem.F.type_list_append mt_append (pv 2) (pa_cons (pe_call G_ring (hr.mono (by decide)) rfl T.F14.mg T.F14.fn.kp T.F14.bd .nil pass0 (pa_cons (pv 4) pa_nil)) pa_nil)))))) pss_nil)))
      (pss_one (ps_ret (pe_callB (call_sortedK K rfl) rfl T.z_sorted boot_sorted (pa_cons (pv 2) pa_nil))))))), ?_⟩
  obtain ⟨y, rfl, hy, h2, h8, q⟩ := h
  have hs : (100000 : Nat) < sizeLine := by decide
  walk_at "wk"
  intro d nd
  walk_at "wk"
  intro p np
  have nd0 : H d = none := nd
  have hdp : d ≠ p := fun z => by rw [← z, upd_same] at np; cases np
  have np0 : H p = none := Same.free (Same.upd nd) np
  refine ⟨_, rfl, y, rfl, ?_⟩
  refine for_fix (xs := sgs y) (fun i σ H' => ∃ (ws : List (List Nat)) (kvs : List (Key × V)) (ev wv lv : Option V), σ = [some (.str (S y)), some (.ref d), some (.ref p), ev, wv, lv] ∧ H' d = some (.dK kvs) ∧ H' p = some (.lst (txs (ws.map ringM))) ∧ RimsW y i ws ∧ kvs.length ≤ 8 * i ∧ (∀ e ∈ y, ((valV kvs (tk e)).isSome = true ↔ ∃ w ∈ ws, ctr e ∈ w)) ∧ Same H H')
    ⟨[], [], none, none, none, rfl, by rw [upd_ne hdp, upd_same], upd_same, RimsW.start y, Nat.le_refl _, fun e _ => ⟨fun z => absurd z (by simp [valV]), fun ⟨_, z, _⟩ => absurd z List.not_mem_nil⟩, (Same.upd nd).trans (Same.upd np)⟩ ?_ ?_
  · rintro i x σ H1 hx ⟨ws, kvs, ev, wv, lv, rfl, hd, hp, rw_, hkl, hkey, s1⟩
    obtain ⟨e, he, rfl⟩ := sgs_get hx
    have hi : i < y.length := (List.getElem?_eq_some_iff.mp he).1
    have hey := List.mem_of_getElem? he
    refine ⟨_, rfl, _, rfl, d, _, rfl, DGet.k (k := tk e) hd, ?_⟩
    walk_at "wk"
    refine ite2 (fun z => ?_) (fun z => ?_)
    · have hno : ¬ ∃ w ∈ ws, ctr e ∈ w := fun q => by
        rw [(hkey e hey).mpr q] at z; cases z
      refine ⟨_, rfl, _, rfl, y, e, rfl, hy, hey, by omega, fun w ho hwy hce => ?_⟩
      have hwz : w.length ≤ 8 := Nat.le_trans (ho.nd.length_le_of_subset fun c hc => hwy c hc) h8
      refine ⟨_, rfl, w, rfl, ?_⟩
      refine for_fix (xs := sgs w) (fun j σ H' => ∃ (kvs2 : List (Key × V)) (lv : Option V), σ = [some (.str (S y)), some (.ref d), some (.ref p), some (.str (S [e])), some (.str (S w)), lv] ∧ H' d = some (.dK kvs2) ∧ H' p = some (.lst (txs (ws.map ringM))) ∧ kvs2.length ≤ 8 * i + j ∧ (∀ f ∈ y, ((valV kvs2 (tk f)).isSome = true ↔ (∃ w ∈ ws, ctr f ∈ w) ∨ ∃ c ∈ w.take j, f = ctr c)) ∧ Same H H')
        ⟨kvs, lv, rfl, hd, hp, by omega, fun f hf => by rw [hkey f hf]; simp, s1⟩ ?_ ?_
      · rintro j x σ H2 hx2 ⟨kvs2, lv2, rfl, hd2, hp2, hkl2, hkey2, s2⟩
        obtain ⟨c, hc, rfl⟩ := sgs_get hx2
        have hj : j < w.length := (List.getElem?_eq_some_iff.mp hc).1
        have hcy := hwy c (List.mem_of_getElem? hc)
        refine ⟨_, rfl, _, rfl, c, rfl, (hy.lt c hcy).lt, d, _, rfl, DPut.k (k := tk (ctr c)) hd2 (by omega), ?_⟩
        refine ⟨_, _, rfl, upd_same, by rw [upd_ne (Ne.symm hdp)]; exact hp2, Nat.le_trans (length_putK _ _ _) (by omega), fun f hf => ?_, fun a o ea => by rw [upd_ne (ne_of_none ea nd0)]; exact s2 a o ea⟩
        rw [valV_put, ← take_snoc hc]
        by_cases q : f = ctr c
        · rw [if_pos (by rw [q])]
          simp [q]
        · rw [if_neg (fun q2 => q (tk_inj q2)), hkey2 f hf]
          simp [q]
      · rintro σ H2 ⟨kvs2, lv2, rfl, hd2, hp2, hkl2, hkey2, s2⟩
        rw [sgs_len] at hkl2
        have hwl : ∀ c ∈ w, Lt c := fun c hc => hy.lt c (hwy c hc)
        have hfew := rw_.few
        refine ⟨_, rfl, .inl ⟨rfl, _, SqL.of hp2⟩, _, rfl, w, rfl, hwl, by omega, fun H3 s3 => ?_⟩
        refine ⟨p, _, _, rfl, rfl, s3 _ _ hp2, by rw [txs_len, List.length_map]; omega, ?_⟩
        rw [txs_snoc]
        refine ⟨ws ++ [w], kvs2, _, _, _, rfl, by rw [upd_ne hdp]; exact s3 _ _ hd2, by rw [upd_same, List.map_append]; rfl, rw_.turn hy he hno ho hwy hce, by omega, fun f hf => ?_, fun a o ea => by rw [upd_ne (ne_of_none ea np0)]; exact s3 _ _ (s2 a o ea)⟩
        rw [hkey2 f hf, sgs_take]
        constructor
        · rintro (⟨u, hu, z2⟩ | ⟨c, hc, z2⟩)
          · exact ⟨u, List.mem_append_left _ hu, z2⟩
          · exact ⟨w, by simp, by rw [z2, ctr_ctr (hwl c hc)]; exact hc⟩
        · rintro ⟨u, hu, z2⟩
          rcases List.mem_append.mp hu with g | g
          · exact .inl ⟨u, g, z2⟩
          · rw [List.mem_singleton.mp g] at z2
            exact .inr ⟨ctr f, z2, (ctr_ctr (hy.lt f hf)).symm⟩
    · have hyes : ∃ w ∈ ws, ctr e ∈ w := (hkey e hey).mp (by
        cases hq : (valV kvs (tk e)).isSome
        · exact absurd (by rw [hq]; rfl) z
        · rfl)
      exact ⟨ws, kvs, _, _, _, rfl, hd, hp, rw_.skip he hyes, by omega, hkey, s1⟩
  · rintro σ H1 ⟨ws, kvs, ev, wv, lv, rfl, hd, hp, rw_, hkl, hkey, s1⟩
    rw [sgs_len] at rw_
    have hfew := rw_.few
    refine ⟨_, rfl, p, ws.map ringM, rfl, SqL.of hp, by rw [List.length_map]; omega, fun p2 L n2 hpm hpw => ?_⟩
    exact q p2 L _ ⟨ws, rw_.done hy, hpm, hpw⟩ (Same.free s1 n2) upd_same (s1.trans (Same.upd n2))
/-- names: 0 yard -/
theorem ok_handles (T : Txt K mg f0 f1 f2 f3 f4 f5 f6 f7 f8 f9 f10 f11 f12 f13 f14 f15 f16 f17 f18 f19 f20 f21 f22 f23 f24 f25 f26 d0 d1 d2 d3 d4 d5 d6 d7 d8 d9 d10 d11 d12 d13 d14 d15 d16 d17 d18 d19 d20 d21 d22 d23 d24 d25 d26) : FnOk P w K mg base CX0 6 f18 d18 ["yard"] (sp_handles K) := by
  have G_bands := ok_bands (P := P) (w := w) (base := base) T
  have G_rims := ok_rims (P := P) (w := w) (base := base) T
  refine T.F18.fn.ok sc_handles (fun vs H Q E h => len_handles h) (fun cdv A outer s H vs Q E hr h => ?_)
  refine ⟨_, (pss_one (ps_ret (pe_op op_fdiv (pe_op op_sub (pe_op op_add (pe_callB call_lenS rfl T.z_len PySem.boot_len (pa_cons (pe_call G_bands (hr.mono (by decide)) rfl T.F1.mg T.F1.fn.kp T.F1.bd .nil pass0 (pa_cons (pv 0) pa_nil)) pa_nil)) pe_int) (pe_callB (call_len_seqK K rfl) rfl T.z_len PySem.boot_len (pa_cons (pe_call G_rims (hr.mono (by decide)) rfl T.F17.mg T.F17.fn.kp T.F17.bd .nil pass0 (pa_cons (pv 0) pa_nil)) pa_nil))) pe_int))), ?_⟩
  obtain ⟨y, rfl, hy, h2, h8, q⟩ := h
  have hs : (1000 : Nat) < sizeLine := by decide
  have hy8 : ∀ c ∈ y, c < 128 := lt128 hy.lt
  refine ⟨_, rfl, y, rfl, hy8, by omega, fun l' H1 hl' _ s1 => ?_⟩
  have hlen := hl'.length_eq
  have hh := half_low hy
  walk_at "wk"
  intro p L H2 hr hp hpL s2
  refine ⟨p, _, rfl, .inl (SqL.of hpL), _, _, rfl, rfl, _, _, rfl, rfl, ⟨by decide, by decide⟩, ?_⟩
  have e : (l'.length : Int) = (y.length : Int) / 2 := by omega
  rw [txs_len, e]
  exact q L _ hr (s1.trans s2)
/-- names: 0 _law_letter, 1 _law_small, 2 _law_capital -/
theorem ok_Lother (T : Txt K mg f0 f1 f2 f3 f4 f5 f6 f7 f8 f9 f10 f11 f12 f13 f14 f15 f16 f17 f18 f19 f20 f21 f22 f23 f24 f25 f26 d0 d1 d2 d3 d4 d5 d6 d7 d8 d9 d10 d11 d12 d13 d14 d15 d16 d17 d18 d19 d20 d21 d22 d23 d24 d25 d26) : FnOk P w K mg base CX0 1 f21 d21 ["_law_letter"] (sp_Lother K) := by
  refine T.F21.fn.ok sc_Lother (fun vs H Q E h => len_Lother h) (fun cdv A outer s H vs Q E hr h => ?_)
  refine ⟨_, (pss_cons (ps_set (i := 1) sc_Lother.nd rfl (Or.inl rfl) (pe_S [97, 98, 99, 100, 101, 102, 103, 104, 105, 106, 107, 108, 109, 110, 111, 112, 113, 114, 115, 116, 117, 118, 119, 120, 121, 122] (by decide +kernel)))
      (pss_cons (ps_set (i := 2) sc_Lother.nd rfl (Or.inl rfl) (pe_S [65, 66, 67, 68, 69, 70, 71, 72, 73, 74, 75, 76, 77, 78, 79, 80, 81, 82, 83, 84, 85, 86, 87, 88, 89, 90] (by decide +kernel)))
      (pss_cons (ps_if (pt_cmpR op_inS (pv 0) (pv 1) (by with_unfolding_all rfl)) (pss_one (ps_ret (pe_ix ix_S (pv 2) (pe_bmK K rfl PySem.F.plainAttrs_str PySem.F.slot_str_index PySem.F.type_str_index mt_indexS (pv 1) (pa_cons (pv 0) pa_nil)) (fun _ _ => rfl)))) pss_nil)
      (pss_one (ps_ret (pe_ix ix_S (pv 1) (pe_bmK K rfl PySem.F.plainAttrs_str PySem.F.slot_str_index PySem.F.type_str_index mt_indexS (pv 2) (pa_cons (pv 0) pa_nil)) (fun _ _ => rfl))))))), ?_⟩
  obtain ⟨c, rfl, hc, q⟩ := h
  refine ⟨_, rfl, _, rfl, c, smalls, rfl, rfl, _, rfl, ite2 (fun e => ?_) (fun e => ?_)⟩
  · have hm : c ∈ smalls := of_decide_eq_true e
    exact ⟨_, rfl, _, rfl, rfl, _, rfl, smalls, c, rfl, rfl, hm, caps, _, ctr c, rfl, rfl, by decide, other_small c hm, q⟩
  · have hm : c ∈ caps := hc.resolve_left fun z => e (decide_eq_true z)
    exact ⟨_, rfl, _, rfl, rfl, _, rfl, caps, c, rfl, rfl, hm, smalls, _, ctr c, rfl, rfl, by decide, other_cap c hm, q⟩
/-- names: 0 _law_box_here, 1 _law_many, 2 _law_digit, 3 _law_one -/
theorem ok_Ltake (T : Txt K mg f0 f1 f2 f3 f4 f5 f6 f7 f8 f9 f10 f11 f12 f13 f14 f15 f16 f17 f18 f19 f20 f21 f22 f23 f24 f25 f26 d0 d1 d2 d3 d4 d5 d6 d7 d8 d9 d10 d11 d12 d13 d14 d15 d16 d17 d18 d19 d20 d21 d22 d23 d24 d25 d26) : FnOk P w K mg base CX0 1 f20 d20 ["_law_box_here", "_law_many"] (sp_Ltake K) := by
  refine T.F20.fn.ok sc_Ltake (fun vs H Q E h => len_Ltake h) (fun cdv A outer s H vs Q E hr h => ?_)
  refine ⟨_, (pss_cons (ps_if (pt_cmpR op_gt (pe_ix (ix_listK K rfl) (pv 0) pe_int (fun _ _ => rfl)) pe_int (nomark _)) (pss_cons (ps_set (i := 2) sc_Ltake.nd rfl (Or.inl rfl) (pe_op op_mod (pe_ix (ix_listK K rfl) (pv 0) pe_int (fun _ _ => rfl)) (pv 1)))
      (pss_cons (ps_asg (pe_op op_fdiv (pe_ix (ix_listK K rfl) (pv 0) pe_int (fun _ _ => rfl)) (pv 1)) (pg_sub (pv 0) pe_int set_list))
      (pss_one (ps_ret (pv 2))))) pss_nil)
      (pss_cons (ps_set (i := 3) sc_Ltake.nd rfl (Or.inl rfl) (pe_op op_mod (pe_op op_mul (pe_ix (ix_listK K rfl) (pv 0) pe_int (fun _ _ => rfl)) pe_int) pe_int))
      (pss_cons (ps_asg (pe_op op_add (pe_op op_mod (pe_op op_add (pe_op op_mul (pv 3) pe_int) pe_int) pe_int) pe_int) (pg_sub (pv 0) pe_int set_list))
      (pss_one (ps_ret (pe_op op_mod (pe_op op_fdiv (pe_op op_add (pe_op op_mul (pv 3) pe_int) (pe_ix (ix_listK K rfl) (pv 0) pe_int (fun _ _ => rfl))) pe_int) (pv 1))))))), ?_⟩
  obtain ⟨b, m, rfl, ⟨x, y, hb⟩, h1, h2, q⟩ := h
  have fin : ∀ (r x' y' : Int), 0 ≤ r → r < m → Q (.int r) (upd H b (.lst [.int x', .int y'])) := fun r x' y' h3 h4 => by
    have e : r = ((r.toNat : Nat) : Int) := by omega
    rw [e]
    exact q r.toNat _ (by omega) ⟨x', y', upd_same⟩ (SameB.upd b H _)
  refine ⟨_, rfl, b, _, 0, _, rfl, rfl, SqL.of hb, rfl, _, _, rfl, rfl, _, rfl, ite2 (fun e => ?_) (fun e => ?_)⟩
  · refine ⟨_, rfl, b, _, 0, _, rfl, rfl, SqL.of hb, rfl, _, rfl, _, _, rfl, rfl, (by omega : 0 < m), ?_⟩
    refine ⟨_, rfl, b, _, 0, _, rfl, rfl, SqL.of hb, rfl, _, rfl, _, _, rfl, rfl, ⟨by omega, by omega⟩, _, rfl, b, _, 0, 0, rfl, rfl, hb, rfl, _, rfl, ?_⟩
    exact fin (x % m) (x / m) y (Int.emod_nonneg _ (by omega)) (Int.emod_lt_of_pos _ (by omega))
  · refine ⟨_, rfl, b, _, 1, _, rfl, rfl, SqL.of hb, rfl, _, _, rfl, rfl, .inr ⟨by decide, by decide⟩, _, _, rfl, rfl, (by decide : (0 : Int) < 2147483647), ?_⟩
    refine ⟨_, rfl, _, _, rfl, rfl, .inr ⟨by decide, by decide⟩, _, _, rfl, rfl, _, _, rfl, rfl, (by decide : (0 : Int) < 2147483629), _, _, rfl, rfl, _, rfl, b, _, 1, 1, rfl, rfl, hb, rfl, ?_⟩
    refine ⟨_, rfl, _, _, rfl, rfl, .inr ⟨by decide, by decide⟩, _, rfl, b, _, 1, _, rfl, rfl, SqL.of upd_same, rfl, _, _, rfl, rfl, _, _, rfl, rfl, ⟨by decide, by decide⟩, _, rfl, _, _, rfl, rfl, (by omega : 0 < m), ?_⟩
    exact fin _ _ _ (Int.emod_nonneg _ (by omega)) (Int.emod_lt_of_pos _ (by omega))
/-- names: 0 _law_box_here, 1 _law_few, 2 _law_top, 3 _law_left_here, 4 _law_ends, 5 _law_k, 6 _law_letter, 7 _law_found -/
theorem ok_Lyard (T : Txt K mg f0 f1 f2 f3 f4 f5 f6 f7 f8 f9 f10 f11 f12 f13 f14 f15 f16 f17 f18 f19 f20 f21 f22 f23 f24 f25 f26 d0 d1 d2 d3 d4 d5 d6 d7 d8 d9 d10 d11 d12 d13 d14 d15 d16 d17 d18 d19 d20 d21 d22 d23 d24 d25 d26) : FnOk P w K mg base CX0 2 f22 d22 ["_law_box_here", "_law_few", "_law_top"] (sp_Lyard K) := by
  have G_Ltake := ok_Ltake (P := P) (w := w) (base := base) T
  have G_Lother := ok_Lother (P := P) (w := w) (base := base) T
  refine T.F22.fn.ok sc_Lyard (fun vs H Q E h => len_Lyard h) (fun cdv A outer s H vs Q E hr h => ?_)
  refine ⟨_, (pss_cons (ps_set (i := 3) sc_Lyard.nd rfl (Or.inl rfl) (pe_callTy (call_listS rfl) rfl T.z_list boot_list (pa_cons (pe_S [97, 98, 99, 100, 101, 102, 103, 104, 105, 106, 107, 108, 109, 110, 111, 112, 113, 114, 115, 116, 117, 118, 119, 120, 121, 122] (by decide +kernel)) pa_nil)))
      (pss_cons (ps_set (i := 4) sc_Lyard.nd rfl (Or.inl rfl) (pe_lst pa_nil))
      (pss_cons (ps_for PassesOwn.never rfl (pi_range1 rfl T.z_range (pa_cons (pe_op op_add (pv 1) (pe_call G_Ltake (hr.mono (by decide)) rfl T.F20.mg T.F20.fn.kp T.F20.bd .nil pass0 (pa_cons (pv 0) (pa_cons (pe_op op_add (pe_op op_sub (pv 2) (pv 1)) pe_int) pa_nil)))) pa_nil)) (pg_name (i := 5) sc_Lyard.nd rfl (Or.inl rfl)) (pss_cons (ps_set (i := 6) sc_Lyard.nd rfl (Or.inl rfl) (pe_bmK K rfl PySem.F.plainAttrs_list PySem.F.slot_list_pop PySem.F.type_list_pop mt_popAt (pv 3) (pa_cons (pe_call G_Ltake (hr.mono (by decide)) rfl T.F20.mg T.F20.fn.kp T.F20.bd .nil pass0 (pa_cons (pv 0) (pa_cons (pe_callB (call_len_seqK K rfl) rfl T.z_len PySem.boot_len (pa_cons (pv 3) pa_nil)) pa_nil))) pa_nil)))
      (pss_one (ps_set (i := 4) sc_Lyard.nd rfl (Or.inl rfl) (pe_op op_cat (pv 4) (pe_lst (pa_cons (pv 6) (pa_cons (pe_call G_Lother (hr.mono (by decide)) rfl T.F21.mg T.F21.fn.kp T.F21.bd .nil pass0 (pa_cons (pv 6) pa_nil)) pa_nil))))))))
      (pss_cons (ps_set (i := 7) sc_Lyard.nd rfl (Or.inl rfl) (pe_S [] (by decide +kernel)))
      (pss_cons (ps_whileN PassesOwn.never (pt_cmpR op_gt (pe_callB (call_len_seqK K rfl) rfl T.z_len PySem.boot_len (pa_cons (pv 4) pa_nil)) pe_int (nomark _)) (pss_one (ps_set (i := 7) sc_Lyard.nd rfl (Or.inl rfl) (pe_op op_addS (pv 7) (pe_bmK K rfl PySem.F.plainAttrs_list PySem.F.slot_list_pop PySem.F.type_list_pop mt_popAt (pv 4) (pa_cons (pe_call G_Ltake (hr.mono (by decide)) rfl T.F20.mg T.F20.fn.kp T.F20.bd .nil pass0 (pa_cons (pv 0) (pa_cons (pe_callB (call_len_seqK K rfl) rfl T.z_len PySem.boot_len (pa_cons (pv 4) pa_nil)) pa_nil))) pa_nil))))))
      (pss_one (ps_ret (pv 7)))))))), ?_⟩
  obtain ⟨b, few, top, rfl, hb, h1, h2, h3, q⟩ := h
  have hs : (100000 : Nat) < sizeLine := by decide
  walk_at "rd"
  intro p1 n1
  walk_at "rd"
  intro p2 n2
  have s1 : Same H (upd (upd H p1 (.lst (sgs smalls))) p2 (.lst [])) := (Same.upd n1).trans (Same.upd n2)
  have bp1 : p1 ≠ b := hb.ne n1
  have np2 : H p2 = none := Same.free (Same.upd n1) n2
  have bp2 : p2 ≠ b := hb.ne np2
  have p12 : p1 ≠ p2 := fun z => by rw [← z, upd_same] at n2; cases n2
  walk_at "rd"
  refine ⟨b, _, rfl, hb.same s1, by omega, by omega, fun n H1 hn hb1 s2 => ?_⟩
  walk_at "rd"
  refine for_range (fun i σ H' => ∃ (pe : Addr) (L E : List Nat) (kv lv : Option V), σ = [some (.ref b), some (.int few), some (.int top), some (.ref p1), some (.ref pe), kv, lv, none] ∧ YdW i L E ∧ H' p1 = some (.lst (sgs L)) ∧ H' pe = some (.lst (sgs E)) ∧ p1 ≠ pe ∧ H pe = none ∧ BoxAt H' b ∧ SameB b H H')
    ⟨p2, smalls, [], none, none, rfl, YdW.start, s2 _ _ (by rw [upd_ne p12, upd_same]; rfl) bp1, s2 _ _ upd_same bp2, p12, np2, hb1, (SameB.of s1).trans s2⟩ ?_ ?_
  · rintro i σ H2 hi ⟨pe, L, E, kv, lv, rfl, yw, hp1, hpe, n1e, npe, hb2, s3⟩
    have hi2 : i < 26 := by simp at hi; omega
    have hll := yw.ll
    have hel := yw.el
    refine ⟨_, rfl, .inl ⟨rfl, _, SqL.of hp1⟩, ?_⟩
    walk_at "rd"
    refine ⟨p1, _, rfl, .inl (SqL.of hp1), b, _, rfl, hb2, by rw [sgs_len]; omega, by rw [sgs_len]; omega, fun r H3 hr3 hb3 s4 => ?_⟩
    rw [sgs_len] at hr3
    have hr4 : r < L.length := by omega
    have hp1' := s4 _ _ hp1 bp1
    have hpe' := s4 _ _ hpe (hb.ne npe)
    refine ⟨p1, _, _, r, _, rfl, rfl, hp1', by omega, by omega, by rw [sgs_len, seqIndex_of (by omega) (by omega), Int.toNat_natCast], sgs_at hr4, ?_⟩
    rw [sgs_erase]
    have hlt : Lt L[r] := .inl (yw.sm _ (List.getElem_mem hr4))
    have hpe2 : (upd H3 p1 (.lst (sgs (L.eraseIdx r)))) pe = some (.lst (sgs E)) := by rw [upd_ne (Ne.symm n1e)]; exact hpe'
    walk_at "rd"
    intro p3 n3
    have e3 : pe ≠ p3 := ne_of_none hpe2 n3
    refine ⟨pe, p3, _, _, rfl, rfl, by rw [upd_ne e3]; exact hpe2, upd_same, by rw [sgs_len]; show E.length + 2 ≤ _; omega, fun p4 n4 => ?_⟩
    have n3' : H p3 = none := ((s3.trans s4).updN n1).none n3 (hb3.updN bp1 |>.ne n3)
    have bx3 := (hb3.updN (o := .lst (sgs (L.eraseIdx r))) bp1).updN (o := .lst [V.str (S [L[r]]), V.str (S [ctr L[r]])]) (hb.ne n3')
    have sx3 := ((s3.trans s4).updN (o := .lst (sgs (L.eraseIdx r))) n1).updN (o := .lst [V.str (S [L[r]]), V.str (S [ctr L[r]])]) n3'
    have n4' : H p4 = none := sx3.none n4 (bx3.ne n4)
    have h14 : p1 ≠ p4 := fun z => by rw [← z] at n4; by_cases z3 : p1 = p3 <;> simp [upd, z3] at n4
    have h13 : p1 ≠ p3 := fun z => by rw [← z, upd_same] at n3; cases n3
    refine ⟨p4, L.eraseIdx r, E ++ [L[r], ctr L[r]], _, _, rfl, yw.turn hi2 hr4, by rw [upd_ne h14, upd_ne h13, upd_same], ?_, h14, n4', bx3.updN (hb.ne n4'), sx3.updN n4'⟩
    rw [upd_same, ← sgs_app]
    rfl
  · rintro σ H2 ⟨pe, L, E, kv, lv, rfl, yw, hp1, hpe, n1e, npe, hb2, s3⟩
    have hel := yw.el
    have hbe := hb.ne npe
    walk_at "rd"
    refine ⟨fun m σ H' => ∃ F E' : List Nat, σ = [some (.ref b), some (.int few), some (.int top), some (.ref p1), some (.ref pe), kv, lv, some (.str (S F))] ∧ m = E'.length ∧ (F ++ E').Perm E ∧ H' pe = some (.lst (sgs E')) ∧ BoxAt H' b ∧ SameB b H H', ⟨_, [], E, rfl, rfl, List.Perm.refl _, hpe, hb2, s3⟩, ?_⟩
    rintro m σ H3 ⟨F, E', rfl, rfl, hpm, hpe3, hb3, s4⟩
    have hlen := hpm.length_eq
    rw [List.length_append] at hlen
    have hn2 : (few : Int) + n ≤ 9 := by omega
    have hE26 : E.length ≤ 100 := by rw [hel]; omega
    walk_at "rd"
    refine ⟨pe, _, rfl, .inl (SqL.of hpe3), _, _, rfl, rfl, _, rfl, ite2 (fun e => ?_) (fun e => ?_)⟩
    · have e' : (0 : Int) < ((sgs E').length : Nat) := of_decide_eq_true e
      rw [sgs_len] at e'
      refine ⟨_, rfl, _, rfl, .inl ⟨rfl, _, SqL.of hpe3⟩, ?_⟩
      walk_at "rd"
      refine ⟨pe, _, rfl, .inl (SqL.of hpe3), b, _, rfl, hb3, by rw [sgs_len]; omega, by rw [sgs_len]; omega, fun r H4 hr4 hb4 s5 => ?_⟩
      rw [sgs_len] at hr4
      have hr5 : r < E'.length := by omega
      refine ⟨pe, _, _, r, _, rfl, rfl, s5 _ _ hpe3 hbe, by omega, by omega, by rw [sgs_len, seqIndex_of (by omega) (by omega), Int.toNat_natCast], sgs_at hr5, ?_⟩
      rw [sgs_erase]
      have hp := erase_perm (List.getElem?_eq_getElem hr5)
      have hpl := hp.length_eq
      rw [List.length_cons] at hpl
      refine ⟨F, _, rfl, rfl, by show F.length + 1 ≤ _; omega, (E'.eraseIdx r).length, by omega, F ++ [E'[r]], E'.eraseIdx r, rfl, rfl, ?_, upd_same, hb4.updN hbe, (s4.trans s5).updN npe⟩
      rw [List.append_assoc]
      exact (List.Perm.append_left F hp).trans hpm
    · have e' : E' = [] := by
        cases E' with
        | nil => rfl
        | cons c r => exact absurd (decide_eq_true (by rw [sgs_len]; show (0 : Int) < ((r.length + 1 : Nat) : Int); omega)) e
      subst e'
      rw [List.append_nil] at hpm
      have hl2 := hpm.length_eq
      refine ⟨_, rfl, q F H3 (yw.yd.perm hpm.symm) ?_ ?_ hb3 s4⟩
      · rw [hl2, hel]; omega
      · rw [hl2, hel]; omega
/-- names: 0 _law_script, 1 _law_k, 2 _law_cell, 3 _law_seed -/
theorem ok_Lbox (T : Txt K mg f0 f1 f2 f3 f4 f5 f6 f7 f8 f9 f10 f11 f12 f13 f14 f15 f16 f17 f18 f19 f20 f21 f22 f23 f24 f25 f26 d0 d1 d2 d3 d4 d5 d6 d7 d8 d9 d10 d11 d12 d13 d14 d15 d16 d17 d18 d19 d20 d21 d22 d23 d24 d25 d26) : FnOk P w K mg base CX0 1 f19 d19 ["_law_script", "_law_k"] (sp_Lbox K) := by
  refine T.F19.fn.ok sc_Lbox (fun vs H Q E h => len_Lbox h) (fun cdv A outer s H vs Q E hr h => ?_)
  refine ⟨_, (pss_cons (ps_set (i := 2) sc_Lbox.nd rfl (Or.inl rfl) (pe_op op_add (pe_op op_mul pe_int (pv 1)) pe_int))
      (pss_cons (ps_if (pt_cmpR op_lt (pv 1) (pe_callB (call_len_seqK K rfl) rfl T.z_len PySem.boot_len (pa_cons (pv 0) pa_nil)) (nomark _)) (pss_one (ps_set (i := 2) sc_Lbox.nd rfl (Or.inl rfl) (pe_ix (ix_listK K rfl) (pv 0) (pv 1) (fun _ _ => rfl)))) (pss_one (ps_if (pt_cmpR op_gt (pe_callB (call_len_seqK K rfl) rfl T.z_len PySem.boot_len (pa_cons (pv 0) pa_nil)) pe_int (nomark _)) (pss_one (ps_set (i := 2) sc_Lbox.nd rfl (Or.inl rfl) (pe_op op_add (pv 2) (pe_op op_mul (pe_op op_mod (pe_ix (ix_listK K rfl) (pv 0) (pe_op op_mod (pv 1) (pe_callB (call_len_seqK K rfl) rfl T.z_len PySem.boot_len (pa_cons (pv 0) pa_nil))) (fun _ _ => rfl)) pe_int) pe_int)))) pss_nil)))
      (pss_cons (ps_set (i := 3) sc_Lbox.nd rfl (Or.inl rfl) (pe_op op_mod (pe_op op_pow (pe_op op_add (pe_op op_add (pe_op op_mod (pv 2) pe_int) (pe_op op_mul pe_int (pv 1))) pe_int) pe_int) pe_int))
      (pss_one (ps_ret (pe_lst (pa_cons (pe_ix (ix_listK K rfl) (pe_lst (pa_cons pe_int (pa_cons (pv 2) pa_nil))) (pe_callTy call_int1 rfl T.z_int boot_int (pa_cons (pe_cmpR op_ge (pv 2) (pe_op op_pow pe_int pe_int) (nomark _)) pa_nil)) (fun _ _ => rfl)) (pa_cons (pe_op op_add (pe_op op_mod (pv 3) pe_int) pe_int) pa_nil)))))))), ?_⟩
  obtain ⟨a, ns, k, rfl, hS, hk, q⟩ := h
  have hp : (0 : Int) < 2147483629 := by decide
  walk_at "rd"
  refine ⟨a, _, rfl, .inl hS, ?_⟩
  walk_at "rd"
  refine ite2 (fun e => ?_) (fun e => ?_)
  · have e' : (k : Int) < ((ns.map V.int).length : Nat) := of_decide_eq_true e
    rw [List.length_map] at e'
    obtain ⟨z, hz⟩ := ints_at (ns := ns) (i := k) (by omega)
    walk_at "rd"
    refine ⟨a, _, k, _, rfl, rfl, hS, atI_nat hz, ?_⟩
    walk_at "rd"
    refine fun p1 n1 => ?_
    walk_at "rd"
    refine .inr ⟨_, rfl, ?_⟩
    obtain ⟨y, hy⟩ := box_at _ z
    refine ⟨p1, _, _, _, rfl, rfl, SqL.of upd_same, hy, ?_⟩
    walk_at "rd"
    exact fun p2 n2 => q p2 _ (Same.free (Same.upd n1) n2) ⟨_, _, upd_same⟩ ((Same.upd n1).trans (Same.upd n2))
  · walk_at "rd"
    refine ⟨a, _, rfl, .inl hS, ?_⟩
    walk_at "rd"
    refine ite2 (fun e2 => ?_) (fun e2 => ?_)
    · have e' : (0 : Int) < ((ns.map V.int).length : Nat) := of_decide_eq_true e2
      have hl : (0 : Int) < (ns.length : Int) := by rw [List.length_map] at e'; exact e'
      have m1 : 0 ≤ (k : Int) % (ns.length : Int) := Int.emod_nonneg _ (by omega)
      have m2 : (k : Int) % (ns.length : Int) < (ns.length : Int) := Int.emod_lt_of_pos _ hl
      obtain ⟨z, hz⟩ := ints_at (ns := ns) (i := ((k : Int) % (ns.length : Int)).toNat) (by omega)
      have hz' : atI (ns.map V.int) ((k : Int) % ((ns.map V.int).length : Nat)) = some (V.int z) := by
        have := atI_nat hz
        rw [Int.toNat_of_nonneg m1] at this
        rw [List.length_map]
        exact this
      walk_at "rd"
      refine ⟨a, _, rfl, .inl hS, ?_⟩
      walk_at "rd"
      refine ⟨a, _, _, _, rfl, rfl, hS, hz', ?_⟩
      walk_at "rd"
      refine fun p1 n1 => ?_
      walk_at "rd"
      refine .inr ⟨_, rfl, ?_⟩
      obtain ⟨y, hy⟩ := box_at _ _
      refine ⟨p1, _, _, _, rfl, rfl, SqL.of upd_same, hy, ?_⟩
      walk_at "rd"
      exact fun p2 n2 => q p2 _ (Same.free (Same.upd n1) n2) ⟨_, _, upd_same⟩ ((Same.upd n1).trans (Same.upd n2))
    · walk_at "rd"
      refine fun p1 n1 => ?_
      walk_at "rd"
      refine .inr ⟨_, rfl, ?_⟩
      obtain ⟨y, hy⟩ := box_at _ _
      refine ⟨p1, _, _, _, rfl, rfl, SqL.of upd_same, hy, ?_⟩
      walk_at "rd"
      exact fun p2 n2 => q p2 _ (Same.free (Same.upd n1) n2) ⟨_, _, upd_same⟩ ((Same.upd n1).trans (Same.upd n2))
/-- names: 0 rows, 1 column, 2 number, 3 row -/
theorem ok_row_with (T : Txt K mg f0 f1 f2 f3 f4 f5 f6 f7 f8 f9 f10 f11 f12 f13 f14 f15 f16 f17 f18 f19 f20 f21 f22 f23 f24 f25 f26 d0 d1 d2 d3 d4 d5 d6 d7 d8 d9 d10 d11 d12 d13 d14 d15 d16 d17 d18 d19 d20 d21 d22 d23 d24 d25 d26) : FnOk P w K mg base CX0 1 f9 d9 ["rows", "column"] (sp_row_with K) := by
  refine T.F9.fn.ok sc_row_with (fun vs H Q E h => len_row_with h) (fun cdv A outer s H vs Q E hr h => ?_)
  refine ⟨_, (pss_cons (ps_for PassesOwn.never rfl (pi_enumL K rfl rfl T.z_enumerate (pa_cons (pv 0) pa_nil)) (pg_tupK (n := 2) K rfl rfl (pgs_cons (pg_name (i := 2) sc_row_with.nd rfl (Or.inl rfl)) (pgs_cons (pg_name (i := 3) sc_row_with.nd rfl (Or.inl rfl)) pgs_nil))) (pss_one (ps_if (pt_cmpR op_neI (pe_ix (ix_listK K rfl) (pv 3) (pv 1) (fun _ _ => rfl)) pe_int (nomark _)) (pss_one (ps_ret (pv 2))) pss_nil)))
      (pss_one (ps_ret pe_non))), ?_⟩
  obtain ⟨p, n, c, rs, M, rfl, hp, hR, hc, hm, qs, qn⟩ := h
  have hs : (100000 : Nat) < sizeLine := by decide
  refine ⟨_, rfl, p, rfl, ⟨_, SqL.of hp⟩, ?_⟩
  refine for_enumL (K := K) (a := p) (xs := rfs rs) (fun i σ H' => ∃ (nv rv : Option V), σ = [some (.ref p), some (.int c), nv, rv] ∧ Same H H' ∧ ∀ m e, m < i → M[m]? = some e → e.getD c 0 = 0) ⟨none, none, rfl, Same.refl _, fun m e hm => absurd hm (Nat.not_lt_zero _)⟩ (fun i σ H' _ ⟨_, _, _, s, _⟩ => SqL.of (s _ _ hp)) ?_ ?_
  · rintro i x σ H1 T hx ⟨nv, rv, rfl, s1, no⟩ nT
    obtain ⟨a, ha, rfl⟩ := map_at hx
    obtain ⟨r, hr, hl, hra⟩ := hR.at_ ha
    have sT := Same.upd (o := .tup [.int i, .ref a]) nT
    refine ⟨T, _, rfl, SqT.of upd_same, rfl, _, _, rfl, _, _, rfl, rfl, ?_⟩
    refine ⟨_, rfl, _, rfl, a, _, _, _, rfl, rfl, SqL.of (sT _ _ (s1 _ _ hra)), at_int hl hc, ?_⟩
    refine ⟨_, _, rfl, rfl, _, rfl, ite2 (fun e => ?_) (fun e => ?_)⟩
    · exact ⟨_, rfl, qs _ i r (s1.trans sT) hr (by simpa using e) no⟩
    · refine ⟨_, _, rfl, s1.trans sT, fun m e2 hm2 he => ?_⟩
      by_cases z : m < i
      · exact no m e2 z he
      · have : m = i := by omega
        subst this
        rw [hr] at he
        rw [← Option.some.inj he]
        simpa using e
  · rintro σ H1 ⟨nv, rv, rfl, s1, no⟩
    refine qn _ s1 fun r hr => ?_
    obtain ⟨m, hm2, he⟩ := List.getElem_of_mem hr
    exact no m r (by rw [rfs_len, hR.1]; exact hm2) (by rw [List.getElem?_eq_getElem hm2, he])
/-- names: 0 row, 1 by, 2 column -/
theorem ok_cleared (T : Txt K mg f0 f1 f2 f3 f4 f5 f6 f7 f8 f9 f10 f11 f12 f13 f14 f15 f16 f17 f18 f19 f20 f21 f22 f23 f24 f25 f26 d0 d1 d2 d3 d4 d5 d6 d7 d8 d9 d10 d11 d12 d13 d14 d15 d16 d17 d18 d19 d20 d21 d22 d23 d24 d25 d26) : FnOk P w K mg base CX0 1 f10 d10 ["row", "by", "column"] (sp_cleared K) := by
  refine T.F10.fn.ok sc_cleared (fun vs H Q E h => len_cleared h) (fun cdv A outer s H vs Q E hr h => ?_)
  refine ⟨_, (pss_one (ps_ret (pe_compB ["one", "other", "by", "column", "row"] [none, none, some 1, some 2, some 0] (pi_zipLL K rfl rfl T.z_zip (pa_cons (pv 0) (pa_cons (pv 1) pa_nil))) ⟨⟨rfl, rfl, by first | exact .inl rfl | exact .inr rfl⟩, ⟨⟨rfl, rfl, by first | exact .inl rfl | exact .inr rfl⟩, ⟨⟨rfl, rfl, by first | exact .inl rfl | exact .inr rfl⟩, trivial⟩⟩⟩ (fun _ _ _ _ => (pg_tupK (n := 2) K rfl rfl (pgs_cons (pg_name (i := 0) (by decide +kernel : List.Nodup (["one", "other", "by", "column", "row"] : List Str)) rfl (Or.inl rfl)) (pgs_cons (pg_name (i := 1) (by decide +kernel : List.Nodup (["one", "other", "by", "column", "row"] : List Str)) rfl (Or.inl rfl)) pgs_nil)))) (fun _ _ _ _ => pf_nil) (fun _ _ _ _ => (pe_op op_sub (pe_op op_mul (pe_ix (ix_listK K rfl) (pv 2) (pv 3) (fun _ _ => rfl)) (pv 0)) (pe_op op_mul (pe_ix (ix_listK K rfl) (pv 4) (pv 3) (fun _ _ => rfl)) (pv 1))))))), ?_⟩
  obtain ⟨p, q1, n, c, r, b, rfl, hp, hq, hr1, hb1, hc, hn, ⟨k1, hk1, sr⟩, ⟨k2, hk2, sb⟩, q⟩ := h
  have hs : (100000 : Nat) < sizeLine := by decide
  have b1 := bnd_few k1 hk1
  have b2 := bnd_few k2 hk2
  have z1 := bnd_pos k1
  have z2 := bnd_pos k2
  refine ⟨_, rfl, _, rfl, p, q1, rfl, ⟨_, SqL.of hp⟩, ⟨_, SqL.of hq⟩, ?_⟩
  refine comp_zip (xs := zvs r) (ys := zvs b) (fun j acc H' => Same H H' ∧ acc = zvs ((clr c b r).take j)) (by rw [zvs_len, zvs_len]; omega) (by rw [zvs_len]; omega) (fun j acc H' h => ⟨SqL.of (h.1 _ _ hp), SqL.of (h.1 _ _ hq)⟩) ⟨Same.refl _, rfl⟩ ?_ ?_
  · rintro j x1 x2 acc H2 T Nx h1 h2 hal ⟨s2, rfl⟩ nT nx
    obtain ⟨m1, hm1, rfl⟩ := zvs_at h1
    obtain ⟨m2, hm2, rfl⟩ := zvs_at h2
    have sT := s2.trans (Same.upd (o := .tup [.int m1, .int m2]) nT)
    refine ⟨T, _, rfl, SqT.of upd_same, rfl, _, _, rfl, _, _, rfl, rfl, ?_⟩
    refine ⟨⟨rfl, rfl, rfl, trivial⟩, yes_ite ?_⟩
    refine ⟨_, rfl, _, rfl, q1, _, _, _, rfl, rfl, SqL.of (sT _ _ hq), at_int hb1 hc, _, rfl, _, _, rfl, rfl, bd_mul b2 (by omega) sb c _, ?_⟩
    refine ⟨_, rfl, _, rfl, p, _, _, _, rfl, rfl, SqL.of (sT _ _ hp), at_int hr1 hc, _, rfl, _, _, rfl, rfl, bd_mul b1 (by omega) sr c _, ?_⟩
    refine ⟨_, _, rfl, rfl, ?_⟩
    refine nx _ _ (by simpa using hal) ⟨sT, ?_⟩
    rw [zvs_snoc]
    unfold clr
    rw [take_zip hm1 hm2]
  · rintro acc H2 D hal ⟨s2, rfl⟩ hD
    have hcl := clr_len (c := c) hb1 hr1
    rw [zvs_len, hr1, ← hcl, List.take_length]
    exact q D _ (Same.free s2 hD) upd_same (s2.trans (Same.upd hD))
/-- names: 0 yard, 1 rows, 2 many, 3 column, 4 number, 5 by -/
theorem ok_rank (T : Txt K mg f0 f1 f2 f3 f4 f5 f6 f7 f8 f9 f10 f11 f12 f13 f14 f15 f16 f17 f18 f19 f20 f21 f22 f23 f24 f25 f26 d0 d1 d2 d3 d4 d5 d6 d7 d8 d9 d10 d11 d12 d13 d14 d15 d16 d17 d18 d19 d20 d21 d22 d23 d24 d25 d26) : FnOk P w K mg base CX0 6 f11 d11 ["yard"] (sp_rank K) := by
  have G_table := ok_table (P := P) (w := w) (base := base) T
  have G_bands := ok_bands (P := P) (w := w) (base := base) T
  have G_row_with := ok_row_with (P := P) (w := w) (base := base) T
  have G_cleared := ok_cleared (P := P) (w := w) (base := base) T
  refine T.F11.fn.ok sc_rank (fun vs H Q E h => len_rank h) (fun cdv A outer s H vs Q E hr h => ?_)
  refine ⟨_, (pss_cons (ps_setCB (i := 1) ["row"] [none] sc_rank.nd rfl (Or.inl rfl) (pi_tupK K rfl (pe_call G_table (hr.mono (by decide)) rfl T.F7.mg T.F7.fn.kp T.F7.bd .nil pass0 (pa_cons (pv 0) pa_nil))) trivial (fun _ _ _ _ => (pg_name (i := 0) (by decide +kernel : List.Nodup (["row"] : List Str)) rfl (Or.inl rfl))) (fun _ _ _ _ => pf_nil) (fun _ _ _ _ => (pe_callTy (call_list_ofK K rfl) rfl T.z_list boot_list (pa_cons (pv 0) pa_nil))))
      (pss_cons (ps_set (i := 2) sc_rank.nd rfl (Or.inl rfl) pe_int)
      (pss_cons (ps_for PassesOwn.never rfl (pi_range1 rfl T.z_range (pa_cons (pe_callB call_lenS rfl T.z_len PySem.boot_len (pa_cons (pe_call G_bands (hr.mono (by decide)) rfl T.F1.mg T.F1.fn.kp T.F1.bd .nil pass0 (pa_cons (pv 0) pa_nil)) pa_nil)) pa_nil)) (pg_name (i := 3) sc_rank.nd rfl (Or.inr rfl)) (pss_cons (ps_set (i := 4) sc_rank.nd rfl (Or.inl rfl) (pe_call G_row_with (hr.mono (by decide)) rfl T.F9.mg T.F9.fn.kp T.F9.bd .nil pass0 (pa_cons (pv 1) (pa_cons (pv 3) pa_nil))))
      (pss_one (ps_if (pt_cmpR op_notN (pv 4) pe_non (nomark _)) (pss_cons (ps_set (i := 5) sc_rank.nd rfl (Or.inr rfl) (pe_bmK K rfl PySem.F.plainAttrs_list PySem.F.slot_list_pop PySem.F.type_list_pop mt_popAt (pv 1) (pa_cons (pv 4) pa_nil)))
      (pss_cons (ps_setCB (i := 1) ["row", "by", "column"] [none, some 5, some 3] sc_rank.nd rfl (Or.inl rfl) (pi_listK K rfl (pv 1)) ⟨⟨rfl, rfl, by first | exact .inl rfl | exact .inr rfl⟩, ⟨⟨rfl, rfl, by first | exact .inl rfl | exact .inr rfl⟩, trivial⟩⟩ (fun _ _ _ _ => (pg_name (i := 0) (by decide +kernel : List.Nodup (["row", "by", "column"] : List Str)) rfl (Or.inl rfl))) (fun _ _ _ _ => pf_nil) (fun _ _ _ _ => (pe_call G_cleared (hr.mono (by decide)) rfl T.F10.mg T.F10.fn.kp T.F10.bd .nil pass0 (pa_cons (pv 0) (pa_cons (pv 1) (pa_cons (pv 2) pa_nil))))))
      (pss_one (ps_aug (i := 2) sc_rank.nd rfl (Or.inl rfl) pe_int ip_add)))) pss_nil))))
      (pss_one (ps_ret (pv 2)))))), ?_⟩
  obtain ⟨y, rfl, hy, h2, hz, q⟩ := h
  have hs : (100000 : Nat) < sizeLine := by decide
  have hbl := bsOf_len hy
  refine ⟨_, rfl, y, rfl, hy, hz, fun t0 r0 H1 n0 ht0 hr0 s1 => ?_⟩
  refine ⟨t0, rfl, ⟨_, SqT.of ht0⟩, ?_⟩
  refine comp_tup (K := K) (a := t0) (xs := rfs r0) (fun i acc H' => Same H1 H' ∧ ∃ ts : List Addr, acc = rfs ts ∧ ts.length = i ∧ ∀ (j : Nat) (a t : Addr) (ns : List Int), r0[j]? = some a → ts[j]? = some t → H1 a = some (.tup (zvs ns)) → H' t = some (.lst (zvs ns))) (by rw [rfs_len, hr0.1]; omega) (fun j acc H' h => SqT.of (h.1 _ _ ht0)) ⟨Same.refl _, [], rfl, rfl, fun j a t ns _ h => by simp at h⟩ ?_ ?_
  · rintro i v acc H2 Nx hi hv hal ⟨s2, ts, rfl, htl, hts⟩ nx
    obtain ⟨a, ha, rfl⟩ := map_at hv
    have hlt : i < (bsOf y).length := by rw [rfs_len, hr0.1] at hi; exact hi
    have hrow := hr0.2 i a _ ha (List.getElem?_eq_getElem hlt)
    refine ⟨trivial, yes_ite ?_⟩
    refine ⟨_, rfl, a, _, rfl, .inr (SqT.of (s2 _ _ hrow)), fun l nl => ?_⟩
    have sl := Same.upd (o := .lst (zvs ((bsOf y).map (sg y (bsOf y)[i])))) nl
    refine nx _ _ (by simpa using hal) ⟨s2.trans sl, ts ++ [l], rfs_snoc ts l, by rw [List.length_append, htl]; rfl, fun j a2 t ns h1 h3 h4 => ?_⟩
    by_cases z : j < ts.length
    · rw [List.getElem?_append_left z] at h3
      exact sl _ _ (hts j a2 t ns h1 h3 h4)
    · have hj2 : j = ts.length := by
        have := (List.getElem?_eq_some_iff.mp h3).1
        rw [List.length_append] at this
        have : j < ts.length + 1 := this
        omega
      subst hj2
      rw [List.getElem?_append_right (Nat.le_refl _), Nat.sub_self] at h3
      have ea : l = t := by simpa using h3
      rw [htl, ha] at h1
      have e2 : a = a2 := Option.some.inj h1
      subst e2
      rw [hrow] at h4
      injection h4 with h4
      injection h4 with h4
      rw [← h4, ← ea]
      exact upd_same
  rintro acc H2 D hal ⟨s2, ts, rfl, htl, hts⟩ hD
  have sD := Same.upd (o := .lst (rfs ts)) hD
  have hR : RowsL (upd H2 D (.lst (rfs ts))) (bsOf y).length ts (tabI y) := rows_list hr0 (by rw [htl, rfs_len]) fun i a t ns e1 e2 e3 => sD _ _ (hts i a t ns e1 e2 e3)
  have hD2 : upd H2 D (.lst (rfs ts)) D = some (.lst (rfs ts)) := upd_same
  have s3 := s1.trans (s2.trans sD)
  generalize upd H2 D (.lst (rfs ts)) = H3 at sD hR hD2 s3 ⊢
  have nDH : H D = none := Same.free (s1.trans s2) hD
  refine ⟨_, rfl, y, rfl, lt128 hy.lt, by omega, fun l' H4 hp hw s4 => ?_⟩
  have el := bsOf_eq hp hw
  subst el
  refine ⟨bsOf y, rfl, by omega, ?_⟩
  refine ⟨_, rfl, by omega, by omega, ?_⟩
  rw [Int.toNat_natCast]
  refine for_range (fun i σ H' => ∃ (p : Addr) (rs : List Addr) (M : List (List Int)) (many : Nat) (cv nv bv : Option V), σ = [some (.str (S y)), some (.ref p), some (.int many), cv, nv, bv] ∧ H p = none ∧ H' p = some (.lst (rfs rs)) ∧ RowsL H' (bsOf y).length rs M ∧ Clrd y i M many ∧ Same H H')
    ⟨D, ts, tabI y, 0, none, none, none, rfl, nDH, s4 _ _ hD2, hR.same s4, Clrd.start y, s3.trans s4⟩ ?_ ?_
  · rintro i σ H5 hi ⟨p, rs, M, many, cv, nv, bv, rfl, np, hp5, hR5, hC, s5⟩
    have hfew := hC.few
    have hi4 : i ≤ 4 := by omega
    refine ⟨_, rfl, _, rfl, p, (bsOf y).length, i, rs, M, by rw [Int.zero_add]; rfl, hp5, hR5, hi, by omega, fun H6 j b s6 hj hb no => ?_, fun H6 s6 no => ?_⟩
    · refine ⟨_, rfl, rfl, _, rfl, iteY rfl ?_⟩
      have hjl : j < rs.length := by rw [hR5.1]; exact (List.getElem?_eq_some_iff.mp hj).1
      have hbm : b ∈ M := List.mem_of_getElem? hj
      have haj : rs[j]? = some rs[j] := List.getElem?_eq_getElem hjl
      have hR6 := hR5.same s6
      have hp6 := s6 _ _ hp5
      refine ⟨_, rfl, .inl ⟨rfl, _, SqL.of hp6⟩, _, rfl, p, _, _, j, .ref rs[j], rfl, rfl, hp6, by omega, by have := hR5.1; omega, by rw [rfs_len, seqIndex_of (by omega) (by omega), Int.toNat_natCast], by unfold rfs; rw [List.getElem?_map, haj]; rfl, ?_⟩
      have e7 : (rfs rs).eraseIdx j = rfs (rs.eraseIdx j) := erase_rfs rs j
      rw [e7]
      have hR7 := (hR6.erase j).upd (o := .lst (rfs (rs.eraseIdx j))) (by omega) hp6
      have hb7 : upd H6 p (.lst (rfs (rs.eraseIdx j))) rs[j] = some (.lst (zvs b)) := by rw [upd_ne (hR6.out (by omega) hp6 j _ haj)]; exact hR6.2.2 j _ b haj hj
      have hp7 : upd H6 p (.lst (rfs (rs.eraseIdx j))) p = some (.lst (rfs (rs.eraseIdx j))) := upd_same
      have s7 : Same H (upd H6 p (.lst (rfs (rs.eraseIdx j)))) := fun a o e => by rw [upd_ne (ne_of_none e np)]; exact s6 _ _ (s5 a o e)
      generalize upd H6 p (.lst (rfs (rs.eraseIdx j))) = H7 at hR7 hb7 hp7 s7 ⊢
      have hel : (M.eraseIdx j).length ≤ M.length := by rw [List.length_eraseIdx]; split <;> omega
      refine ⟨_, rfl, p, rfl, ⟨_, SqL.of hp7⟩, ?_⟩
      refine comp_list (K := K) (a := p) (xs := rfs (rs.eraseIdx j)) (fun m acc H' => Same H7 H' ∧ ∃ us : List Addr, acc = rfs us ∧ us.length = m ∧ ∀ (x : Nat) (t : Addr) (r : List Int), us[x]? = some t → (M.eraseIdx j)[x]? = some r → H' t = some (.lst (zvs (clr i b r)))) (by rw [rfs_len, hR7.1]; omega) (fun m acc H' h => SqL.of (h.1 _ _ hp7)) ⟨Same.refl _, [], rfl, rfl, fun x t r h => by simp at h⟩ ?_ ?_
      · rintro m v acc H8 Nx hm hv hal ⟨s8, us, rfl, hul, hus⟩ nx
        obtain ⟨a, ha, rfl⟩ := map_at hv
        obtain ⟨r, hr, hrl, hra⟩ := hR7.at_ ha
        have hrm : r ∈ M := List.mem_of_mem_eraseIdx (List.mem_of_getElem? hr)
        refine ⟨⟨rfl, rfl, trivial⟩, yes_ite ?_⟩
        refine ⟨_, rfl, _, rfl, _, rfl, a, rs[j], (bsOf y).length, i, r, b, by rw [Int.zero_add]; rfl, s8 _ _ hra, s8 _ _ hb7, hrl, hR5.2.1 b hbm, hi, by omega, ⟨i, hi4, hC.bd r hrm⟩, ⟨i, hi4, hC.bd b hbm⟩, fun t H9 nt ht s9 => ?_⟩
        refine nx _ _ (by simpa using hal) ⟨s8.trans s9, us ++ [t], rfs_snoc us t, by rw [List.length_append, hul]; rfl, fun x t2 r2 h1 h3 => ?_⟩
        by_cases z : x < us.length
        · rw [List.getElem?_append_left z] at h1
          exact s9 _ _ (hus x t2 r2 h1 h3)
        · have hx2 : x = us.length := by
            have := (List.getElem?_eq_some_iff.mp h1).1
            rw [List.length_append] at this
            have : x < us.length + 1 := this
            omega
          subst hx2
          rw [List.getElem?_append_right (Nat.le_refl _), Nat.sub_self] at h1
          have ea : t = t2 := by simpa using h1
          rw [hul, hr] at h3
          rw [← ea, ← Option.some.inj h3]
          exact ht
      · rintro acc H8 D8 hal ⟨s8, us, rfl, hul, hus⟩ hD8
        have sD8 := Same.upd (o := .lst (rfs us)) hD8
        refine ⟨_, rfl, _, _, rfl, rfl, ?_⟩
        refine ⟨D8, us, (M.eraseIdx j).map (clr i b), many + 1, _, _, _, rfl, Same.free (s7.trans s8) hD8, upd_same, ⟨?_, fun r hr => ?_, fun x t r h1 h3 => ?_⟩, hC.some hj hb no, s7.trans (s8.trans sD8)⟩
        · rw [hul, rfs_len, List.length_map, hR7.1]
        · obtain ⟨u, hu, rfl⟩ := List.mem_map.mp hr
          exact clr_len (hR5.2.1 b hbm) (hR7.2.1 u hu)
        · obtain ⟨u, hu, rfl⟩ := map_at h3
          exact sD8 _ _ (hus x t u h1 hu)
    · refine ⟨_, rfl, rfl, _, rfl, iteN rfl ?_⟩
      exact ⟨p, rs, M, many, _, _, _, rfl, np, s6 _ _ hp5, hR5.same s6, hC.none no, s5.trans s6⟩
  · rintro σ H5 ⟨p, rs, M, many, cv, nv, bv, rfl, np, hp5, hR5, hC, s5⟩
    have := q H5 s5
    rw [hC.is] at this
    exact ⟨_, rfl, this⟩
/-- names: 0 _law_rows, 1 _law_many, 2 _law_at, 3 _law_some, 4 _law_first -/
theorem ok_Lleft (T : Txt K mg f0 f1 f2 f3 f4 f5 f6 f7 f8 f9 f10 f11 f12 f13 f14 f15 f16 f17 f18 f19 f20 f21 f22 f23 f24 f25 f26 d0 d1 d2 d3 d4 d5 d6 d7 d8 d9 d10 d11 d12 d13 d14 d15 d16 d17 d18 d19 d20 d21 d22 d23 d24 d25 d26) : FnOk P w K mg base CX0 1 f24 d24 ["_law_rows"] (sp_Lleft K) := by
  refine T.F24.fn.ok sc_Lleft (fun vs H Q E h => len_Lleft h) (fun cdv A outer s H vs Q E hr h => ?_)
  refine ⟨_, (pss_cons (ps_setCB (i := 0) ["_law_row"] [none] sc_Lleft.nd rfl (Or.inl rfl) (pi_tupK K rfl (pv 0)) trivial (fun _ _ _ _ => (pg_name (i := 0) (by decide +kernel : List.Nodup (["_law_row"] : List Str)) rfl (Or.inl rfl))) (fun _ _ _ _ => pf_nil) (fun _ _ _ _ => (pe_callTy (call_list_ofK K rfl) rfl T.z_list boot_list (pa_cons (pv 0) pa_nil))))
      (pss_cons (ps_set (i := 1) sc_Lleft.nd rfl (Or.inl rfl) pe_int)
      (pss_cons (ps_for PassesOwn.never rfl (pi_range1 rfl T.z_range (pa_cons (pe_callB (call_len_seqK K rfl) rfl T.z_len PySem.boot_len (pa_cons (pv 0) pa_nil)) pa_nil)) (pg_name (i := 2) sc_Lleft.nd rfl (Or.inr rfl)) (pss_cons (ps_setCB (i := 3) ["_law_row", "_law_at"] [none, some 2] sc_Lleft.nd rfl (Or.inl rfl) (pi_listK K rfl (pv 0)) ⟨⟨rfl, rfl, by first | exact .inl rfl | exact .inr rfl⟩, trivial⟩ (fun _ _ _ _ => (pg_name (i := 0) (by decide +kernel : List.Nodup (["_law_row", "_law_at"] : List Str)) rfl (Or.inl rfl))) (fun _ _ _ _ => (pf_one (pt_cmpR op_neI (pe_ix (ix_listK K rfl) (pv 0) (pv 1) (fun _ _ => rfl)) pe_int (nomark _)))) (fun _ _ _ _ => (pv 0)))
      (pss_one (ps_if (pt_cmpR (op_neD K rfl hr) (pv 3) (pe_lst pa_nil) (nomark _)) (pss_cons (ps_set (i := 1) sc_Lleft.nd rfl (Or.inl rfl) (pe_op op_add (pv 1) pe_int))
      (pss_cons (ps_set (i := 4) sc_Lleft.nd rfl (Or.inr rfl) (pe_ix (ix_listK K rfl) (pv 3) pe_int (fun _ _ => rfl)))
      (pss_cons (ps_expr (pe_bmK K rfl PySem.F.plainAttrs_list PySem.F.slot_list_remove PySem.F.type_list_remove (mt_remD K rfl hr) (pv 0) (pa_cons (pv 4) pa_nil)))
      (pss_one (ps_setCBN (i := 0) ["_law_row", "_law_first", "_law_at"] [none, some 4, some 2] sc_Lleft.nd rfl (Or.inl rfl) (pi_listK K rfl (pv 0)) ⟨⟨rfl, rfl, by first | exact .inl rfl | exact .inr rfl⟩, ⟨⟨rfl, rfl, by first | exact .inl rfl | exact .inr rfl⟩, trivial⟩⟩ (fun _ _ _ _ => (pg_name (i := 0) (by decide +kernel : List.Nodup (["_law_row", "_law_first", "_law_at"] : List Str)) rfl (Or.inr rfl))) (fun _ _ _ _ => pf_nil) (fun _ _ _ _ => (pe_compB ["_law_a", "_law_b", "_law_first", "_law_at", "_law_row"] [none, none, some 1, some 2, some 0] (pi_zipLL K rfl rfl T.z_zip (pa_cons (pv 0) (pa_cons (pv 1) pa_nil))) ⟨⟨rfl, rfl, by first | exact .inl rfl | exact .inr rfl⟩, ⟨⟨rfl, rfl, by first | exact .inl rfl | exact .inr rfl⟩, ⟨⟨rfl, rfl, by first | exact .inl rfl | exact .inr rfl⟩, trivial⟩⟩⟩ (fun _ _ _ _ => (pg_tupK (n := 2) K rfl rfl (pgs_cons (pg_name (i := 0) (by decide +kernel : List.Nodup (["_law_a", "_law_b", "_law_first", "_law_at", "_law_row"] : List Str)) rfl (Or.inl rfl)) (pgs_cons (pg_name (i := 1) (by decide +kernel : List.Nodup (["_law_a", "_law_b", "_law_first", "_law_at", "_law_row"] : List Str)) rfl (Or.inl rfl)) pgs_nil)))) (fun _ _ _ _ => pf_nil) (fun _ _ _ _ => (pe_op op_sub (pe_op op_mul (pv 0) (pe_ix (ix_listK K rfl) (pv 2) (pv 3) (fun _ _ => rfl))) (pe_op op_mul (pv 1) (pe_ix (ix_listK K rfl) (pv 4) (pv 3) (fun _ _ => rfl)))))))))))) pss_nil))))
      (pss_one (ps_ret (pv 1)))))), ?_⟩
  obtain ⟨t0, y, r0, rfl, ht0, hr0, hy, h2, hz, q⟩ := h
  have hs : (100000 : Nat) < sizeLine := by decide
  have hbl := bsOf_len hy
  refine ⟨_, rfl, t0, rfl, ⟨_, SqT.of ht0⟩, ?_⟩
  refine comp_tup (K := K) (a := t0) (xs := rfs r0) (fun i acc H' => Same H H' ∧ ∃ ts : List Addr, acc = rfs ts ∧ RowsL H' (bsOf y).length ts ((tabI y).take i)) (by rw [rfs_len, hr0.1]; omega) (fun j acc H' h => SqT.of (h.1 _ _ ht0)) ⟨Same.refl _, [], rfl, RowsL.nil _ _⟩ ?_ ?_
  · rintro i v acc H2 Nx hi hv hal ⟨s2, ts, rfl, hts⟩ nx
    obtain ⟨a, ha, rfl⟩ := map_at hv
    have hlt : i < (bsOf y).length := by rw [rfs_len, hr0.1] at hi; exact hi
    have hrow := hr0.2 i a _ ha (List.getElem?_eq_getElem hlt)
    refine ⟨trivial, yes_ite ?_⟩
    refine ⟨_, rfl, a, _, rfl, .inr (SqT.of (s2 _ _ hrow)), fun l nl => ?_⟩
    have sl := Same.upd (o := .lst (zvs ((bsOf y).map (sg y (bsOf y)[i])))) nl
    refine nx _ _ (by simpa using hal) ⟨s2.trans sl, ts ++ [l], rfs_snoc ts l, ?_⟩
    rw [← take_snoc (x := (bsOf y).map (sg y (bsOf y)[i])) (by unfold tabI; rw [List.getElem?_map, List.getElem?_eq_getElem hlt]; rfl)]
    exact (hts.same sl).snoc (by rw [List.length_map]) upd_same
  rintro acc H2 D hal ⟨s2, ts, rfl, hR⟩ hD
  rw [rfs_len, hr0.1, List.take_of_length_le (l := tabI y) (Nat.le_of_eq tab_rows.2.1)] at hR
  have sD := Same.upd (o := .lst (rfs ts)) hD
  have hR := hR.same sD
  have hD2 : upd H2 D (.lst (rfs ts)) D = some (.lst (rfs ts)) := upd_same
  have s3 := s2.trans sD
  generalize upd H2 D (.lst (rfs ts)) = H3 at sD hR hD2 s3 ⊢
  have nDH : H D = none := Same.free s2 hD
  have htl : ts.length = (bsOf y).length := by rw [hR.1, tab_rows.2.1]
  refine ⟨_, rfl, D, _, rfl, .inl (SqL.of hD2), ?_⟩
  rw [rfs_len, htl]
  refine ⟨_, rfl, by omega, by omega, ?_⟩
  rw [Int.toNat_natCast]
  refine for_range (fun i σ H' => ∃ (p : Addr) (rs : List Addr) (M : List (List Int)) (many : Nat) (cv nv bv : Option V), σ = [some (.ref p), some (.int many), cv, nv, bv] ∧ H p = none ∧ H' p = some (.lst (rfs rs)) ∧ RowsL H' (bsOf y).length rs M ∧ Clrd y i M many ∧ Same H H')
    ⟨D, ts, tabI y, 0, none, none, none, rfl, nDH, hD2, hR, Clrd.start y, s3⟩ ?_ ?_
  · rintro i σ H5 hi ⟨p, rs, M, many, cv, nv, bv, rfl, np, hp5, hR5, hC, s5⟩
    have hfew := hC.few
    have hi4 : i ≤ 4 := by omega
    refine ⟨_, rfl, p, rfl, ⟨_, SqL.of hp5⟩, ?_⟩
    refine comp_list (K := K) (a := p) (xs := rfs rs) (fun m acc H' => Same H5 H' ∧ ∃ us : List Addr, acc = rfs us ∧ RowsL H5 (bsOf y).length us ((M.take m).filter fun r => !decide (r.getD i 0 = 0))) (by rw [rfs_len, hR5.1]; omega) (fun m acc H' h => SqL.of (h.1 _ _ hp5)) ⟨Same.refl _, [], rfl, RowsL.nil _ _⟩ ?_ ?_
    · rintro m v acc H6 Nx hm hv hal ⟨s6, us, rfl, hus⟩ nx
      obtain ⟨a, ha, rfl⟩ := map_at hv
      obtain ⟨r, hr, hrl, hra⟩ := hR5.at_ ha
      refine ⟨⟨rfl, trivial⟩, ?_⟩
      refine ⟨_, rfl, _, rfl, a, _, _, _, rfl, rfl, SqL.of (s6 _ _ hra), by rw [Int.zero_add]; exact at_int hrl hi, ?_⟩
      refine ⟨_, _, rfl, rfl, _, rfl, ?_⟩
      refine ite2 (fun e => ?_) (fun e => ?_)
      · refine ⟨_, rfl, nx _ _ (by simpa using hal) ⟨s6, us ++ [a], rfs_snoc us a, ?_⟩⟩
        rw [← take_snoc hr, List.filter_append, List.filter_cons_of_pos (p := fun r => !decide (r.getD i 0 = 0)) (a := r) e]
        exact hus.snoc hrl hra
      · refine nx _ _ (Nat.le_succ_of_le hal) ⟨s6, us, rfl, ?_⟩
        rw [← take_snoc hr, List.filter_append, List.filter_cons_of_neg (p := fun r => !decide (r.getD i 0 = 0)) (a := r) e, List.filter_nil, List.append_nil]
        exact hus
    rintro acc H6 D6 hal ⟨s6, us, rfl, hus⟩ hD6
    rw [rfs_len, hR5.1, List.take_length] at hus
    have sD6 := s6.trans (Same.upd (o := .lst (rfs us)) hD6)
    have hD62 : upd H6 D6 (.lst (rfs us)) D6 = some (.lst (rfs us)) := upd_same
    have nD6 : H5 D6 = none := Same.free s6 hD6
    generalize upd H6 D6 (.lst (rfs us)) = H7 at sD6 hD62 ⊢
    refine ⟨_, rfl, by decide, fun e0 ne0 => ?_⟩
    have se := sD6.trans (Same.upd (o := .lst []) ne0)
    have hD63 : upd H7 e0 (.lst []) D6 = some (.lst (rfs us)) := (Same.upd ne0) _ _ hD62
    have he0 : upd H7 e0 (.lst []) e0 = some (.lst []) := upd_same
    generalize upd H7 e0 (.lst []) = H8 at se hD63 he0 ⊢
    refine ⟨_, _, .lst (SqL.of hD63) (rd_rows (hus.same se)), .lst (SqL.of he0) .nil, ⟨lay_lds _, rfl⟩, dep_ldl _, _, rfl, ?_⟩
    cases hN : (M.filter fun r => !decide (r.getD i 0 = 0)) with
    | nil =>
      refine iteN (by rfl) ?_
      exact ⟨p, rs, M, many, _, _, _, rfl, np, se _ _ hp5, hR5.same se, hC.none (none_of hN), s5.trans se⟩
    | cons b N =>
      rw [hN] at hus
      refine iteY (by rfl) ?_
      obtain ⟨j, hj, hb, no⟩ := first_of hN
      have hul : 0 < us.length := by rw [hus.1]; exact Nat.succ_pos _
      have ha0 : us[0]? = some us[0] := List.getElem?_eq_getElem hul
      have hb8 : H8 us[0] = some (.lst (zvs b)) := se _ _ (hus.2.2 0 _ b ha0 rfl)
      have hbm : b ∈ M := List.mem_of_getElem? hj
      have hp8 := se _ _ hp5
      have hR8 := hR5.same se
      refine ⟨_, rfl, _, _, rfl, rfl, ?_⟩
      refine ⟨_, rfl, D6, _, _, .ref us[0], rfl, rfl, SqL.of hD63, atI_nat (xs := rfs us) (j := 0) (by unfold rfs; rw [List.getElem?_map, ha0]; rfl), ?_⟩
      refine ⟨_, rfl, .inl ⟨rfl, _, SqL.of hp8⟩, _, rfl, p, _, _, _, _, j, rfl, rfl, hp8, rd_rows hR8, .lst (SqL.of hb8) (rd_zds K _ b), ⟨lay_lds _, lay_zds b⟩, dep_zdl b, ⟨.list (zds b), by unfold lds; rw [List.getElem?_map, hj]; rfl, eqv_refl _ (dict_zds b)⟩, fun m e hm he => ?_, ?_⟩
      · unfold lds at he
        obtain ⟨u, hu, rfl⟩ := map_at he
        have hu0 := no m u hm hu
        cases hq : PyData.eqv (.list (zds u)) (.list (zds b)) with
        | false => rfl
        | true => exact absurd (eqv_zds u b hq ▸ hu0) hb
      have hjl : j < rs.length := by rw [hR5.1]; exact (List.getElem?_eq_some_iff.mp hj).1
      have e7 : (rfs rs).eraseIdx j = rfs (rs.eraseIdx j) := erase_rfs rs j
      rw [e7]
      have hR9 := (hR8.erase j).upd (o := .lst (rfs (rs.eraseIdx j))) (by omega) hp8
      have hne : us[0] ≠ p := fun z => by
        rw [z, hp8] at hb8
        injection hb8 with hb8
        injection hb8 with hb8
        exact rows_ne (by rw [hR5.2.1 b hbm]; omega) hb8
      have hb9 : upd H8 p (.lst (rfs (rs.eraseIdx j))) us[0] = some (.lst (zvs b)) := by rw [upd_ne hne]; exact hb8
      have hp9 : upd H8 p (.lst (rfs (rs.eraseIdx j))) p = some (.lst (rfs (rs.eraseIdx j))) := upd_same
      have s9 : Same H (upd H8 p (.lst (rfs (rs.eraseIdx j)))) := fun a o e => by rw [upd_ne (ne_of_none e np)]; exact se _ _ (s5 a o e)
      generalize upd H8 p (.lst (rfs (rs.eraseIdx j))) = H9 at hR9 hb9 hp9 s9 ⊢
      have hel : (M.eraseIdx j).length ≤ M.length := by rw [List.length_eraseIdx]; split <;> omega
      have z0 := bnd_pos i
      have b0 := bnd_few i hi4
      refine ⟨_, rfl, p, rfl, ⟨_, SqL.of hp9⟩, ?_⟩
      refine comp_list (K := K) (a := p) (xs := rfs (rs.eraseIdx j)) (fun m acc H' => Same H9 H' ∧ ∃ vs : List Addr, acc = rfs vs ∧ RowsL H' (bsOf y).length vs (((M.eraseIdx j).take m).map (clr i b))) (by rw [rfs_len, hR9.1]; omega) (fun m acc H' h => SqL.of (h.1 _ _ hp9)) ⟨Same.refl _, [], rfl, RowsL.nil _ _⟩ ?_ ?_
      · rintro m v acc H10 Nx hm hv hal ⟨s10, vs, rfl, hvs⟩ nx
        obtain ⟨a, ha, rfl⟩ := map_at hv
        obtain ⟨r, hr, hrl, hra⟩ := hR9.at_ ha
        have hrm : r ∈ M := List.mem_of_mem_eraseIdx (List.mem_of_getElem? hr)
        have hbl2 := hR5.2.1 b hbm
        refine ⟨⟨rfl, rfl, trivial⟩, yes_ite ?_⟩
        refine ⟨_, rfl, _, rfl, a, us[0], rfl, ⟨_, SqL.of (s10 _ _ hra)⟩, ⟨_, SqL.of (s10 _ _ hb9)⟩, ?_⟩
        refine comp_zip (xs := zvs r) (ys := zvs b) (fun x acc2 H' => Same H10 H' ∧ acc2 = zvs ((clr i b r).take x)) (by rw [zvs_len, zvs_len]; omega) (by rw [zvs_len]; omega) (fun x acc2 H' h => ⟨SqL.of (h.1 _ _ (s10 _ _ hra)), SqL.of (h.1 _ _ (s10 _ _ hb9))⟩) ⟨Same.refl _, rfl⟩ ?_ ?_
        · rintro x x1 x2 acc2 H11 T Nx2 h1 h3 hal2 ⟨s11, rfl⟩ nT nx2
          obtain ⟨m1, hm1, rfl⟩ := zvs_at h1
          obtain ⟨m2, hm2, rfl⟩ := zvs_at h3
          have sT := s11.trans (Same.upd (o := .tup [.int m1, .int m2]) nT)
          refine ⟨T, _, rfl, SqT.of upd_same, rfl, _, _, rfl, _, _, rfl, rfl, ?_⟩
          refine ⟨⟨rfl, rfl, rfl, trivial⟩, yes_ite ?_⟩
          refine ⟨_, rfl, _, rfl, _, rfl, us[0], _, _, _, rfl, rfl, SqL.of (sT _ _ (s10 _ _ hb9)), by rw [Int.zero_add]; exact at_int hbl2 hi, _, _, rfl, rfl, bd_mul2 b0 (by omega) (hC.bd b hbm) i _, ?_⟩
          refine ⟨_, rfl, _, rfl, _, rfl, a, _, _, _, rfl, rfl, SqL.of (sT _ _ (s10 _ _ hra)), by rw [Int.zero_add]; exact at_int hrl hi, _, _, rfl, rfl, bd_mul2 b0 (by omega) (hC.bd r hrm) i _, ?_⟩
          refine ⟨_, _, rfl, rfl, ?_⟩
          refine nx2 _ _ (by simpa using hal2) ⟨sT, ?_⟩
          rw [zvs_snoc, clr_comm, take_zip hm1 hm2]
        · rintro acc2 H11 D11 hal2 ⟨s11, rfl⟩ hD11
          have hcl := clr_len (c := i) hbl2 hrl
          rw [zvs_len, hrl, ← hcl, List.take_length]
          have sD11 := s11.trans (Same.upd (o := .lst (zvs (clr i b r))) hD11)
          refine nx _ _ (by simpa using hal) ⟨s10.trans sD11, vs ++ [D11], rfs_snoc vs D11, ?_⟩
          rw [← take_snoc hr, List.map_append]
          exact (hvs.same sD11).snoc hcl upd_same
      · rintro acc H10 D10 hal ⟨s10, vs, rfl, hvs⟩ hD10
        rw [rfs_len, hR9.1, List.take_length] at hvs
        have sD10 := Same.upd (o := .lst (rfs vs)) hD10
        exact ⟨D10, vs, (M.eraseIdx j).map (clr i b), many + 1, _, _, _, rfl, Same.free (s9.trans s10) hD10, upd_same, hvs.same sD10, hC.some hj hb no, s9.trans (s10.trans sD10)⟩
  · rintro σ H5 ⟨p, rs, M, many, cv, nv, bv, rfl, np, hp5, hR5, hC, s5⟩
    have := q H5 s5
    rw [hC.is] at this
    exact ⟨_, rfl, this⟩
/-- names: 0 _law_yard_here, 1 _law_words, 2 _law_rows, 3 _law_many, 4 _law_x, 5 _law_rim -/
theorem ok_Lright (T : Txt K mg f0 f1 f2 f3 f4 f5 f6 f7 f8 f9 f10 f11 f12 f13 f14 f15 f16 f17 f18 f19 f20 f21 f22 f23 f24 f25 f26 d0 d1 d2 d3 d4 d5 d6 d7 d8 d9 d10 d11 d12 d13 d14 d15 d16 d17 d18 d19 d20 d21 d22 d23 d24 d25 d26) : FnOk P w K mg base CX0 7 f25 d25 ["_law_yard_here", "_law_words"] (sp_Lright K) := by
  have G_table := ok_table (P := P) (w := w) (base := base) T
  have G_rank := ok_rank (P := P) (w := w) (base := base) T
  have G_handles := ok_handles (P := P) (w := w) (base := base) T
  have G_Lleft := ok_Lleft (P := P) (w := w) (base := base) T
  have G_rims := ok_rims (P := P) (w := w) (base := base) T
  have G_crossed := ok_crossed (P := P) (w := w) (base := base) T
  refine T.F25.fn.ok sc_Lright (fun vs H Q E h => len_Lright h) (fun cdv A outer s H vs Q E hr h => ?_)
  refine ⟨_, (pss_cons (ps_set (i := 2) sc_Lright.nd rfl (Or.inr rfl) (pe_call G_table (hr.mono (by decide)) rfl T.F7.mg T.F7.fn.kp T.F7.bd .nil pass0 (pa_cons (pv 0) pa_nil)))
      (pss_cons (ps_set (i := 3) sc_Lright.nd rfl (Or.inl rfl) (pe_call G_rank (hr.mono (by decide)) rfl T.F11.mg T.F11.fn.kp T.F11.bd .nil pass0 (pa_cons (pv 0) pa_nil)))
      (pss_cons (ps_if (PW.pt (pw_or (pt_val (pe_callB call_isNum rfl T.z_isinstance boot_isinstance (pa_cons (pv 3) (pa_cons (pe_bltn (v := .ty "bool") rfl T.z_bool boot_bool rfl) pa_nil)))) (pw_or (pt_cmpR op_neI (pv 3) (pe_op op_mul pe_int (pe_call G_handles (hr.mono (by decide)) rfl T.F18.mg T.F18.fn.kp T.F18.bd .nil pass0 (pa_cons (pv 0) pa_nil))) (nomark _)) (pw_or1 (pt_cmpR op_neI (pv 3) (pe_call G_Lleft (hr.mono (by decide)) rfl T.F24.mg T.F24.fn.kp T.F24.bd .nil pass0 (pa_cons (pv 2) pa_nil)) (nomark _)))))) (pss_one (ps_ret pe_bl)) pss_nil)
      (pss_cons (ps_for PassesOwn.never rfl (pi_range1 rfl T.z_range (pa_cons (pe_callB (call_len_seqK K rfl) rfl T.z_len PySem.boot_len (pa_cons (pv 2) pa_nil)) pa_nil)) (pg_name (i := 4) sc_Lright.nd rfl (Or.inr rfl)) (pss_one (ps_if (pt_cmpR (op_neD K rfl hr) (pe_compB ["_law_y", "_law_rows", "_law_x"] [none, some 2, some 4] (pi_range1 rfl T.z_range (pa_cons (pe_callB (call_len_seqK K rfl) rfl T.z_len PySem.boot_len (pa_cons (pv 2) pa_nil)) pa_nil)) ⟨⟨rfl, rfl, by first | exact .inl rfl | exact .inr rfl⟩, ⟨⟨rfl, rfl, by first | exact .inl rfl | exact .inr rfl⟩, trivial⟩⟩ (fun _ _ _ _ => (pg_name (i := 0) (by decide +kernel : List.Nodup (["_law_y", "_law_rows", "_law_x"] : List Str)) rfl (Or.inl rfl))) (fun _ _ _ _ => pf_nil) (fun _ _ _ _ => (pe_ix (ix_tupK K rfl) (pe_ix (ix_tupK K rfl) (pv 1) (pv 2) (fun _ _ => rfl)) (pv 0) (fun _ _ => rfl)))) (pe_compB ["_law_y", "_law_x", "_law_rows"] [none, some 4, some 2] (pi_range1 rfl T.z_range (pa_cons (pe_callB (call_len_seqK K rfl) rfl T.z_len PySem.boot_len (pa_cons (pv 2) pa_nil)) pa_nil)) ⟨⟨rfl, rfl, by first | exact .inl rfl | exact .inr rfl⟩, ⟨⟨rfl, rfl, by first | exact .inl rfl | exact .inr rfl⟩, trivial⟩⟩ (fun _ _ _ _ => (pg_name (i := 0) (by decide +kernel : List.Nodup (["_law_y", "_law_x", "_law_rows"] : List Str)) rfl (Or.inl rfl))) (fun _ _ _ _ => pf_nil) (fun _ _ _ _ => (pe_op op_sub pe_int (pe_ix (ix_tupK K rfl) (pe_ix (ix_tupK K rfl) (pv 2) (pv 0) (fun _ _ => rfl)) (pv 1) (fun _ _ => rfl))))) (nomark _)) (pss_one (ps_ret pe_bl)) pss_nil)))
      (pss_cons (ps_for PassesOwn.never rfl (pi_listK K rfl (pe_call G_rims (hr.mono (by decide)) rfl T.F17.mg T.F17.fn.kp T.F17.bd .nil pass0 (pa_cons (pv 0) pa_nil))) (pg_name (i := 5) sc_Lright.nd rfl (Or.inr rfl)) (pss_one (ps_if (pt_not (pt_val (pe_callB (call_allK K rfl rfl) rfl T.z_all boot_all (pa_cons (pe_compB ["_law_word_here", "_law_yard_here", "_law_rim"] [none, some 0, some 5] (pi_listK K rfl (pv 1)) ⟨⟨rfl, rfl, by first | exact .inl rfl | exact .inr rfl⟩, ⟨⟨rfl, rfl, by first | exact .inl rfl | exact .inr rfl⟩, trivial⟩⟩ (fun _ _ _ _ => (pg_name (i := 0) (by decide +kernel : List.Nodup (["_law_word_here", "_law_yard_here", "_law_rim"] : List Str)) rfl (Or.inl rfl))) (fun _ _ _ _ => pf_nil) (fun _ _ _ _ => (pe_cmpR op_eqI (pe_call G_crossed (hr.mono (by decide)) rfl T.F8.mg T.F8.fn.kp T.F8.bd .nil pass0 (pa_cons (pv 1) (pa_cons (pv 2) (pa_cons (pv 0) pa_nil)))) pe_int (nomark _)))) pa_nil)))) (pss_one (ps_ret pe_bl)) pss_nil)))
      (pss_one (ps_ret pe_bl))))))), ?_⟩
  obtain ⟨y, pw, ws, rfl, hpw, hy, h2, h8, hwl, q⟩ := h
  have hs : (100000 : Nat) < sizeLine := by decide
  have hbl := bsOf_len hy
  have eqz : ∀ ns : List Int, (!PyData.eqv (.list (zds ns)) (.list (zds ns))) = false := fun ns => by rw [eqv_refl (.list (zds ns)) (show PyData.hasDictAll (zds ns) = false from dict_zds ns)]; rfl
  refine ⟨_, rfl, y, rfl, hy, h8, fun t0 rs H1 n0 ht0 hr0 s1 => ?_⟩
  refine ⟨_, rfl, y, rfl, hy, h2, h8, fun H2 s2 => ?_⟩
  refine ⟨_, rfl, _, .inr ⟨rfl, _, rfl, iteN rfl ?_⟩⟩
  refine ⟨_, rfl, _, rfl, y, rfl, hy, h2, h8, fun L H3 hL s3 => ?_⟩
  obtain ⟨e1, e2, e3⟩ := rank_yard chk_all hy h2 h8 hL
  have htab := tab_rows (y := y)
  have ek : (((elm (bsOf y).length (tabI y)).2 : Nat) : Int) = 2 * ((((y.length : Int) / 2) + 1 - (L.length : Int)) / 2) := by omega
  refine ⟨_, _, rfl, rfl, .inl ⟨by decide, by decide⟩, _, _, rfl, rfl, _, rfl, iteN (by rw [← ek]; simp) ?_⟩
  have ht3 := s3 _ _ (s2 _ _ ht0)
  have hr3 := (hr0.same s2).same s3
  refine ⟨_, rfl, _, rfl, t0, y, rs, rfl, ht3, hr3, hy, h2, h8, fun H4 s4 => ?_⟩
  refine ⟨_, _, rfl, rfl, _, rfl, iteN (by simp) ?_⟩
  have ht4 := s4 _ _ ht3
  have hr4 := hr3.same s4
  have s04 : Same H H4 := s1.trans (s2.trans (s3.trans s4))
  refine ⟨_, rfl, t0, _, rfl, .inr (SqT.of ht4), ?_⟩
  rw [rfs_len, hr0.1]
  refine ⟨_, rfl, by omega, by omega, ?_⟩
  rw [Int.toNat_natCast]
  generalize hmn : (((elm (bsOf y).length (tabI y)).2 : Nat) : Int) = mn
  have row : ∀ {H' : Hp}, Same H4 H' → ∀ {i j : Nat} (hi : i < (bsOf y).length) (hj : j < (bsOf y).length), ∃ a, rs[i]? = some a ∧ H' a = some (.tup (zvs ((bsOf y).map (sg y (bsOf y)[i])))) ∧ atI (rfs rs) (i : Int) = some (.ref a) ∧ atI (zvs ((bsOf y).map (sg y (bsOf y)[i]))) (j : Int) = some (.int (sg y (bsOf y)[i] (bsOf y)[j])) := fun {H'} s' {i j} hi hj => by
    have hir : i < rs.length := by rw [hr4.1]; exact hi
    refine ⟨rs[i], List.getElem?_eq_getElem hir, s' _ _ (hr4.2 i _ _ (List.getElem?_eq_getElem hir) (List.getElem?_eq_getElem hi)), atI_nat (by unfold rfs; rw [List.getElem?_map, List.getElem?_eq_getElem hir]; rfl), atI_nat (by unfold zvs; rw [List.getElem?_map, List.getElem?_map, List.getElem?_eq_getElem hj]; rfl)⟩
  refine for_range (fun i σ H' => ∃ xv : Option V, σ = [some (.str (S y)), some (.ref pw), some (.ref t0), some (.int mn), xv, none] ∧ Same H4 H') ⟨none, rfl, Same.refl _⟩ ?_ ?_
  · rintro i σ H5 hi ⟨xv, rfl, s5⟩
    have ht5 := s5 _ _ ht4
    refine ⟨_, rfl, t0, _, rfl, .inr (SqT.of ht5), ?_⟩
    rw [rfs_len, hr0.1]
    refine ⟨_, rfl, by omega, by omega, ?_⟩
    rw [Int.toNat_natCast]
    refine comp_rng (fun j acc H' => Same H5 H' ∧ acc = zvs (((bsOf y).take j).map fun z => sg y ((bsOf y)[i]) z)) (by omega) ⟨Same.refl _, rfl⟩ ?_ ?_
    · rintro j acc H6 Nx hj hal ⟨s6, rfl⟩ nx
      obtain ⟨a, _, ha, at1, at2⟩ := row (s5.trans s6) hi hj
      refine ⟨⟨rfl, rfl, trivial⟩, yes_ite ?_⟩
      refine ⟨_, rfl, _, rfl, t0, _, _, _, rfl, rfl, SqT.of (s6 _ _ ht5), by rw [Int.zero_add]; exact at1, ?_⟩
      refine ⟨_, rfl, a, _, _, _, rfl, rfl, SqT.of ha, by rw [Int.zero_add]; exact at2, ?_⟩
      refine nx _ _ (by simpa using hal) ⟨s6, ?_⟩
      rw [zvs_snoc, ← take_snoc (List.getElem?_eq_getElem hj), List.map_append]; rfl
    rintro acc H6 D6 hal ⟨s6, rfl⟩ hD6
    rw [List.take_length]
    have sD6 := s6.trans (Same.upd (o := .lst (zvs ((bsOf y).map fun z => sg y ((bsOf y)[i]) z))) hD6)
    have hD62 : upd H6 D6 (.lst (zvs ((bsOf y).map fun z => sg y ((bsOf y)[i]) z))) D6 = some (.lst (zvs ((bsOf y).map fun z => sg y ((bsOf y)[i]) z))) := upd_same
    generalize upd H6 D6 (.lst (zvs ((bsOf y).map fun z => sg y ((bsOf y)[i]) z))) = H7 at sD6 hD62 ⊢
    have ht7 := sD6 _ _ ht5
    refine ⟨_, rfl, t0, _, rfl, .inr (SqT.of ht7), ?_⟩
    rw [rfs_len, hr0.1]
    refine ⟨_, rfl, by omega, by omega, ?_⟩
    rw [Int.toNat_natCast]
    refine comp_rng (fun j acc H' => Same H7 H' ∧ acc = zvs (((bsOf y).take j).map fun z => sg y ((bsOf y)[i]) z)) (by omega) ⟨Same.refl _, rfl⟩ ?_ ?_
    · rintro j acc H8 Nx hj hal2 ⟨s8, rfl⟩ nx
      obtain ⟨a, _, ha, at1, at2⟩ := row (s5.trans (sD6.trans s8)) hj hi
      refine ⟨⟨rfl, rfl, trivial⟩, yes_ite ?_⟩
      refine ⟨_, rfl, _, rfl, t0, _, _, _, rfl, rfl, SqT.of (s8 _ _ ht7), by rw [Int.zero_add]; exact at1, ?_⟩
      refine ⟨_, rfl, a, _, _, _, rfl, rfl, SqT.of ha, by rw [Int.zero_add]; exact at2, ?_⟩
      refine ⟨_, _, rfl, rfl, ?_⟩
      refine nx _ _ (by simpa using hal2) ⟨s8, ?_⟩
      rw [zvs_snoc, ← take_snoc (List.getElem?_eq_getElem hj), List.map_append, ← tab_anti hy (List.getElem_mem hi) (List.getElem_mem hj)]; rfl
    rintro acc H8 D8 hal2 ⟨s8, rfl⟩ hD8
    rw [List.take_length]
    have sD8 := s8.trans (Same.upd (o := .lst (zvs ((bsOf y).map fun z => sg y ((bsOf y)[i]) z))) hD8)
    refine ⟨_, _, .lst (SqL.of (sD8 _ _ hD62)) (rd_zds K _ _), .lst (SqL.of upd_same) (rd_zds K _ _), ⟨lay_zds _, lay_zds _⟩, dep_zdl _, _, rfl, iteN (eqz _) ?_⟩
    exact ⟨_, rfl, s5.trans (sD6.trans sD8)⟩
  rintro σ H5 ⟨xv, rfl, s5⟩
  refine ⟨_, rfl, y, rfl, hy, h2, h8, fun p1 M H6 hM n1 hp1 s6 => ?_⟩
  have eL := hL.same hy h2 hM
  subst eL
  obtain ⟨f1, f2⟩ := hL.few
  refine ⟨p1, rfl, ⟨_, SqL.of hp1⟩, ?_⟩
  refine for_list (K := K) (a := p1) (xs := txs L) (fun i σ H' => ∃ xv rv : Option V, σ = [some (.str (S y)), some (.ref pw), some (.ref t0), some (.int mn), xv, rv] ∧ Same H6 H') ⟨_, none, rfl, Same.refl _⟩ (fun i σ H' _ ⟨_, _, _, s⟩ => SqL.of (s _ _ hp1)) ?_ ?_
  · rintro i x σ H7 hx ⟨xv, rv, rfl, s7⟩
    have hi : i < L.length := by have := (List.getElem?_eq_some_iff.mp hx).1; rwa [txs_len] at this
    rw [txs_at hi] at hx
    cases hx
    have hw7 := s7 _ _ (s6 _ _ (s5 _ _ (s04 _ _ hpw)))
    refine ⟨_, rfl, pw, rfl, ⟨_, SqL.of hw7⟩, ?_⟩
    refine comp_list (K := K) (a := pw) (xs := txs ws) (fun k acc H' => Same H7 H' ∧ acc = (List.replicate k true).map V.bl) (by rw [txs_len]; omega) (fun k acc H' h => SqL.of (h.1 _ _ hw7)) ⟨Same.refl _, rfl⟩ ?_ ?_
    · rintro k x acc H8 Nx hk hx hal ⟨s8, rfl⟩ nx
      rw [txs_len] at hk
      rw [txs_at hk] at hx
      cases hx
      have hLi := f2 _ (List.getElem_mem hi)
      refine ⟨⟨rfl, rfl, trivial⟩, yes_ite ?_⟩
      refine ⟨_, rfl, _, rfl, _, rfl, y, L[i], ws[k], rfl, hy, h8, by omega, fun H9 s9 => ?_⟩
      refine ⟨_, _, rfl, rfl, ?_⟩
      have z0 : cr (sg y) (ntf L[i]) (ntf ws[k]) (bsOf y) (bsOf y) = 0 := by
        rw [cr_swap]
        unfold cr
        rw [show (bsOf y).map (fun x => ntf ws[k] x * ((bsOf y).map fun z => ntf L[i] z * sg y z x).sum) = (bsOf y).map fun _ => (0 : Int) from List.map_congr_left fun z hz => by rw [e3 _ (List.getElem_mem hi) z hz, Int.mul_zero], sum_zero]
      rw [z0]
      exact nx _ _ (by simpa using hal) ⟨s8.trans s9, rep_snoc _⟩
    · rintro acc H8 D8 hal ⟨s8, rfl⟩ hD8
      refine ⟨D8, List.replicate (txs ws).length true, rfl, SqL.of upd_same, ?_⟩
      rw [all_rep]
      refine ⟨_, rfl, iteN rfl ?_⟩
      exact ⟨_, _, rfl, s7.trans (s8.trans (Same.upd hD8))⟩
  rintro σ H7 ⟨xv, rv, rfl, s7⟩
  exact q _ (s04.trans (s5.trans (s6.trans s7)))
/-- names: 0 _law_box_here, 1 _law_yard_here, 2 _law_top -/
theorem ok_Lword (T : Txt K mg f0 f1 f2 f3 f4 f5 f6 f7 f8 f9 f10 f11 f12 f13 f14 f15 f16 f17 f18 f19 f20 f21 f22 f23 f24 f25 f26 d0 d1 d2 d3 d4 d5 d6 d7 d8 d9 d10 d11 d12 d13 d14 d15 d16 d17 d18 d19 d20 d21 d22 d23 d24 d25 d26) : FnOk P w K mg base CX0 2 f23 d23 ["_law_box_here", "_law_yard_here", "_law_top"] (sp_Lword K) := by
  have G_Ltake := ok_Ltake (P := P) (w := w) (base := base) T
  refine T.F23.fn.ok sc_Lword (fun vs H Q E h => len_Lword h) (fun cdv A outer s H vs Q E hr h => ?_)
  refine ⟨_, (pss_one (ps_ret (pe_bmK K rfl PySem.F.plainAttrs_str PySem.F.slot_str_join PySem.F.type_str_join (mt_joinK K rfl) (pe_S [] (by decide +kernel)) (pa_cons (pe_compB ["_law_k", "_law_yard_here", "_law_box_here"] [none, some 1, some 0] (pi_range1 rfl T.z_range (pa_cons (pe_call G_Ltake (hr.mono (by decide)) rfl T.F20.mg T.F20.fn.kp T.F20.bd .nil pass0 (pa_cons (pv 0) (pa_cons (pe_op op_add (pv 2) pe_int) pa_nil))) pa_nil)) ⟨⟨rfl, rfl, by first | exact .inl rfl | exact .inr rfl⟩, ⟨⟨rfl, rfl, by first | exact .inl rfl | exact .inr rfl⟩, trivial⟩⟩ (fun _ _ _ _ => (pg_name (i := 0) (by decide +kernel : List.Nodup (["_law_k", "_law_yard_here", "_law_box_here"] : List Str)) rfl (Or.inl rfl))) (fun _ _ _ _ => pf_nil) (fun _ _ _ _ => (pe_ix ix_S (pv 1) (pe_call G_Ltake (hr.mono (by decide)) rfl T.F20.mg T.F20.fn.kp T.F20.bd .nil pass0 (pa_cons (pv 2) (pa_cons (pe_callB call_lenS rfl T.z_len PySem.boot_len (pa_cons (pv 1) pa_nil)) pa_nil))) (fun _ _ => rfl)))) pa_nil)))), ?_⟩
  obtain ⟨b, y, top, rfl, hb, hy, hyl, ht, q⟩ := h
  have hs : (100000 : Nat) < sizeLine := by decide
  walk_at "rd"
  refine ⟨b, _, rfl, hb, by omega, by omega, fun n H1 hn hb1 s1 => ?_⟩
  walk_at "rd"
  refine comp_rng (fun i acc H' => BoxAt H' b ∧ SameB b H H' ∧ ∃ l : List Nat, acc = sgs l ∧ l.length = i ∧ ∀ c ∈ l, c ∈ y) (by simp; omega) ⟨hb1, s1, [], rfl, rfl, by simp⟩ ?_ ?_
  · rintro i acc H2 Nx hi hl ⟨hb2, s2, l, rfl, hl2, hm⟩ nx
    have hpos : 0 < y.length := List.length_pos_iff.mpr hy
    refine ⟨⟨rfl, rfl, trivial⟩, yes_ite ?_⟩
    walk_at "rd"
    refine ⟨b, _, rfl, hb2, by omega, by omega, fun r H3 hr3 hb3 s3 => ?_⟩
    have hr4 : r < y.length := by omega
    refine ⟨y, _, y[r], rfl, rfl, by omega, atI_nat (List.getElem?_eq_getElem hr4), ?_⟩
    refine nx _ _ (by simpa using hl) ⟨hb3, s2.trans s3, l ++ [y[r]], sgs_snoc _ _, by simp [hl2], fun c hc => ?_⟩
    rcases List.mem_append.mp hc with z | z
    · exact hm c z
    · rw [List.mem_singleton.mp z]; exact List.getElem_mem hr4
  · rintro acc H2 D hl ⟨hb2, s2, l, rfl, hl2, hm⟩ hD
    have hl3 : l.length ≤ top := by simp at hl2; omega
    refine ⟨D, l.map fun c => [c], rfl, rfl, SqL.of ?_, ?_, ?_⟩
    · rw [upd_same, ← sgs_lists]
    · rw [sum1]; omega
    · rw [flat1]
      exact q l _ hm hl3 (hb2.same (Same.upd hD)) (s2.trans (SameB.of (Same.upd hD)))
/-- names: 0 _law_script, 1 _law_k, 2 _law_box_here, 3 _law_yard_here -/
theorem ok_law (T : Txt K mg f0 f1 f2 f3 f4 f5 f6 f7 f8 f9 f10 f11 f12 f13 f14 f15 f16 f17 f18 f19 f20 f21 f22 f23 f24 f25 f26 d0 d1 d2 d3 d4 d5 d6 d7 d8 d9 d10 d11 d12 d13 d14 d15 d16 d17 d18 d19 d20 d21 d22 d23 d24 d25 d26) : FnOk P w K mg base CX0 8 f26 d26 ["_law_script"] (sp_law K) := by
  have G_Lbox := ok_Lbox (P := P) (w := w) (base := base) T
  have G_Lyard := ok_Lyard (P := P) (w := w) (base := base) T
  have G_Lright := ok_Lright (P := P) (w := w) (base := base) T
  have G_Lword := ok_Lword (P := P) (w := w) (base := base) T
  refine T.F26.fn.ok sc_law (fun vs H Q E h => len_law h) (fun cdv A outer s H vs Q E hr h => ?_)
  refine ⟨_, (pss_cons (ps_for PassesOwn.never rfl (pi_range1 rfl T.z_range (pa_cons (pe_op op_add pe_int (pe_callB (call_len_seqK K rfl) rfl T.z_len PySem.boot_len (pa_cons (pe_slice (sl_listK K rfl) (pv 0) (po_some pe_int) (po_some pe_int)) pa_nil))) pa_nil)) (pg_name (i := 1) sc_law.nd rfl (Or.inl rfl)) (pss_cons (ps_set (i := 2) sc_law.nd rfl (Or.inr rfl) (pe_call G_Lbox (hr.mono (by decide)) rfl T.F19.mg T.F19.fn.kp T.F19.bd .nil pass0 (pa_cons (pv 0) (pa_cons (pv 1) pa_nil))))
      (pss_cons (ps_set (i := 3) sc_law.nd rfl (Or.inr rfl) (pe_call G_Lyard (hr.mono (by decide)) rfl T.F22.mg T.F22.fn.kp T.F22.bd .nil pass0 (pa_cons (pv 2) (pa_cons pe_int (pa_cons pe_int pa_nil)))))
      (pss_one (ps_if (pt_not (pt_val (pe_call G_Lright (hr.mono (by decide)) rfl T.F25.mg T.F25.fn.kp T.F25.bd .nil pass0 (pa_cons (pv 3) (pa_cons (pe_compB ["_law_turn", "_law_box_here", "_law_yard_here"] [none, some 2, some 3] (pi_range1 rfl T.z_range (pa_cons pe_int pa_nil)) ⟨⟨rfl, rfl, by first | exact .inl rfl | exact .inr rfl⟩, ⟨⟨rfl, rfl, by first | exact .inl rfl | exact .inr rfl⟩, trivial⟩⟩ (fun _ _ _ _ => (pg_name (i := 0) (by decide +kernel : List.Nodup (["_law_turn", "_law_box_here", "_law_yard_here"] : List Str)) rfl (Or.inl rfl))) (fun _ _ _ _ => pf_nil) (fun _ _ _ _ => (pe_call G_Lword (hr.mono (by decide)) rfl T.F23.mg T.F23.fn.kp T.F23.bd .nil pass0 (pa_cons (pv 1) (pa_cons (pv 2) (pa_cons pe_int pa_nil)))))) pa_nil))))) (pss_one (ps_ret pe_bl)) pss_nil)))))
      (pss_one (ps_ret pe_bl))), ?_⟩
  obtain ⟨a, ns, rfl, hS, hl, q⟩ := h
  have hs : (100000 : Nat) < sizeLine := by decide
  refine ⟨_, rfl, _, rfl, _, rfl, a, _, rfl, hS, fun p1 n1 => ?_⟩
  have hc6 : (cutV (ns.map V.int) (some 3) (some 12)).length ≤ 9 := by unfold cutV; rw [List.length_take]; exact Nat.le_trans (Nat.min_le_left _ _) (by have e1 : ∀ n d : Nat, HT.sIx n d (some ((3 : Nat) : Int)) = min 3 n := fun n d => HT.sIx_nat _ _ _; have e2 : ∀ n d : Nat, HT.sIx n d (some ((12 : Nat) : Int)) = min 12 n := fun n d => HT.sIx_nat _ _ _; show HT.sIx _ _ (some ((12 : Nat) : Int)) - HT.sIx _ _ (some ((3 : Nat) : Int)) ≤ 9; rw [e1, e2]; omega)
  refine ⟨p1, _, rfl, .inl (SqL.of upd_same), _, _, rfl, rfl, ?_⟩
  have s1 := Same.upd (o := .lst (cutV (ns.map V.int) (some 3) (some 12))) n1
  generalize (cutV (ns.map V.int) (some 3) (some 12)).length = m at hc6 ⊢
  generalize upd H p1 (.lst (cutV (ns.map V.int) (some 3) (some 12))) = H1 at s1 ⊢
  refine ⟨_, rfl, by omega, by omega, ?_⟩
  rw [show ((3 : Int) + (m : Int)).toNat = 3 + m by omega]
  refine for_range (fun i σ H' => ∃ (kv bv yv : Option V), σ = [some (.ref a), kv, bv, yv] ∧ Same H H') ⟨none, none, none, rfl, s1⟩ ?_ ?_
  · rintro i σ H2 hi ⟨kv, bv, yv, rfl, s2⟩
    refine ⟨_, rfl, _, rfl, a, ns, i, by rw [Int.zero_add]; rfl, s2.seq hS, by omega, fun b H3 nb bx s3 => ?_⟩
    refine ⟨_, rfl, b, 1, 4, rfl, bx, by decide, by decide, by decide, fun y H4 hy hy1 hy2 bx4 s4 => ?_⟩
    have hy0 : y ≠ [] := fun z => by rw [z] at hy1; simp at hy1
    refine ⟨_, rfl, _, rfl, by decide, by decide, ?_⟩
    refine comp_rng (fun k acc H' => BoxAt H' b ∧ SameB b H4 H' ∧ ∃ ws : List (List Nat), acc = txs ws ∧ ws.length = k) (by decide) ⟨bx4, SameB.refl _ _, [], rfl, rfl⟩ ?_ ?_
    · rintro k acc H5 Nx hk hal ⟨bx5, s5, ws, rfl, hwl⟩ nx
      refine ⟨⟨rfl, rfl, trivial⟩, yes_ite ?_⟩
      refine ⟨_, rfl, _, rfl, b, y, 8, rfl, bx5, hy0, by omega, by decide, fun w H6 hw hwl2 bx6 s6 => ?_⟩
      exact nx _ _ (by simpa using hal) ⟨bx6, s5.trans s6, ws ++ [w], txs_snoc ws w, by simp [hwl]⟩
    · rintro acc H5 D hal ⟨bx5, s5, ws, rfl, hwl⟩ hD
      have hwl3 : ws.length ≤ 8 := by rw [hwl]; decide
      refine ⟨y, D, ws, rfl, upd_same, hy, by omega, by omega, hwl3, fun H6 s6 => ?_⟩
      refine ⟨_, rfl, iteN rfl ?_⟩
      exact ⟨_, _, _, rfl, s2.trans ((SameB.same nb s3 (s4.trans s5)).trans ((Same.upd hD).trans s6))⟩
  · rintro σ H2 ⟨kv, bv, yv, rfl, s2⟩
    exact q _
end
theorem all_mk {l : PySem.W.OpenLaw} {w : World} {K : PySem.W.Frag} {h : Heap} {mg : Str → Option Value} {fa f0 f1 f2 f3 f4 f5 f6 f7 f8 f9 f10 f11 f12 f13 f14 f15 f16 f17 f18 f19 f20 f21 f22 f23 f24 f25 f26 : Addr} (X : K.In h) (G : h.Ns mainGlobals mg) (hfa : mg "law" = some (.ref fa))
    {od0 an0 od1 an1 od2 an2 od3 an3 od4 an4 od5 an5 od6 an6 od7 an7 od8 an8 od9 an9 od10 an10 od11 an11 od12 an12 od13 an13 od14 an14 od15 an15 od16 an16 od17 an17 od18 an18 od19 an19 od20 an20 od21 an21 od22 an22 od23 an23 od24 an24 od25 an25 od26 an26 : Option Addr} {sl0 sl1 sl2 sl3 sl4 sl5 sl6 sl7 sl8 sl9 sl10 sl11 sl12 sl13 sl14 sl15 sl16 sl17 sl18 sl19 sl20 sl21 sl22 sl23 sl24 sl25 sl26 : Array (Option Value)} {oc0 kV0 dc0 pm0 cd0 ct0 oc1 kV1 dc1 pm1 cd1 ct1 oc2 kV2 dc2 pm2 cd2 ct2 oc3 kV3 dc3 pm3 cd3 ct3 oc4 kV4 dc4 pm4 cd4 ct4 oc5 kV5 dc5 pm5 cd5 ct5 oc6 kV6 dc6 pm6 cd6 ct6 oc7 kV7 dc7 pm7 cd7 ct7 oc8 kV8 dc8 pm8 cd8 ct8 oc9 kV9 dc9 pm9 cd9 ct9 oc10 kV10 dc10 pm10 cd10 ct10 oc11 kV11 dc11 pm11 cd11 ct11 oc12 kV12 dc12 pm12 cd12 ct12 oc13 kV13 dc13 pm13 cd13 ct13 oc14 kV14 dc14 pm14 cd14 ct14 oc15 kV15 dc15 pm15 cd15 ct15 oc16 kV16 dc16 pm16 cd16 ct16 oc17 kV17 dc17 pm17 cd17 ct17 oc18 kV18 dc18 pm18 cd18 ct18 oc19 kV19 dc19 pm19 cd19 ct19 oc20 kV20 dc20 pm20 cd20 ct20 oc21 kV21 dc21 pm21 cd21 ct21 oc22 kV22 dc22 pm22 cd22 ct22 oc23 kV23 dc23 pm23 cd23 ct23 oc24 kV24 dc24 pm24 cd24 ct24 oc25 kV25 dc25 pm25 cd25 ct25 oc26 kV26 dc26 pm26 cd26 ct26 : Value}
    (a0 : PySem.W.nsIn K mainGlobals "contrary" = some (some (.ref f0)))
    (l0 : K.lookup f0 = some ⟨oc0, od0, .func (PySem.W.fnOf "contrary" "contrary" (defArgs s_contrary) (defBody s_contrary) (defScope s_contrary) .none kV0 dc0 pm0 an0 cd0 ct0), sl0⟩)
    (c0 : PySem.W.codeIn K cd0 "contrary" = true)
    (k0 : PySem.W.keepIn K (.ref f0) = true)
    (a1 : PySem.W.nsIn K mainGlobals "bands" = some (some (.ref f1)))
    (l1 : K.lookup f1 = some ⟨oc1, od1, .func (PySem.W.fnOf "bands" "bands" (defArgs s_bands) (defBody s_bands) (defScope s_bands) .none kV1 dc1 pm1 an1 cd1 ct1), sl1⟩)
    (c1 : PySem.W.codeIn K cd1 "bands" = true)
    (k1 : PySem.W.keepIn K (.ref f1) = true)
    (a2 : PySem.W.nsIn K mainGlobals "steps_round" = some (some (.ref f2)))
    (l2 : K.lookup f2 = some ⟨oc2, od2, .func (PySem.W.fnOf "steps_round" "steps_round" (defArgs s_steps_round) (defBody s_steps_round) (defScope s_steps_round) .none kV2 dc2 pm2 an2 cd2 ct2), sl2⟩)
    (c2 : PySem.W.codeIn K cd2 "steps_round" = true)
    (k2 : PySem.W.keepIn K (.ref f2) = true)
    (a3 : PySem.W.nsIn K mainGlobals "goes_round" = some (some (.ref f3)))
    (l3 : K.lookup f3 = some ⟨oc3, od3, .func (PySem.W.fnOf "goes_round" "goes_round" (defArgs s_goes_round) (defBody s_goes_round) (defScope s_goes_round) .none kV3 dc3 pm3 an3 cd3 ct3), sl3⟩)
    (c3 : PySem.W.codeIn K cd3 "goes_round" = true)
    (k3 : PySem.W.keepIn K (.ref f3) = true)
    (a4 : PySem.W.nsIn K mainGlobals "net" = some (some (.ref f4)))
    (l4 : K.lookup f4 = some ⟨oc4, od4, .func (PySem.W.fnOf "net" "net" (defArgs s_net) (defBody s_net) (defScope s_net) .none kV4 dc4 pm4 an4 cd4 ct4), sl4⟩)
    (c4 : PySem.W.codeIn K cd4 "net" = true)
    (k4 : PySem.W.keepIn K (.ref f4) = true)
    (a5 : PySem.W.nsIn K mainGlobals "crosses" = some (some (.ref f5)))
    (l5 : K.lookup f5 = some ⟨oc5, od5, .func (PySem.W.fnOf "crosses" "crosses" (defArgs s_crosses) (defBody s_crosses) (defScope s_crosses) .none kV5 dc5 pm5 an5 cd5 ct5), sl5⟩)
    (c5 : PySem.W.codeIn K cd5 "crosses" = true)
    (k5 : PySem.W.keepIn K (.ref f5) = true)
    (a6 : PySem.W.nsIn K mainGlobals "table_row" = some (some (.ref f6)))
    (l6 : K.lookup f6 = some ⟨oc6, od6, .func (PySem.W.fnOf "table_row" "table_row" (defArgs s_table_row) (defBody s_table_row) (defScope s_table_row) .none kV6 dc6 pm6 an6 cd6 ct6), sl6⟩)
    (c6 : PySem.W.codeIn K cd6 "table_row" = true)
    (k6 : PySem.W.keepIn K (.ref f6) = true)
    (a7 : PySem.W.nsIn K mainGlobals "table" = some (some (.ref f7)))
    (l7 : K.lookup f7 = some ⟨oc7, od7, .func (PySem.W.fnOf "table" "table" (defArgs s_table) (defBody s_table) (defScope s_table) .none kV7 dc7 pm7 an7 cd7 ct7), sl7⟩)
    (c7 : PySem.W.codeIn K cd7 "table" = true)
    (k7 : PySem.W.keepIn K (.ref f7) = true)
    (a8 : PySem.W.nsIn K mainGlobals "crossed" = some (some (.ref f8)))
    (l8 : K.lookup f8 = some ⟨oc8, od8, .func (PySem.W.fnOf "crossed" "crossed" (defArgs s_crossed) (defBody s_crossed) (defScope s_crossed) .none kV8 dc8 pm8 an8 cd8 ct8), sl8⟩)
    (c8 : PySem.W.codeIn K cd8 "crossed" = true)
    (k8 : PySem.W.keepIn K (.ref f8) = true)
    (a9 : PySem.W.nsIn K mainGlobals "row_with" = some (some (.ref f9)))
    (l9 : K.lookup f9 = some ⟨oc9, od9, .func (PySem.W.fnOf "row_with" "row_with" (defArgs s_row_with) (defBody s_row_with) (defScope s_row_with) .none kV9 dc9 pm9 an9 cd9 ct9), sl9⟩)
    (c9 : PySem.W.codeIn K cd9 "row_with" = true)
    (k9 : PySem.W.keepIn K (.ref f9) = true)
    (a10 : PySem.W.nsIn K mainGlobals "cleared" = some (some (.ref f10)))
    (l10 : K.lookup f10 = some ⟨oc10, od10, .func (PySem.W.fnOf "cleared" "cleared" (defArgs s_cleared) (defBody s_cleared) (defScope s_cleared) .none kV10 dc10 pm10 an10 cd10 ct10), sl10⟩)
    (c10 : PySem.W.codeIn K cd10 "cleared" = true)
    (k10 : PySem.W.keepIn K (.ref f10) = true)
    (a11 : PySem.W.nsIn K mainGlobals "rank" = some (some (.ref f11)))
    (l11 : K.lookup f11 = some ⟨oc11, od11, .func (PySem.W.fnOf "rank" "rank" (defArgs s_rank) (defBody s_rank) (defScope s_rank) .none kV11 dc11 pm11 an11 cd11 ct11), sl11⟩)
    (c11 : PySem.W.codeIn K cd11 "rank" = true)
    (k11 : PySem.W.keepIn K (.ref f11) = true)
    (a12 : PySem.W.nsIn K mainGlobals "shortened" = some (some (.ref f12)))
    (l12 : K.lookup f12 = some ⟨oc12, od12, .func (PySem.W.fnOf "shortened" "shortened" (defArgs s_shortened) (defBody s_shortened) (defScope s_shortened) .none kV12 dc12 pm12 an12 cd12 ct12), sl12⟩)
    (c12 : PySem.W.codeIn K cd12 "shortened" = true)
    (k12 : PySem.W.keepIn K (.ref f12) = true)
    (a13 : PySem.W.nsIn K mainGlobals "shortest" = some (some (.ref f13)))
    (l13 : K.lookup f13 = some ⟨oc13, od13, .func (PySem.W.fnOf "shortest" "shortest" (defArgs s_shortest) (defBody s_shortest) (defScope s_shortest) .none kV13 dc13 pm13 an13 cd13 ct13), sl13⟩)
    (c13 : PySem.W.codeIn K cd13 "shortest" = true)
    (k13 : PySem.W.keepIn K (.ref f13) = true)
    (a14 : PySem.W.nsIn K mainGlobals "ring" = some (some (.ref f14)))
    (l14 : K.lookup f14 = some ⟨oc14, od14, .func (PySem.W.fnOf "ring" "ring" (defArgs s_ring) (defBody s_ring) (defScope s_ring) .none kV14 dc14 pm14 an14 cd14 ct14), sl14⟩)
    (c14 : PySem.W.codeIn K cd14 "ring" = true)
    (k14 : PySem.W.keepIn K (.ref f14) = true)
    (a15 : PySem.W.nsIn K mainGlobals "next_end" = some (some (.ref f15)))
    (l15 : K.lookup f15 = some ⟨oc15, od15, .func (PySem.W.fnOf "next_end" "next_end" (defArgs s_next_end) (defBody s_next_end) (defScope s_next_end) .none kV15 dc15 pm15 an15 cd15 ct15), sl15⟩)
    (c15 : PySem.W.codeIn K cd15 "next_end" = true)
    (k15 : PySem.W.keepIn K (.ref f15) = true)
    (a16 : PySem.W.nsIn K mainGlobals "rim_behind" = some (some (.ref f16)))
    (l16 : K.lookup f16 = some ⟨oc16, od16, .func (PySem.W.fnOf "rim_behind" "rim_behind" (defArgs s_rim_behind) (defBody s_rim_behind) (defScope s_rim_behind) .none kV16 dc16 pm16 an16 cd16 ct16), sl16⟩)
    (c16 : PySem.W.codeIn K cd16 "rim_behind" = true)
    (k16 : PySem.W.keepIn K (.ref f16) = true)
    (a17 : PySem.W.nsIn K mainGlobals "rims" = some (some (.ref f17)))
    (l17 : K.lookup f17 = some ⟨oc17, od17, .func (PySem.W.fnOf "rims" "rims" (defArgs s_rims) (defBody s_rims) (defScope s_rims) .none kV17 dc17 pm17 an17 cd17 ct17), sl17⟩)
    (c17 : PySem.W.codeIn K cd17 "rims" = true)
    (k17 : PySem.W.keepIn K (.ref f17) = true)
    (a18 : PySem.W.nsIn K mainGlobals "handles" = some (some (.ref f18)))
    (l18 : K.lookup f18 = some ⟨oc18, od18, .func (PySem.W.fnOf "handles" "handles" (defArgs s_handles) (defBody s_handles) (defScope s_handles) .none kV18 dc18 pm18 an18 cd18 ct18), sl18⟩)
    (c18 : PySem.W.codeIn K cd18 "handles" = true)
    (k18 : PySem.W.keepIn K (.ref f18) = true)
    (a19 : PySem.W.nsIn K mainGlobals "_law_box" = some (some (.ref f19)))
    (l19 : K.lookup f19 = some ⟨oc19, od19, .func (PySem.W.fnOf "_law_box" "_law_box" (defArgs s_Lbox) (defBody s_Lbox) (defScope s_Lbox) .none kV19 dc19 pm19 an19 cd19 ct19), sl19⟩)
    (c19 : PySem.W.codeIn K cd19 "_law_box" = true)
    (k19 : PySem.W.keepIn K (.ref f19) = true)
    (a20 : PySem.W.nsIn K mainGlobals "_law_take" = some (some (.ref f20)))
    (l20 : K.lookup f20 = some ⟨oc20, od20, .func (PySem.W.fnOf "_law_take" "_law_take" (defArgs s_Ltake) (defBody s_Ltake) (defScope s_Ltake) .none kV20 dc20 pm20 an20 cd20 ct20), sl20⟩)
    (c20 : PySem.W.codeIn K cd20 "_law_take" = true)
    (k20 : PySem.W.keepIn K (.ref f20) = true)
    (a21 : PySem.W.nsIn K mainGlobals "_law_other" = some (some (.ref f21)))
    (l21 : K.lookup f21 = some ⟨oc21, od21, .func (PySem.W.fnOf "_law_other" "_law_other" (defArgs s_Lother) (defBody s_Lother) (defScope s_Lother) .none kV21 dc21 pm21 an21 cd21 ct21), sl21⟩)
    (c21 : PySem.W.codeIn K cd21 "_law_other" = true)
    (k21 : PySem.W.keepIn K (.ref f21) = true)
    (a22 : PySem.W.nsIn K mainGlobals "_law_yard" = some (some (.ref f22)))
    (l22 : K.lookup f22 = some ⟨oc22, od22, .func (PySem.W.fnOf "_law_yard" "_law_yard" (defArgs s_Lyard) (defBody s_Lyard) (defScope s_Lyard) .none kV22 dc22 pm22 an22 cd22 ct22), sl22⟩)
    (c22 : PySem.W.codeIn K cd22 "_law_yard" = true)
    (k22 : PySem.W.keepIn K (.ref f22) = true)
    (a23 : PySem.W.nsIn K mainGlobals "_law_word" = some (some (.ref f23)))
    (l23 : K.lookup f23 = some ⟨oc23, od23, .func (PySem.W.fnOf "_law_word" "_law_word" (defArgs s_Lword) (defBody s_Lword) (defScope s_Lword) .none kV23 dc23 pm23 an23 cd23 ct23), sl23⟩)
    (c23 : PySem.W.codeIn K cd23 "_law_word" = true)
    (k23 : PySem.W.keepIn K (.ref f23) = true)
    (a24 : PySem.W.nsIn K mainGlobals "_law_left" = some (some (.ref f24)))
    (l24 : K.lookup f24 = some ⟨oc24, od24, .func (PySem.W.fnOf "_law_left" "_law_left" (defArgs s_Lleft) (defBody s_Lleft) (defScope s_Lleft) .none kV24 dc24 pm24 an24 cd24 ct24), sl24⟩)
    (c24 : PySem.W.codeIn K cd24 "_law_left" = true)
    (k24 : PySem.W.keepIn K (.ref f24) = true)
    (a25 : PySem.W.nsIn K mainGlobals "_law_right" = some (some (.ref f25)))
    (l25 : K.lookup f25 = some ⟨oc25, od25, .func (PySem.W.fnOf "_law_right" "_law_right" (defArgs s_Lright) (defBody s_Lright) (defScope s_Lright) .none kV25 dc25 pm25 an25 cd25 ct25), sl25⟩)
    (c25 : PySem.W.codeIn K cd25 "_law_right" = true)
    (k25 : PySem.W.keepIn K (.ref f25) = true)
    (a26 : PySem.W.nsIn K mainGlobals "law" = some (some (.ref f26)))
    (l26 : K.lookup f26 = some ⟨oc26, od26, .func (PySem.W.fnOf "law" "law" (defArgs s_law) (defBody s_law) (defScope s_law) .none kV26 dc26 pm26 an26 cd26 ct26), sl26⟩)
    (c26 : PySem.W.codeIn K cd26 "law" = true)
    (k26 : PySem.W.keepIn K (.ref f26) = true)
    (z_all : PySem.W.nsIn K mainGlobals "all" = some none)
    (z_bool : PySem.W.nsIn K mainGlobals "bool" = some none)
    (z_enumerate : PySem.W.nsIn K mainGlobals "enumerate" = some none)
    (z_int : PySem.W.nsIn K mainGlobals "int" = some none)
    (z_isinstance : PySem.W.nsIn K mainGlobals "isinstance" = some none)
    (z_len : PySem.W.nsIn K mainGlobals "len" = some none)
    (z_list : PySem.W.nsIn K mainGlobals "list" = some none)
    (z_range : PySem.W.nsIn K mainGlobals "range" = some none)
    (z_sorted : PySem.W.nsIn K mainGlobals "sorted" = some none)
    (z_sum : PySem.W.nsIn K mainGlobals "sum" = some none)
    (z_tuple : PySem.W.nsIn K mainGlobals "tuple" = some none)
    (z_zip : PySem.W.nsIn K mainGlobals "zip" = some none) :
    ∃ fd : FuncData, (∀ (s : Shared) (v : Value), BindsTo s fd ⟨[v], []⟩ [("_law_script", v)]) ∧ ∀ base : Heap, K.In base → base.Ns mainGlobals mg → FnOk l.prog w K mg base CX0 8 fa fd ["_law_script"] (sp_law K) := by
  have e := hfa.symm.trans (PySem.W.mg_of X G a26)
  cases e
  have F0 := fun_mk (st := s_contrary) l0 c0 k0
  have b0 := F0.binds (ps := ["letter"]) fun _ _ _ _ _ _ us hl => match us, hl with | [_], _ => rfl
  have F1 := fun_mk (st := s_bands) l1 c1 k1
  have b1 := F1.binds (ps := ["yard"]) fun _ _ _ _ _ _ us hl => match us, hl with | [_], _ => rfl
  have F2 := fun_mk (st := s_steps_round) l2 c2 k2
  have b2 := F2.binds (ps := ["yard", "start", "end"]) fun _ _ _ _ _ _ us hl => match us, hl with | [_, _, _], _ => rfl
  have F3 := fun_mk (st := s_goes_round) l3 c3 k3
  have b3 := F3.binds (ps := ["yard", "x", "y", "z"]) fun _ _ _ _ _ _ us hl => match us, hl with | [_, _, _, _], _ => rfl
  have F4 := fun_mk (st := s_net) l4 c4 k4
  have b4 := F4.binds (ps := ["yard", "word"]) fun _ _ _ _ _ _ us hl => match us, hl with | [_, _], _ => rfl
  have F5 := fun_mk (st := s_crosses) l5 c5 k5
  have b5 := F5.binds (ps := ["yard", "band", "other"]) fun _ _ _ _ _ _ us hl => match us, hl with | [_, _, _], _ => rfl
  have F6 := fun_mk (st := s_table_row) l6 c6 k6
  have b6 := F6.binds (ps := ["yard", "band"]) fun _ _ _ _ _ _ us hl => match us, hl with | [_, _], _ => rfl
  have F7 := fun_mk (st := s_table) l7 c7 k7
  have b7 := F7.binds (ps := ["yard"]) fun _ _ _ _ _ _ us hl => match us, hl with | [_], _ => rfl
  have F8 := fun_mk (st := s_crossed) l8 c8 k8
  have b8 := F8.binds (ps := ["yard", "one", "other"]) fun _ _ _ _ _ _ us hl => match us, hl with | [_, _, _], _ => rfl
  have F9 := fun_mk (st := s_row_with) l9 c9 k9
  have b9 := F9.binds (ps := ["rows", "column"]) fun _ _ _ _ _ _ us hl => match us, hl with | [_, _], _ => rfl
  have F10 := fun_mk (st := s_cleared) l10 c10 k10
  have b10 := F10.binds (ps := ["row", "by", "column"]) fun _ _ _ _ _ _ us hl => match us, hl with | [_, _, _], _ => rfl
  have F11 := fun_mk (st := s_rank) l11 c11 k11
  have b11 := F11.binds (ps := ["yard"]) fun _ _ _ _ _ _ us hl => match us, hl with | [_], _ => rfl
  have F12 := fun_mk (st := s_shortened) l12 c12 k12
  have b12 := F12.binds (ps := ["word"]) fun _ _ _ _ _ _ us hl => match us, hl with | [_], _ => rfl
  have F13 := fun_mk (st := s_shortest) l13 c13 k13
  have b13 := F13.binds (ps := ["word"]) fun _ _ _ _ _ _ us hl => match us, hl with | [_], _ => rfl
  have F14 := fun_mk (st := s_ring) l14 c14 k14
  have b14 := F14.binds (ps := ["word"]) fun _ _ _ _ _ _ us hl => match us, hl with | [_], _ => rfl
  have F15 := fun_mk (st := s_next_end) l15 c15 k15
  have b15 := F15.binds (ps := ["yard", "end"]) fun _ _ _ _ _ _ us hl => match us, hl with | [_, _], _ => rfl
  have F16 := fun_mk (st := s_rim_behind) l16 c16 k16
  have b16 := F16.binds (ps := ["yard", "start"]) fun _ _ _ _ _ _ us hl => match us, hl with | [_, _], _ => rfl
  have F17 := fun_mk (st := s_rims) l17 c17 k17
  have b17 := F17.binds (ps := ["yard"]) fun _ _ _ _ _ _ us hl => match us, hl with | [_], _ => rfl
  have F18 := fun_mk (st := s_handles) l18 c18 k18
  have b18 := F18.binds (ps := ["yard"]) fun _ _ _ _ _ _ us hl => match us, hl with | [_], _ => rfl
  have F19 := fun_mk (st := s_Lbox) l19 c19 k19
  have b19 := F19.binds (ps := ["_law_script", "_law_k"]) fun _ _ _ _ _ _ us hl => match us, hl with | [_, _], _ => rfl
  have F20 := fun_mk (st := s_Ltake) l20 c20 k20
  have b20 := F20.binds (ps := ["_law_box_here", "_law_many"]) fun _ _ _ _ _ _ us hl => match us, hl with | [_, _], _ => rfl
  have F21 := fun_mk (st := s_Lother) l21 c21 k21
  have b21 := F21.binds (ps := ["_law_letter"]) fun _ _ _ _ _ _ us hl => match us, hl with | [_], _ => rfl
  have F22 := fun_mk (st := s_Lyard) l22 c22 k22
  have b22 := F22.binds (ps := ["_law_box_here", "_law_few", "_law_top"]) fun _ _ _ _ _ _ us hl => match us, hl with | [_, _, _], _ => rfl
  have F23 := fun_mk (st := s_Lword) l23 c23 k23
  have b23 := F23.binds (ps := ["_law_box_here", "_law_yard_here", "_law_top"]) fun _ _ _ _ _ _ us hl => match us, hl with | [_, _, _], _ => rfl
  have F24 := fun_mk (st := s_Lleft) l24 c24 k24
  have b24 := F24.binds (ps := ["_law_rows"]) fun _ _ _ _ _ _ us hl => match us, hl with | [_], _ => rfl
  have F25 := fun_mk (st := s_Lright) l25 c25 k25
  have b25 := F25.binds (ps := ["_law_yard_here", "_law_words"]) fun _ _ _ _ _ _ us hl => match us, hl with | [_, _], _ => rfl
  have F26 := fun_mk (st := s_law) l26 c26 k26
  have b26 := F26.binds (ps := ["_law_script"]) fun _ _ _ _ _ _ us hl => match us, hl with | [_], _ => rfl
  have T : Txt K mg _ _ _ _ _ _ _ _ _ _ _ _ _ _ _ _ _ _ _ _ _ _ _ _ _ _ _ _ _ _ _ _ _ _ _ _ _ _ _ _ _ _ _ _ _ _ _ _ _ _ _ _ _ _ := ⟨⟨F0, PySem.W.mg_of X G a0, b0⟩, ⟨F1, PySem.W.mg_of X G a1, b1⟩, ⟨F2, PySem.W.mg_of X G a2, b2⟩, ⟨F3, PySem.W.mg_of X G a3, b3⟩, ⟨F4, PySem.W.mg_of X G a4, b4⟩, ⟨F5, PySem.W.mg_of X G a5, b5⟩, ⟨F6, PySem.W.mg_of X G a6, b6⟩, ⟨F7, PySem.W.mg_of X G a7, b7⟩, ⟨F8, PySem.W.mg_of X G a8, b8⟩, ⟨F9, PySem.W.mg_of X G a9, b9⟩, ⟨F10, PySem.W.mg_of X G a10, b10⟩, ⟨F11, PySem.W.mg_of X G a11, b11⟩, ⟨F12, PySem.W.mg_of X G a12, b12⟩, ⟨F13, PySem.W.mg_of X G a13, b13⟩, ⟨F14, PySem.W.mg_of X G a14, b14⟩, ⟨F15, PySem.W.mg_of X G a15, b15⟩, ⟨F16, PySem.W.mg_of X G a16, b16⟩, ⟨F17, PySem.W.mg_of X G a17, b17⟩, ⟨F18, PySem.W.mg_of X G a18, b18⟩, ⟨F19, PySem.W.mg_of X G a19, b19⟩, ⟨F20, PySem.W.mg_of X G a20, b20⟩, ⟨F21, PySem.W.mg_of X G a21, b21⟩, ⟨F22, PySem.W.mg_of X G a22, b22⟩, ⟨F23, PySem.W.mg_of X G a23, b23⟩, ⟨F24, PySem.W.mg_of X G a24, b24⟩, ⟨F25, PySem.W.mg_of X G a25, b25⟩, ⟨F26, PySem.W.mg_of X G a26, b26⟩, PySem.W.mg_none_of X G z_all, PySem.W.mg_none_of X G z_bool, PySem.W.mg_none_of X G z_enumerate, PySem.W.mg_none_of X G z_int, PySem.W.mg_none_of X G z_isinstance, PySem.W.mg_none_of X G z_len, PySem.W.mg_none_of X G z_list, PySem.W.mg_none_of X G z_range, PySem.W.mg_none_of X G z_sorted, PySem.W.mg_none_of X G z_sum, PySem.W.mg_none_of X G z_tuple, PySem.W.mg_none_of X G z_zip⟩
  exact ⟨_, fun s v => .of_eq rfl, fun base _ _ => ok_law T⟩
theorem walk {l : PySem.W.OpenLaw} {q : Program} {loose : List Str} {XP : (Str → Option Value) → Heap → Prop} {YP : World → Heap → Prop} {d : DefRec} {K : Params → PySem.W.Frag} (hn : l.most = some 63) (hdf : d.params.defaults = [])
    (hY : ∀ (w : World) (h : Heap), YP w h → (K w.params).In h)
    (F : ∀ (w : World) (mg : Str → Option Value) (fa : Addr) (h : Heap), (K w.params).In h → h.Ns mainGlobals mg → mg d.name = some (.ref fa) →
      ∃ fd : FuncData, (∀ (s : Shared) (u : Value), BindsTo s fd ⟨[u], []⟩ [("_law_script", u)]) ∧ ∀ base : Heap, (K w.params).In base → base.Ns mainGlobals mg → FnOk l.prog w (K w.params) mg base CX0 8 fa fd ["_law_script"] (sp_law (K w.params))) :
    PySem.W.WalkO q loose XP YP l.row.toRowW d [] (fun f vs => PySem.call f vs) :=
  L2.walk_of (n := 63) (k := 8) (x := "_law_script") (CX := fun _ => CX0) (sp := fun w => sp_law (K w.params)) hn (by decide) hdf ⟨rfl, by decide, by decide, rfl⟩ hY F (fun _ _ a ns hl _ hS => ⟨a, ns, rfl, hS, hl, fun _ => rfl⟩) fun _ _ _ _ _ z => z
end My
open PySem PySem.W PyProof.Rows
set_option maxRecDepth 100000 in
set_option maxHeartbeats 0 in
theorem PySem.Challenge.cw_mustmeet_k85_whole_rank_and_handles_holds : PySem.Challenge.rw_mustmeet_k85_whole_rank_and_handles.Holds := by
  w_on; o_law; k_head; (case hw => w_witness2)
  k_fill
  refine My.walk (l := PySem.Challenge.rw_mustmeet_k85_whole_rank_and_handles) rfl rfl (fun w h Y => PySem.W.kIn_of Y) ?F
  case F =>
    intro w mg fa h KX G hmg
    refine' My.all_mk KX G hmg ?a0 ?l0 ?c0 ?k0 ?a1 ?l1 ?c1 ?k1 ?a2 ?l2 ?c2 ?k2 ?a3 ?l3 ?c3 ?k3 ?a4 ?l4 ?c4 ?k4 ?a5 ?l5 ?c5 ?k5 ?a6 ?l6 ?c6 ?k6 ?a7 ?l7 ?c7 ?k7 ?a8 ?l8 ?c8 ?k8 ?a9 ?l9 ?c9 ?k9 ?a10 ?l10 ?c10 ?k10 ?a11 ?l11 ?c11 ?k11 ?a12 ?l12 ?c12 ?k12 ?a13 ?l13 ?c13 ?k13 ?a14 ?l14 ?c14 ?k14 ?a15 ?l15 ?c15 ?k15 ?a16 ?l16 ?c16 ?k16 ?a17 ?l17 ?c17 ?k17 ?a18 ?l18 ?c18 ?k18 ?a19 ?l19 ?c19 ?k19 ?a20 ?l20 ?c20 ?k20 ?a21 ?l21 ?c21 ?k21 ?a22 ?l22 ?c22 ?k22 ?a23 ?l23 ?c23 ?k23 ?a24 ?l24 ?c24 ?k24 ?a25 ?l25 ?c25 ?k25 ?a26 ?l26 ?c26 ?k26 ?z_all ?z_bool ?z_enumerate ?z_int ?z_isinstance ?z_len ?z_list ?z_range ?z_sorted ?z_sum ?z_tuple ?z_zip
    (case a0 => k_is)
    (case l0 => k_is)
    (case c0 => k_is)
    (case k0 => k_is)
    (case a1 => k_is)
    (case l1 => k_is)
    (case c1 => k_is)
    (case k1 => k_is)
    (case a2 => k_is)
    (case l2 => k_is)
    (case c2 => k_is)
    (case k2 => k_is)
    (case a3 => k_is)
    (case l3 => k_is)
    (case c3 => k_is)
    (case k3 => k_is)
    (case a4 => k_is)
    (case l4 => k_is)
    (case c4 => k_is)
    (case k4 => k_is)
    (case a5 => k_is)
    (case l5 => k_is)
    (case c5 => k_is)
    (case k5 => k_is)
    (case a6 => k_is)
    (case l6 => k_is)
    (case c6 => k_is)
    (case k6 => k_is)
    (case a7 => k_is)
    (case l7 => k_is)
    (case c7 => k_is)
    (case k7 => k_is)
    (case a8 => k_is)
    (case l8 => k_is)
    (case c8 => k_is)
    (case k8 => k_is)
    (case a9 => k_is)
    (case l9 => k_is)
    (case c9 => k_is)
    (case k9 => k_is)
    (case a10 => k_is)
    (case l10 => k_is)
    (case c10 => k_is)
    (case k10 => k_is)
    (case a11 => k_is)
    (case l11 => k_is)
    (case c11 => k_is)
    (case k11 => k_is)
    (case a12 => k_is)
    (case l12 => k_is)
    (case c12 => k_is)
    (case k12 => k_is)
    (case a13 => k_is)
    (case l13 => k_is)
    (case c13 => k_is)
    (case k13 => k_is)
    (case a14 => k_is)
    (case l14 => k_is)
    (case c14 => k_is)
    (case k14 => k_is)
    (case a15 => k_is)
    (case l15 => k_is)
    (case c15 => k_is)
    (case k15 => k_is)
    (case a16 => k_is)
    (case l16 => k_is)
    (case c16 => k_is)
    (case k16 => k_is)
    (case a17 => k_is)
    (case l17 => k_is)
    (case c17 => k_is)
    (case k17 => k_is)
    (case a18 => k_is)
    (case l18 => k_is)
    (case c18 => k_is)
    (case k18 => k_is)
    (case a19 => k_is)
    (case l19 => k_is)
    (case c19 => k_is)
    (case k19 => k_is)
    (case a20 => k_is)
    (case l20 => k_is)
    (case c20 => k_is)
    (case k20 => k_is)
    (case a21 => k_is)
    (case l21 => k_is)
    (case c21 => k_is)
    (case k21 => k_is)
    (case a22 => k_is)
    (case l22 => k_is)
    (case c22 => k_is)
    (case k22 => k_is)
    (case a23 => k_is)
    (case l23 => k_is)
    (case c23 => k_is)
    (case k23 => k_is)
    (case a24 => k_is)
    (case l24 => k_is)
    (case c24 => k_is)
    (case k24 => k_is)
    (case a25 => k_is)
    (case l25 => k_is)
    (case c25 => k_is)
    (case k25 => k_is)
    (case a26 => k_is)
    (case l26 => k_is)
    (case c26 => k_is)
    (case k26 => k_is)
    (case z_all => k_is)
    (case z_bool => k_is)
    (case z_enumerate => k_is)
    (case z_int => k_is)
    (case z_isinstance => k_is)
    (case z_len => k_is)
    (case z_list => k_is)
    (case z_range => k_is)
    (case z_sorted => k_is)
    (case z_sum => k_is)
    (case z_tuple => k_is)
    (case z_zip => k_is)
