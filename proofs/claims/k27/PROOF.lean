import PyProof.Rows.All
import Wide.All
import OpenK.AllK
import Wide.FinOn
import Lean
import PyProof.EqAt
import PyProof.EqKinds
import PyProof.TupleCall
import PySem.Challenge.RW_mustmeet_k27_what_is_forced
set_option Elab.async false
set_option linter.all false
set_option maxRecDepth 100000
/-! THE HAND LAYER, for ints, bools, texts, own classes, LISTS and tuples (index, slices, in, append, pop ..), calls, loops. Paste it whole ahead of your own text; what your proof does not reach may be deleted. -/
namespace L2
open PySem PySem.Spec PyProof.Rows

/-- a key: an int or a str -/
abbrev Key := Sum Int Str
def keyIs : Key → Value → Bool
  | .inl k, v => Value.isInt k v
  | .inr x, v => Value.isStrOf x v
def keyH (w : World) : Key → Int
  | .inl k => hashInt k
  | .inr x => hashStr w x
theorem keyIs_shape : ∀ {k : Key} {v : Value}, keyIs k v = true → (∃ i t, k = Sum.inl i ∧ v = Value.int i t) ∨ (∃ x t, k = Sum.inr x ∧ v = Value.str x t)
  | .inl i, v, h => by
    obtain ⟨t, e⟩ := Value.isInt_shape (k := i) (v := v) h
    exact .inl ⟨i, t, rfl, e⟩
  | .inr x, v, h => by
    obtain ⟨t, e⟩ := Value.isStrOf_shape (x := x) (v := v) h
    exact .inr ⟨x, t, rfl, e⟩
theorem key_ll (a b : Int) : decide ((Sum.inl a : Key) = Sum.inl b) = (a == b) := by
  by_cases e : a = b
  · subst e; simp
  · have h : ¬ (Sum.inl a : Key) = Sum.inl b := fun q => e (Sum.inl.inj q)
    rw [decide_eq_false h]
    exact (beq_eq_false_iff_ne.mpr e).symm
theorem key_rr (a b : Str) : decide ((Sum.inr a : Key) = Sum.inr b) = decide (a = b) := by
  by_cases e : a = b
  · subst e; simp
  · have h : ¬ (Sum.inr a : Key) = Sum.inr b := fun q => e (Sum.inr.inj q)
    rw [decide_eq_false h, decide_eq_false e]
theorem key_lr (a : Int) (b : Str) : decide ((Sum.inl a : Key) = Sum.inr b) = false := decide_eq_false (fun q => nomatch q)
theorem key_rl (a : Str) (b : Int) : decide ((Sum.inr a : Key) = Sum.inl b) = false := decide_eq_false (fun q => nomatch q)

def mixKind (prog : Program) (w : World) : PySem.KeyKind prog w Key where
  is := keyIs
  hash := keyH w
  inj := fun v a b ha hb => by
    rcases keyIs_shape ha with ⟨i, t, rfl, rfl⟩ | ⟨x, t, rfl, rfl⟩
    · rcases keyIs_shape hb with ⟨j, u, rfl, e⟩ | ⟨y, u, rfl, e⟩
      · injection e with e1 _; rw [e1]
      · exact nomatch e
    · rcases keyIs_shape hb with ⟨j, u, rfl, e⟩ | ⟨y, u, rfl, e⟩
      · exact nomatch e
      · injection e with e1 _; rw [e1]
  byValue := fun k v h => by
    rcases keyIs_shape h with ⟨i, t, rfl, rfl⟩ | ⟨x, t, rfl, rfl⟩ <;> rfl
  pyHash := fun hv h => by
    rcases keyIs_shape hv with ⟨i, t, rfl, rfl⟩ | ⟨x, t, rfl, rfl⟩
    · exact wpAny_pyHash_int h
    · exact wpAny_pyHash_str h
  eqBool := fun hu hv h => by
    rcases keyIs_shape hu with ⟨i, t, rfl, rfl⟩ | ⟨x, t, rfl, rfl⟩
    · rcases keyIs_shape hv with ⟨j, u, rfl, rfl⟩ | ⟨y, u, rfl, rfl⟩
      · rw [key_ll] at h; exact wpAny_eqBool_int h
      · rw [key_lr] at h; exact SeqAt.EqAt.int_str i t y u _ _ _ _ h
    · rcases keyIs_shape hv with ⟨j, u, rfl, rfl⟩ | ⟨y, u, rfl, rfl⟩
      · rw [key_rl] at h; exact SeqAt.EqAt.str_int x t j u _ _ _ _ h
      · rw [key_rr] at h; exact wpAny_eqBool_str h
  «strs» := fun k x t v h => by
    rcases keyIs_shape h with ⟨i, u, rfl, e⟩ | ⟨y, u, rfl, e⟩
    · exact nomatch e
    · injection e with e1 _
      subst e1
      cases v <;> rfl

end L2

namespace L2
open PySem PySem.Spec PyProof.Rows

/-- a value, without the heap -/
inductive V where
  | non | bl (b : Bool) | int (i : Int) | str (x : Str) | byt (b : Array UInt8) | flt (b : UInt64) | ref (a : Addr) | ty (n : String)
  deriving DecidableEq

def RelV : V → Value → Prop
  | .non, u => u = Value.none
  | .bl b, u => u = Value.bool b
  | .int i, u => ∃ t, u = Value.int i t
  | .str x, u => ∃ t, u = Value.str x t
  | .byt b, u => ∃ t, u = Value.bytes b t
  | .flt b, u => ∃ t, u = Value.float b t
  | .ref a, u => u = Value.ref a
  | .ty n, u => u = Value.type n

abbrev Vals : List V → List Value → Prop := Paired RelV
theorem Vals.length {xs : List V} {us : List Value} (r : Vals xs us) : xs.length = us.length := Paired.length r
theorem Vals.get : ∀ {xs : List V} {us : List Value} {i : Nat} {x : V}, Vals xs us → xs[i]? = some x → ∃ u, us[i]? = some u ∧ RelV x u
  | _, _, _, _, .nil, e => by simp at e
  | _, _, 0, _, .cons r _, e => by simp at e; subst e; exact ⟨_, rfl, r⟩
  | _, _, i + 1, x, .cons _ t, e => by
    obtain ⟨u, h1, h2⟩ := Vals.get (i := i) (x := x) t (by simpa using e)
    exact ⟨u, by simpa using h1, h2⟩
theorem Vals.set {x : V} {u : Value} (r : RelV x u) : ∀ {xs : List V} {us : List Value} (i : Nat), Vals xs us → Vals (xs.set i x) (us.set i u)
  | _, _, _, .nil => .nil
  | _, _, 0, .cons _ t => .cons r t
  | _, _, i + 1, .cons q t => .cons q (Vals.set r i t)
theorem Vals.append : ∀ {xs ys : List V} {us ws : List Value}, Vals xs us → Vals ys ws → Vals (xs ++ ys) (us ++ ws)
  | _, _, _, _, .nil, s => s
  | _, _, _, _, .cons r t, s => .cons r (Vals.append t s)
theorem Vals.take : ∀ {xs : List V} {us : List Value} (n : Nat), Vals xs us → Vals (xs.take n) (us.take n)
  | _, _, 0, _ => .nil
  | _, _, _ + 1, .nil => .nil
  | _, _, n + 1, .cons r t => .cons r (Vals.take n t)
theorem Vals.drop : ∀ {xs : List V} {us : List Value} (n : Nat), Vals xs us → Vals (xs.drop n) (us.drop n)
  | _, _, 0, r => r
  | _, _, _ + 1, .nil => .nil
  | _, _, n + 1, .cons _ t => Vals.drop n t
def RelO : Option V → Option Value → Prop
  | some v, some u => RelV v u
  | none, none => True
  | _, _ => False
def KV {κ : Type} : List (κ × V) → List (κ × Value) → Prop := Paired fun (p : κ × V) (q : κ × Value) => p.1 = q.1 ∧ RelV p.2 q.2

/-- a key of a dict (00_mix): an int or a text -/
def kV : Key → V
  | .inl i => .int i
  | .inr x => .str x

/-- what stands at a tracked address -/
inductive HO where
  /-- a list -/
  | lst (xs : List V)
  /-- a tuple (never changes) -/
  | tup (xs : List V)
  /-- a dict whose keys are ints and texts; one whose keys are tuples of ints and texts (the empty one is both) -/
  | dK (kvs : List (Key × V)) | dT (kvs : List (List Key × V))
  /-- a set of ints: its members, its size -/
  | set (S : Int → Bool) (n : Nat)
  /-- an instance of the class at C, its dict at dx, its attributes -/
  | ins (C dx : Addr) (fs : List (Str × V))
  /-- the dict of the instance at x -/
  | own (x : Addr)
  /-- the dict of an exception -/
  | xd (fs : List (Str × V))
  /-- a bound method, f of x -/
  | met (f x : Addr)
  /-- a range object lo, lo + 1, .. below hi -/
  | rng (lo hi : Int)
  /-- a thing that is known to the object (the script; a dict while a loop walks it): read, never written while it is so -/
  | frz (o : Obj) (u : HO)
  /-- a code object's table -/
  | tbl (ps : Array Value)
  /-- any other thing, by what is true of its one object (a def of one's own: SetO a S n := HO.ext fun h => ..) -/
  | ext (φ : Heap → Prop)

abbrev Hp := Addr → Option HO
def upd (H : Hp) (a : Addr) (o : HO) : Hp := fun b => if b = a then some o else H b
theorem upd_same {H : Hp} {a : Addr} {o : HO} : upd H a o a = some o := by unfold upd; rw [if_pos rfl]
theorem upd_ne {H : Hp} {a b : Addr} {o : HO} (h : b ≠ a) : upd H a o b = H b := by unfold upd; rw [if_neg h]
theorem ne_of_none {H : Hp} {a b : Addr} {o : HO} (h : H a = some o) (h' : H b = none) : a ≠ b := by
  intro e; subst e; rw [h] at h'; cases h'

section
variable (P : Program) (w : World)
def ObjOk (H : Hp) (h : Heap) (a : Addr) : HO → Prop
  | .lst xs => xs.length ≤ sizeLine ∧ ∃ (its : List Value) (n : Nat), Vals xs its ∧ h.get? a = some { cls := .type "list", data := .seq its.toArray n }
  | .tup xs => xs.length ≤ sizeLine ∧ ∃ its : List Value, Vals xs its ∧ IsTup h a its.toArray
  | .dK kvs => kvs.length ≤ sizeLine ∧ (a == sysModules) = false ∧ ∃ vs, KV kvs vs ∧ h.DictOf (mixKind P w) a vs
  | .dT kvs => kvs.length ≤ sizeLine ∧ (a == sysModules) = false ∧ ∃ xs : List (List Key × Addr × Value),
      Paired (fun (p : List Key × V) (q : List Key × Addr × Value) => p.1 = q.1 ∧ H q.2.1 = some (.tup (p.1.map kV)) ∧ RelV p.2 q.2.2) kvs xs ∧
      ∃ o es ep, h.get? a = some o ∧ o.ExactDict ∧ o.data = .dict es ep ∧ es.toList = xs.map (entryOfKey (tupleKind (mixKind P w))) ∧ (xs.map (·.1)).Nodup
  | .set S n => h.SetOf (intKind P w) a S n
  | .ins C dx fs => H dx = some (.own a) ∧ fs.length ≤ 1000 ∧ dx ≠ a ∧ h.get? a = some (PySem.W.instObj C dx) ∧
      ∃ mA, h.Ns1 dx mA ∧ (∀ f, RelO (fs.lookup f) (mA f)) ∧ PySem.Within mA (fs.map (·.1))
  | .own _ => ∃ o, h.get? a = some o
  | .xd fs => ∃ mA, h.Ns1 a mA ∧ ∀ f, RelO (fs.lookup f) (mA f)
  | .rng lo hi => ∃ t u v, h.get? a = some { cls := .type "range", data := .fields #[.int lo t, .int hi u, .int 1 v] }
  | .frz o u => h.get? a = some o ∧ ObjOk H h a u
  | .tbl ps => h.get? a = some { cls := .none, data := .fields ps }
  | .met f x => h.get? a = some (PySem.W.methodObj (.ref f) (.ref x))
  | .ext φ => φ h ∧ (∃ o, h.get? a = some o) ∧ ∀ h1 h2 : Heap, φ h1 → (∀ o, h1.get? a = some o → h2.get? a = some o) → φ h2
/-- the abstract heap is held -/
def HOk (H : Hp) (h : Heap) : Prop := ∀ a o, H a = some o → ObjOk P w H h a o
end

section
variable {P : Program} {w : World} {H H' : Hp} {h h' : Heap} {a : Addr} {o : HO}
theorem ObjOk.lt (x : ObjOk P w H h a o) : a < h.objs.size := by
  cases o with
  | lst xs => obtain ⟨_, _, _, _, e⟩ := x; exact Heap.lt_size e
  | tup xs => obtain ⟨_, _, _, p⟩ := x; exact p.lt
  | dK kvs => obtain ⟨_, _, _, _, o, _, _, e, _⟩ := x; exact Heap.lt_size e
  | dT kvs => obtain ⟨_, _, _, _, o, _, _, e, _⟩ := x; exact Heap.lt_size e
  | set S n => obtain ⟨o, _, _, _, e, _⟩ := x; exact Heap.lt_size e
  | ins C dx fs => obtain ⟨_, _, _, e, _⟩ := x; exact Heap.lt_size e
  | own y => obtain ⟨_, e⟩ := x; exact Heap.lt_size e
  | xd fs => obtain ⟨_, ⟨_, _, _, e, _⟩, _⟩ := x; exact Heap.lt_size e
  | rng lo hi => obtain ⟨_, _, _, e⟩ := x; exact Heap.lt_size e
  | frz ob u => obtain ⟨e, _⟩ := x; exact Heap.lt_size e
  | tbl ps => exact Heap.lt_size (show h.get? a = some _ from x)
  | met f y => exact Heap.lt_size (show h.get? a = some _ from x)
  | ext φ => obtain ⟨_, ⟨_, e⟩, _⟩ := x; exact Heap.lt_size e
theorem Paired.mapP {α β : Type} {F G : α → β → Prop} : ∀ {l₁ : List α} {l₂ : List β}, Paired F l₁ l₂ → (∀ a b, F a b → G a b) → Paired G l₁ l₂
  | _, _, .nil, _ => .nil
  | _, _, .cons r t, f => .cons (f _ _ r) (Paired.mapP t f)
/-- what an object's description leans on: its own object, its own dict, the tuples -/
theorem ObjOk.stay (x : ObjOk P w H h a o) (k : ∀ b u, (b = a ∨ H b = some (.own a)) → h.get? b = some u → h'.get? b = some u)
    (ho : ∀ b, H b = some (.own a) → H' b = some (.own a)) (ht : ∀ b xs, H b = some (.tup xs) → H' b = some (.tup xs)) : ObjOk P w H' h' a o := by
  induction o with
  | lst xs => obtain ⟨z, its, n, r, e⟩ := x; exact ⟨z, its, n, r, k _ _ (.inl rfl) e⟩
  | tup xs => obtain ⟨z, its, r, ob, e, c⟩ := x; exact ⟨z, its, r, ob, k _ _ (.inl rfl) e, c⟩
  | dK kvs => obtain ⟨z, y, vs, r, ob, es, ep, e, c⟩ := x; exact ⟨z, y, vs, r, ob, es, ep, k _ _ (.inl rfl) e, c⟩
  | dT kvs =>
    obtain ⟨z, y, xs, r, ob, es, ep, e, c⟩ := x
    exact ⟨z, y, xs, Paired.mapP r fun p q z => ⟨z.1, ht _ _ z.2.1, z.2.2⟩, ob, es, ep, k _ _ (.inl rfl) e, c⟩
  | set S n => obtain ⟨ob, es, ep, t, e, c⟩ := x; exact ⟨ob, es, ep, t, k _ _ (.inl rfl) e, c⟩
  | ins C dx fs =>
    obtain ⟨d, z, ne, e, mA, ⟨od, es, ep, e2, c⟩, r⟩ := x
    exact ⟨ho _ d, z, ne, k _ _ (.inl rfl) e, mA, ⟨od, es, ep, k _ _ (.inr d) e2, c⟩, r⟩
  | own y => obtain ⟨ob, e⟩ := x; exact ⟨ob, k _ _ (.inl rfl) e⟩
  | xd fs => obtain ⟨mA, ⟨od, es, ep, e, c⟩, r⟩ := x; exact ⟨mA, ⟨od, es, ep, k _ _ (.inl rfl) e, c⟩, r⟩
  | rng lo hi => obtain ⟨t, u, v, e⟩ := x; exact ⟨t, u, v, k _ _ (.inl rfl) e⟩
  | frz ob u ih => obtain ⟨e, q⟩ := x; exact ⟨k _ _ (.inl rfl) e, ih q⟩
  | tbl ps =>
    have e : h.get? a = some { cls := .none, data := .fields ps } := x
    show h'.get? a = some { cls := .none, data := .fields ps }
    exact k a _ (.inl rfl) e
  | met f y =>
    have e : h.get? a = some (PySem.W.methodObj (.ref f) (.ref y)) := x
    show h'.get? a = some (PySem.W.methodObj (.ref f) (.ref y))
    exact k a _ (.inl rfl) e
  | ext φ => obtain ⟨p, ⟨o, e⟩, st⟩ := x; exact ⟨st _ _ p fun o q => k _ _ (.inl rfl) q, ⟨o, k _ _ (.inl rfl) e⟩, st⟩
theorem HOk.lt (x : HOk P w H h) (e : H a = some o) : a < h.objs.size := (x a o e).lt
theorem HOk.fresh (x : HOk P w H h) (e : h.objs.size ≤ a) : H a = none := by
  cases q : H a with
  | none => rfl
  | some u => exact absurd (Nat.lt_of_lt_of_le (x.lt q) e) (Nat.lt_irrefl _)
/-- every object of the heap is kept -/
theorem HOk.kept (x : HOk P w H h) (k : ∀ b u, h.get? b = some u → h'.get? b = some u) : HOk P w H h' := fun a o e =>
  (x a o e).stay (fun b u _ q => k b u q) (fun _ q => q) fun _ _ q => q
/-- a new object is laid and tracked -/
theorem HOk.laid (x : HOk P w H h) (k : ∀ b u, h.get? b = some u → h'.get? b = some u) (hp : h.objs.size ≤ a) (new : ObjOk P w (upd H a o) h' a o) : HOk P w (upd H a o) h' := fun b u e => by
  have hn := x.fresh hp
  by_cases hb : b = a
  · subst hb; rw [upd_same] at e; cases e; exact new
  · rw [upd_ne hb] at e
    exact (x b u e).stay (fun c v _ q => k c v q) (fun c q => by rw [upd_ne (ne_of_none q hn)]; exact q) fun c xs q => by rw [upd_ne (ne_of_none q hn)]; exact q
end

/-- what may be read as u: it is u, or a known u -/
def Rd (H : Hp) (a : Addr) (u : HO) : Prop := H a = some u ∨ ∃ o, H a = some (.frz o u)
theorem Rd.of {H : Hp} {a : Addr} {u : HO} (h : H a = some u) : Rd H a u := .inl h
theorem Rd.ok {P : Program} {w : World} {H : Hp} {h : Heap} {a : Addr} {u : HO} (r : Rd H a u) (x : HOk P w H h) : ObjOk P w H h a u := by
  rcases r with r | ⟨o, r⟩
  · exact x a u r
  · obtain ⟨_, q⟩ := x a _ r
    exact q
/-- what may be written -/
def Mut : Option HO → Prop
  | some (.lst _) => True
  | some (.dK _) => True
  | some (.dT _) => True
  | some (.set _ _) => True
  | some (.ins _ _ _) => True
  | some (.ext _) => True
  | _ => False
section
variable {P : Program} {w : World} {H : Hp} {h h' : Heap} {x e : Addr} {o' : HO}
/-- the object at e is changed: x itself, or the dict of the instance x -/
theorem HOk.write (ok : HOk P w H h) (mu : Mut (H x)) (he : e = x ∨ H e = some (.own x)) (k : ∀ b u, b ≠ e → h.get? b = some u → h'.get? b = some u) (heo : ∃ u, h'.get? e = some u)
    (new : ObjOk P w (upd H x o') h' x o') : HOk P w (upd H x o') h' := fun b u q => by
  have nown : ∀ c y, H c = some (.own y) → c ≠ x := fun c y r z => by subst z; rw [r] at mu; exact mu
  have ntup : ∀ c xs, H c = some (.tup xs) → c ≠ x := fun c xs r z => by subst z; rw [r] at mu; exact mu
  by_cases hb : b = x
  · subst hb; rw [upd_same] at q; cases q; exact new
  · rw [upd_ne hb] at q
    by_cases hbe : b = e
    · have q' : H b = some (.own x) := by
        rcases he with z | z
        · exact absurd (hbe.trans z) hb
        · rw [hbe]; exact z
      rw [q] at q'; cases q'
      obtain ⟨v, hv⟩ := heo
      exact ⟨v, by rw [hbe]; exact hv⟩
    · refine (ok b u q).stay (fun c v hc r => k c v ?_ r) (fun c r => by rw [upd_ne (nown c b r)]; exact r) fun c xs r => by rw [upd_ne (ntup c xs r)]; exact r
      rcases hc with rfl | hc
      · exact hbe
      · rintro rfl
        rcases he with z | z
        · exact nown c b hc z
        · rw [hc] at z; cases z; exact hb rfl
end

/-! ### kept unless tracked; of the frames at fs (the callers') the slots may change (an exception that passes writes there); of the records at ex (iterators) nothing is said -/
structure Un (fs ex : List Addr) (H H' : Hp) (h h' : Heap) : Prop where
  keep : ∀ b o, h.get? b = some o → H b = none → b ∉ fs → b ∉ ex → h'.get? b = some o
  slot : ∀ b o, h.get? b = some o → H b = none → b ∈ fs → b ∉ ex → ∃ sl, h'.get? b = some { o with slots := sl }
  free : ∀ b o, h.get? b = some o → H b = none → b ∉ ex → H' b = none
  there : ∀ b o, h.get? b = some o → b ∉ ex → ∃ o', h'.get? b = some o'
  tups : ∀ b xs, H b = some (.tup xs) → H' b = some (.tup xs)
  frzs : ∀ b o u, H b = some (.frz o u) → H' b = some (.frz o u)
  tbls : ∀ b ps, H b = some (.tbl ps) → ∃ more, H' b = some (.tbl (ps ++ more))
section
variable {fs fs' ex ex' : List Addr} {H H1 H2 : Hp} {h h1 h2 h' : Heap} {a x e : Addr} {o : HO}
theorem Un.any (u : Un fs ex H H1 h h1) {b : Addr} {ob : Obj} (q : h.get? b = some ob) (n : H b = none) (hx : b ∉ ex) : ∃ sl, h1.get? b = some { ob with slots := sl } := by
  by_cases hb : b ∈ fs
  · exact u.slot b ob q n hb hx
  · exact ⟨ob.slots, u.keep b ob q n hb hx⟩
theorem Un.trans (a : Un fs ex H H1 h h1) (b : Un fs ex H1 H2 h1 h2) : Un fs ex H H2 h h2 where
  keep := fun c ob q n hc hx => b.keep c ob (a.keep c ob q n hc hx) (a.free c ob q n hx) hc hx
  slot := fun c ob q n hc hx => by
    obtain ⟨sl, e1⟩ := a.slot c ob q n hc hx
    obtain ⟨sl', e2⟩ := b.slot c _ e1 (a.free c ob q n hx) hc hx
    exact ⟨sl', e2⟩
  free := fun c ob q n hx => by
    obtain ⟨o', e1⟩ := a.there c ob q hx
    exact b.free c o' e1 (a.free c ob q n hx) hx
  there := fun c ob q hx => by
    obtain ⟨o', e1⟩ := a.there c ob q hx
    exact b.there c o' e1 hx
  tups := fun c xs q => b.tups c xs (a.tups c xs q)
  frzs := fun c ob xs q => b.frzs c ob xs (a.frzs c ob xs q)
  tbls := fun c ps q => by
    obtain ⟨m1, e1⟩ := a.tbls c ps q
    obtain ⟨m2, e2⟩ := b.tbls c _ e1
    exact ⟨m1 ++ m2, by rw [e2, Array.append_assoc]⟩
theorem Un.kept (k : ∀ b u, h.get? b = some u → h'.get? b = some u) : Un fs ex H H h h' :=
  ⟨fun b ob q _ _ _ => k b ob q, fun b ob q _ _ _ => ⟨ob.slots, k b ob q⟩, fun _ _ _ n _ => n, fun b ob q _ => ⟨ob, k b ob q⟩, fun _ _ q => q, fun _ _ _ q => q, fun _ ps q => ⟨#[], by rw [q]; simp⟩⟩
theorem Un.refl : Un fs ex H H h h := Un.kept fun _ _ q => q
theorem Un.laid (k : ∀ b u, h.get? b = some u → h'.get? b = some u) (hp : h.objs.size ≤ a) (hn : H a = none) : Un fs ex H (upd H a o) h h' where
  keep := fun b u q _ _ _ => k b u q
  slot := fun b u q _ _ _ => ⟨u.slots, k b u q⟩
  free := fun b u q n _ => by rw [upd_ne (Nat.ne_of_lt (Nat.lt_of_lt_of_le (Heap.lt_size q) hp))]; exact n
  there := fun b u q _ => ⟨u, k b u q⟩
  tups := fun b xs q => by rw [upd_ne (ne_of_none q hn)]; exact q
  frzs := fun b u xs q => by rw [upd_ne (ne_of_none q hn)]; exact q
  tbls := fun b ps q => ⟨#[], by rw [upd_ne (ne_of_none q hn), q]; simp⟩
theorem Un.write (mu : Mut (H x)) (he : e = x ∨ H e = some (.own x)) (k : ∀ b u, b ≠ e → h.get? b = some u → h'.get? b = some u) (heo : ∃ u, h'.get? e = some u) : Un fs ex H (upd H x o) h h' := by
  have hx : ∀ b, H b = none → b ≠ x := fun b n z => by subst z; rw [n] at mu; exact mu
  have hb : ∀ b, H b = none → b ≠ e := fun b n z => by
    subst z
    rcases he with r | r
    · exact hx b n r
    · rw [n] at r; cases r
  have hm : ∀ b u, H b = some u → ¬ Mut (some u) → b ≠ x := fun b u q nm z => by subst z; rw [q] at mu; exact nm mu
  refine ⟨fun b u q n _ _ => k b u (hb b n) q, fun b u q n _ _ => ⟨u.slots, k b u (hb b n) q⟩, fun b u q n _ => by rw [upd_ne (hx b n)]; exact n, fun b u q _ => ?_,
    fun b xs q => by rw [upd_ne (hm b _ q fun z => z)]; exact q, fun b u xs q => by rw [upd_ne (hm b _ q fun z => z)]; exact q, fun b ps q => ⟨#[], by rw [upd_ne (hm b _ q fun z => z), q]; simp⟩⟩
  by_cases hbe : b = e
  · subst hbe; exact heo
  · exact ⟨u, k b u hbe q⟩
theorem Un.mono (u : Un fs ex H H1 h h1) (hs : ∀ b ∈ fs, b ∈ fs') (hx : ∀ b ∈ ex, b ∈ ex') : Un fs' ex' H H1 h h1 :=
  ⟨fun b ob q n hb he => u.keep b ob q n (fun z => hb (hs b z)) fun z => he (hx b z), fun _ _ q n _ he => u.any q n fun z => he (hx _ z), fun b ob q n he => u.free b ob q n fun z => he (hx b z), fun b ob q he => u.there b ob q fun z => he (hx b z), u.tups, u.frzs, u.tbls⟩
end

/-! ### the heap without what is tracked -/
def trk (h : Heap) (H : Hp) : List Addr := (List.range h.objs.size).filter fun a => (H a).isSome
def hidT (h : Heap) (H : Hp) : Heap := PySem.W.hideAll h (trk h H)
theorem hidT_size (h : Heap) (H : Hp) : (hidT h H).objs.size = h.objs.size := PySem.W.hideAll_size _ _
theorem hidT_get {h : Heap} {H : Hp} {b : Addr} {o : Obj} (e : h.get? b = some o) (n : H b = none) : (hidT h H).get? b = some o :=
  PySem.W.hideAll_get _ e fun hm => by
    have q : (H b).isSome = true := (List.mem_filter.mp hm).2
    rw [n] at q; simp at q
theorem of_hidT {h : Heap} {H : Hp} {b : Addr} {o : Obj} (e : (hidT h H).get? b = some o) : h.get? b = some o ∧ H b = none := by
  have e' : h.get? b = some o := PySem.W.of_hideAll (trk h H) e
  refine ⟨e', ?_⟩
  cases q : H b with
  | none => rfl
  | some x =>
    have hm : b ∈ trk h H := List.mem_filter.mpr ⟨List.mem_range.mpr (Heap.lt_size e'), by simp [q]⟩
    have z : (hidT h H).get? b = none := PySem.W.hideAll_none (trk h H) hm
    rw [z] at e; cases e

/-! ### OpenK's ledger, filled with every new object but one -/
def allNews (g h : Heap) (L : Addr) : List (Addr × Obj) := (List.range h.objs.size).filterMap fun a => if a = L ∨ (g.get? a).isSome = true then none else (h.get? a).map fun o => (a, o)
def rest (g h : Heap) (L d : Addr) : List (Addr × Obj) := (allNews g h L).filter fun p => decide (p.1 ≠ d)
end L2

namespace L2
open PySem PySem.Spec PyProof.Rows

/-- the module's facts, over the base: the heap at the law's entry without what is tracked there -/
structure Mod (K : PySem.W.Frag) (mg : Str → Option Value) (base : Heap) : Prop where
  kin : K.In base
  glob : base.Ns mainGlobals mg
  blt : ∃ mb, base.Ns builtinsNs mb ∧ ∀ x : Str, x ≠ "__name__" → mb x = bootBuiltins x
  nolimit : base.NoLimit

/-- the context: a def's body (or a comprehension's block) running. base: fixed through the whole law; s₀, H₀: the entry; outer: the frames whose slots others may change (a def's callers); stack: all frames that run;
   ex: iterators that were made ahead of the entry and are walked here (a comprehension's); fn: the names whose cells were made at the entry (a def: all; a comprehension's block: its own); calm: not within an except suite; pn: pins that every state bears; xe: what is wanted of an exception that leaves the code -/
structure Cx where
  prog : Program
  w : World
  K : PySem.W.Frag
  mg : Str → Option Value
  base : Heap
  A : Around
  N : List Str
  s₀ : Shared
  H₀ : Hp
  env : Env
  outer : List Env
  stack : List Env
  ex : List Addr
  fn : Str → Bool
  calm : Bool
  pn : List (Addr × Obj)
  xe : Value → Shared → Prop
/-- the callers' frames -/
def frs (l : List Env) : List Addr := l.filterMap (·.frame)
abbrev Cx.fs (X : Cx) : List Addr := frs X.outer

def Vis (sc : Scope) (x : Str) : Prop := sc.names.lookup x = some .local ∨ sc.names.lookup x = some .cell ∨ sc.names.lookup x = some .free
def Loc (sc : Scope) (x : Str) : Prop := sc.names.lookup x = some .local ∨ sc.names.lookup x = some .cell
def Look (env : Env) (h : Heap) (m : Str → Option Value) (x : Str) (u : Value) : Prop :=
  (env.kindOf x = some .local ∧ m x = some u) ∨ ((env.kindOf x = some .cell ∨ env.kindOf x = some .free) ∧ ∃ c, env.cells.lookup x = some c ∧ h.IsCell c (some u))

structure Cx.Ok (X : Cx) : Prop where
  mod : Mod X.K X.mg X.base
  kind : X.env.scope.kind = .function
  glob : X.env.globals = mainGlobals
  blt : X.env.builtins = builtinsNs
  above : X.s₀.heap.objs.size ≤ X.env.locals
  inj : ∀ x y c, X.env.cells.lookup x = some c → X.env.cells.lookup y = some c → x = y
  has : ∀ x, (X.env.kindOf x = some .cell ∨ X.env.kindOf x = some .free) → ∃ c, X.env.cells.lookup x = some c
  cab : ∀ x c, X.fn x = true → X.env.cells.lookup x = some c → X.s₀.heap.objs.size ≤ c
  hd : X.calm = true → X.A.handled = none
  frames : X.A.frames = some X.stack
  stk : X.stack = X.outer ∨ (X.stack = X.env :: X.outer ∧ X.env.frame = some X.env.locals)
  exf : ∀ b ∈ X.ex, b ≠ X.env.locals ∧ ∀ x c, X.env.cells.lookup x = some c → c ≠ b
  bs : ∀ b o, X.base.get? b = some o → X.s₀.heap.get? b = some o ∧ X.H₀ b = none
  bsz : X.base.objs.size ≤ X.s₀.heap.objs.size
  noex : ∀ b o, X.base.get? b = some o → b ∉ X.ex
  exfs : ∀ b ∈ X.ex, b ∉ X.fs
  funs : X.s₀.heap.FunFrames X.base X.outer
  frf : ∀ b ∈ X.fs, X.H₀ b = none

structure Inv (X : Cx) (pins : List (Addr × Obj)) (σ : List (Option V)) (H : Hp) (s : Shared) : Prop where
  ok : X.Ok
  os : s.os = X.s₀.os
  bare : AllBare s.gens
  base : Un X.fs X.ex X.H₀ H X.s₀.heap s.heap
  loc : ∃ m, s.heap.Ns X.env.locals m ∧ ∀ (i : Nat) (x : Str) (v : V), X.N[i]? = some x → σ[i]? = some (some v) → Vis X.env.scope x → ∃ u, RelV v u ∧ Look X.env s.heap m x u
  cell : ∀ x c, X.env.cells.lookup x = some c → ∃ v, s.heap.IsCell c v
  free : H X.env.locals = none
  freeC : ∀ x c, X.env.cells.lookup x = some c → H c = none
  pin : ∀ p ∈ X.pn ++ pins, s.heap.get? p.1 = some p.2 ∧ H p.1 = none ∧ p.1 ≠ X.env.locals ∧ p.1 ∉ X.fs ∧ ∀ v, p.2.data ≠ .cell v
  hok : HOk X.prog X.w H s.heap
  len : σ.length = X.N.length

section
variable {X : Cx} {pins : List (Addr × Obj)} {σ : List (Option V)} {H H' : Hp} {s : Shared} {h' : Heap}

theorem Cx.Ok.nofr (ok : X.Ok) {b : Addr} {o : Obj} (e : X.base.get? b = some o) : b ∉ X.fs := fun hb => by
  have := (ok.funs.mem hb).1
  rw [e] at this; cases this
theorem Inv.bs (I : Inv X pins σ H s) : ∀ b o, X.base.get? b = some o → s.heap.get? b = some o ∧ H b = none := fun b o e =>
  ⟨I.base.keep b o (I.ok.bs b o e).1 (I.ok.bs b o e).2 (I.ok.nofr e) (I.ok.noex b o e), I.base.free b o (I.ok.bs b o e).1 (I.ok.bs b o e).2 (I.ok.noex b o e)⟩
theorem Inv.bk (I : Inv X pins σ H s) : ∀ b o, X.base.get? b = some o → s.heap.get? b = some o := fun b o e => (I.bs b o e).1
theorem Inv.mod (I : Inv X pins σ H s) : Mod X.K X.mg X.base := I.ok.mod
theorem Inv.kIn (I : Inv X pins σ H s) : X.K.In s.heap := I.ok.mod.kin.keeps I.bk
theorem Inv.nolimit (I : Inv X pins σ H s) : s.heap.NoLimit := I.ok.mod.nolimit.keeps I.bk
theorem Inv.lt (I : Inv X pins σ H s) : X.env.locals < s.heap.objs.size := let ⟨_, hn, _⟩ := I.loc; hn.lt
theorem Inv.sz (I : Inv X pins σ H s) : X.s₀.heap.objs.size ≤ s.heap.objs.size := Nat.le_trans I.ok.above (Nat.le_of_lt I.lt)
theorem Inv.nofs (I : Inv X pins σ H s) {a : Addr} (h : s.heap.objs.size ≤ a) : a ∉ X.fs := fun hb => by
  obtain ⟨_, o, ho, _⟩ := I.ok.funs.mem hb
  exact absurd (Nat.lt_of_lt_of_le (Heap.lt_size ho) (Nat.le_trans I.sz h)) (Nat.lt_irrefl _)
theorem Inv.cne (I : Inv X pins σ H s) : ∀ x c, X.env.cells.lookup x = some c → c ≠ X.env.locals := fun x c e z => by
  obtain ⟨v, o, ho, hd⟩ := I.cell x c e
  obtain ⟨m, ⟨o', es, ep, ho', hd', _⟩, _⟩ := I.loc
  rw [z, ho'] at ho; cases ho; rw [hd'] at hd; cases hd
theorem Inv.funs (I : Inv X pins σ H s) : s.heap.FunFrames X.base X.outer := by
  have all : ∀ (l : List Env), (∀ b ∈ frs l, b ∈ X.fs) → X.s₀.heap.FunFrames X.base l → s.heap.FunFrames X.base l := by
    intro l
    induction l with
    | nil => intro _ _; trivial
    | cons env r ih =>
      intro hs hl
      obtain ⟨hk, ⟨L, o, hf, hn, ho, hd⟩, hr⟩ := hl
      have hL : L ∈ X.fs := hs L (by unfold frs; rw [List.filterMap_cons, hf]; exact List.mem_cons_self)
      obtain ⟨sl, e⟩ := I.base.slot L o ho (I.ok.frf L hL) hL fun z => I.ok.exfs L z hL
      exact ⟨hk, ⟨L, _, hf, hn, e, hd⟩, ih (fun b hb => hs b (by unfold frs; rw [List.filterMap_cons, hf]; exact List.mem_cons_of_mem _ hb)) hr⟩
  exact all X.outer (fun _ hb => hb) I.ok.funs

/-- the frames that run, for a call -/
theorem Inv.stack (I : Inv X pins σ H s) : s.heap.FunFrames X.base X.stack := by
  rcases I.ok.stk with e | ⟨e, hf⟩
  · rw [e]; exact I.funs
  · rw [e]
    obtain ⟨m, hn, _⟩ := I.loc
    refine .cons (by rw [I.ok.kind]; decide) hf hn ?_ I.funs
    exact Heap.get?_none_of_le (Nat.le_trans I.ok.bsz I.ok.above)
theorem Inv.stkSub (I : Inv X pins σ H s) : ∀ b ∈ frs X.stack, b ∈ X.env.locals :: X.fs := fun b hb => by
  rcases I.ok.stk with e | ⟨e, hf⟩
  · rw [e] at hb; exact List.mem_cons_of_mem _ hb
  · rw [e] at hb
    unfold frs at hb
    rw [List.filterMap_cons, hf] at hb
    exact hb
theorem Inv.stkFree (I : Inv X pins σ H s) : ∀ b ∈ frs X.stack, H b = none := fun b hb => by
  rcases List.mem_cons.mp (I.stkSub b hb) with e | hb
  · rw [e]; exact I.free
  · obtain ⟨_, o, ho, _⟩ := I.ok.funs.mem hb
    exact I.base.free b o ho (I.ok.frf b hb) fun z => I.ok.exfs b z hb

/-- THE STEP: the untracked objects but the frame and the records at ch are kept (the callers' frames up to slots), the frame's map is kept, the new abstract heap is held -/
theorem Inv.step {g' : Array GenState} {t' : Nat} {d' : Drawn} {ch : List Addr} (I : Inv X pins σ H s)
    (hch : ∀ b ∈ ch, (b ∈ X.ex ∨ X.s₀.heap.objs.size ≤ b) ∧ b ≠ X.env.locals ∧ (∀ x c, X.env.cells.lookup x = some c → c ≠ b) ∧ ∀ p ∈ X.pn ++ pins, p.1 ≠ b)
    (keep : ∀ b o, b ≠ X.env.locals → b ∉ X.fs → b ∉ ch → s.heap.get? b = some o → H b = none → h'.get? b = some o)
    (slot : ∀ b o, b ≠ X.env.locals → b ∈ X.fs → b ∉ ch → s.heap.get? b = some o → H b = none → ∃ sl, h'.get? b = some { o with slots := sl }) (free : ∀ b o, b ∉ ch → s.heap.get? b = some o → H b = none → H' b = none)
    (there : ∀ b o, b ∉ ch → s.heap.get? b = some o → ∃ o', h'.get? b = some o')
    (tups : ∀ b xs, H b = some (.tup xs) → H' b = some (.tup xs)) (frzs : ∀ b o u, H b = some (.frz o u) → H' b = some (.frz o u)) (tbls : ∀ b ps, H b = some (.tbl ps) → ∃ more, H' b = some (.tbl (ps ++ more)))
    (ns : ∀ m, s.heap.Ns X.env.locals m → h'.Ns X.env.locals m) (hok : HOk X.prog X.w H' h') (hg : AllBare g') :
    Inv X pins σ H' { s with heap := h', gens := g', drawn := d', toks := t' } := by
  have neL : ∀ b o, X.s₀.heap.get? b = some o → b ≠ X.env.locals := fun b o e => Nat.ne_of_lt (Nat.lt_of_lt_of_le (Heap.lt_size e) I.ok.above)
  have neC : ∀ b o, X.s₀.heap.get? b = some o → b ∉ X.ex → b ∉ ch := fun b o e hx hb => by
    rcases (hch b hb).1 with z | z
    · exact hx z
    · exact absurd (Nat.lt_of_lt_of_le (Heap.lt_size e) z) (Nat.lt_irrefl _)
  have cellK : ∀ x c, X.env.cells.lookup x = some c → ∀ v, s.heap.IsCell c v → h'.IsCell c v := fun x c e v ⟨o, ho, hd⟩ => by
    have nch : c ∉ ch := fun z => (hch c z).2.2.1 x c e rfl
    by_cases hc : c ∈ X.fs
    · obtain ⟨sl, q⟩ := slot c o (I.cne x c e) hc nch ho (I.freeC x c e)
      exact ⟨_, q, hd⟩
    · exact ⟨o, keep c o (I.cne x c e) hc nch ho (I.freeC x c e), hd⟩
  refine ⟨I.ok, I.os, hg, ⟨fun b o e n hb hx => ?_, fun b o e n hb hx => ?_, fun b o e n hx => ?_, fun b o e hx => ?_, fun b xs e => tups b xs (I.base.tups b xs e), fun b o xs e => frzs b o xs (I.base.frzs b o xs e), fun b ps e => ?_⟩, ?_, fun x c e => ?_, ?_, fun x c e => ?_, fun p hp => ?_, hok, I.len⟩
  · exact keep b o (neL b o e) hb (neC b o e hx) (I.base.keep b o e n hb hx) (I.base.free b o e n hx)
  · obtain ⟨sl, e1⟩ := I.base.slot b o e n hb hx
    obtain ⟨sl', e2⟩ := slot b _ (neL b o e) hb (neC b o e hx) e1 (I.base.free b o e n hx)
    exact ⟨sl', e2⟩
  · obtain ⟨o', e1⟩ := I.base.there b o e hx
    exact free b o' (neC b o e hx) e1 (I.base.free b o e n hx)
  · obtain ⟨o', e1⟩ := I.base.there b o e hx
    exact there b o' (neC b o e hx) e1
  · obtain ⟨m1, e1⟩ := I.base.tbls b ps e
    obtain ⟨m2, e2⟩ := tbls b _ e1
    exact ⟨m1 ++ m2, by rw [e2, Array.append_assoc]⟩
  · obtain ⟨m, hn, hl⟩ := I.loc
    refine ⟨m, ns m hn, fun i x v e1 e2 e3 => ?_⟩
    obtain ⟨u, r, l⟩ := hl i x v e1 e2 e3
    refine ⟨u, r, ?_⟩
    rcases l with l | ⟨k, c, e, z⟩
    · exact .inl l
    · exact .inr ⟨k, c, e, cellK x c e _ z⟩
  · obtain ⟨v, z⟩ := I.cell x c e
    exact ⟨v, cellK x c e v z⟩
  · obtain ⟨m, ⟨o, _, _, ho, _⟩, _⟩ := I.loc
    exact free _ o (fun z => (hch _ z).2.1 rfl) ho I.free
  · obtain ⟨v, o, ho, hd⟩ := I.cell x c e
    exact free c o (fun z => (hch c z).2.2.1 x c e rfl) ho (I.freeC x c e)
  · obtain ⟨e, n, ne, nf, d⟩ := I.pin p hp
    have nch : p.1 ∉ ch := fun z => (hch p.1 z).2.2.2 p hp rfl
    exact ⟨keep p.1 p.2 ne nf nch e n, free p.1 p.2 nch e n, ne, nf, d⟩
/-- .. where the frame's own object is kept too -/
theorem Inv.un {t' : Nat} (I : Inv X pins σ H s) (u : Un X.fs [] H H' s.heap h') (hok : HOk X.prog X.w H' h') : Inv X pins σ H' { s with heap := h', toks := t' } := by
  obtain ⟨m, ⟨o, es, ep, ho, r⟩, _⟩ := id I.loc
  obtain ⟨sl, hL⟩ := u.any ho I.free (by simp)
  exact I.step (g' := s.gens) (d' := s.drawn) (ch := []) (fun _ z => nomatch z) (fun b o _ hb _ e n => u.keep b o e n hb (by simp)) (fun b o _ hb _ e n => u.slot b o e n hb (by simp)) (fun b o _ e n => u.free b o e n (by simp)) (fun b o _ e => u.there b o e (by simp)) u.tups u.frzs u.tbls (fun m' hm => by
    obtain ⟨o', es', ep', ho', r'⟩ := hm
    rw [ho] at ho'; cases ho'
    exact ⟨_, es', ep', hL, r'⟩) hok I.bare
/-- behind a call (or a comprehension's block): the slots of this frame may have changed too, the records at ch may have turned -/
theorem Inv.call {g' : Array GenState} {t' : Nat} {d' : Drawn} {ch : List Addr} (I : Inv X pins σ H s) (u : Un (frs X.stack) ch H H' s.heap h') (hok : HOk X.prog X.w H' h') (hg : AllBare g')
    (hch : ∀ b ∈ ch, (b ∈ X.ex ∨ X.s₀.heap.objs.size ≤ b) ∧ b ≠ X.env.locals ∧ (∀ x c, X.env.cells.lookup x = some c → c ≠ b) ∧ ∀ p ∈ X.pn ++ pins, p.1 ≠ b) :
    Inv X pins σ H' { s with heap := h', gens := g', drawn := d', toks := t' } := by
  obtain ⟨m, ⟨o, es, ep, ho, r⟩, _⟩ := id I.loc
  obtain ⟨sl, hL⟩ := u.any ho I.free fun z => (hch _ z).2.1 rfl
  exact I.step (ch := ch) hch (fun b o hL hb hc e n => u.keep b o e n (fun z => (List.mem_cons.mp (I.stkSub b z)).elim hL hb) hc) (fun b o _ _ hc e n => u.any e n hc) (fun b o hc e n => u.free b o e n hc) (fun b o hc e => u.there b o e hc) u.tups u.frzs u.tbls (fun m' hm => by
    obtain ⟨o', es', ep', ho', r'⟩ := hm
    rw [ho] at ho'; cases ho'
    exact ⟨_, es', ep', hL, r'⟩) hok hg
/-- an untracked record of ours (an iterator) has turned -/
theorem Inv.turned {t' : Nat} {it : Addr} (I : Inv X pins σ H s) (k : ∀ b o, b ≠ it → s.heap.get? b = some o → h'.get? b = some o) (hn : H it = none) (hL : it ≠ X.env.locals)
    (h1 : it ∈ X.ex ∨ X.s₀.heap.objs.size ≤ it) (h2 : ∀ x c, X.env.cells.lookup x = some c → c ≠ it) (h3 : ∀ p ∈ X.pn ++ pins, p.1 ≠ it) : Inv X pins σ H { s with heap := h', toks := t' } := by
  have nit : ∀ b u, H b = some u → b ≠ it := fun b u e z => by rw [z, hn] at e; cases e
  refine I.step (g' := s.gens) (d' := s.drawn) (ch := [it]) (fun b hb => ?_) (fun b o _ _ hc e _ => k b o (fun z => hc (by simp [z])) e) (fun b o _ _ hc e _ => ⟨o.slots, k b o (fun z => hc (by simp [z])) e⟩) (fun _ _ _ _ n => n)
    (fun b o hc e => ⟨o, k b o (fun z => hc (by simp [z])) e⟩) (fun _ _ e => e) (fun _ _ _ e => e) (fun b ps e => ⟨#[], by rw [e]; simp⟩) (fun m hm => ?_) (fun b u e => ?_) I.bare
  · have e : b = it := by simpa using hb
    subst e
    exact ⟨h1, hL, h2, h3⟩
  · obtain ⟨o, es, ep, ho, r⟩ := hm
    exact ⟨o, es, ep, k _ o (Ne.symm hL) ho, r⟩
  · refine (I.hok b u e).stay (fun c v hc q => k c v ?_ q) (fun _ q => q) fun _ _ q => q
    rcases hc with z | z
    · rw [z]; exact nit b u e
    · exact nit c _ z
theorem Inv.tok (I : Inv X pins σ H s) (t : Nat) : Inv X pins σ H { s with toks := t } := I.un (h' := s.heap) (t' := t) Un.refl I.hok
/-- all objects kept -/
theorem Inv.kept {t' : Nat} (I : Inv X pins σ H s) (k : ∀ b u, s.heap.get? b = some u → h'.get? b = some u) : Inv X pins σ H { s with heap := h', toks := t' } := I.un (Un.kept k) (I.hok.kept k)
/-- a new object laid and tracked -/
theorem Inv.laid {a : Addr} {o : HO} {t' : Nat} (I : Inv X pins σ H s) (k : ∀ b u, s.heap.get? b = some u → h'.get? b = some u) (hp : s.heap.objs.size ≤ a) (new : ObjOk X.prog X.w (upd H a o) h' a o) :
    Inv X pins σ (upd H a o) { s with heap := h', toks := t' } := I.un (Un.laid k hp (I.hok.fresh hp)) (I.hok.laid k hp new)
/-- an object written -/
theorem Inv.write {x e : Addr} {o : HO} {t' : Nat} (I : Inv X pins σ H s) (mu : Mut (H x)) (he : e = x ∨ H e = some (.own x)) (k : ∀ b u, b ≠ e → s.heap.get? b = some u → h'.get? b = some u) (heo : ∃ u, h'.get? e = some u)
    (new : ObjOk X.prog X.w (upd H x o) h' x o) : Inv X pins σ (upd H x o) { s with heap := h', toks := t' } := I.un (Un.write mu he k heo) (I.hok.write mu he k heo new)
/-- forgetting slots, pins -/
theorem Inv.weak {σ' : List (Option V)} (I : Inv X pins σ H s) (hl : σ'.length = σ.length) (w : ∀ (i : Nat) v, σ'[i]? = some (some v) → σ[i]? = some (some v)) : Inv X pins σ' H s :=
  ⟨I.ok, I.os, I.bare, I.base, let ⟨m, hn, hl'⟩ := I.loc; ⟨m, hn, fun i x v e1 e2 e3 => hl' i x v e1 (w i v e2) e3⟩, I.cell, I.free, I.freeC, I.pin, I.hok, hl.trans I.len⟩
theorem Inv.pins_of {pins' : List (Addr × Obj)} (I : Inv X pins σ H s) (h : ∀ p ∈ pins', s.heap.get? p.1 = some p.2 ∧ H p.1 = none ∧ p.1 ≠ X.env.locals ∧ p.1 ∉ X.fs ∧ ∀ v, p.2.data ≠ .cell v) : Inv X pins' σ H s :=
  ⟨I.ok, I.os, I.bare, I.base, I.loc, I.cell, I.free, I.freeC, fun p hp => (List.mem_append.mp hp).elim (fun z => I.pin p (List.mem_append_left _ z)) (h p), I.hok, I.len⟩

theorem nodup_ix {N : List Str} (hN : N.Nodup) {i j : Nat} {x : Str} (a : N[i]? = some x) (b : N[j]? = some x) : i = j := by
  obtain ⟨h1, e1⟩ := List.getElem?_eq_some_iff.mp a
  obtain ⟨h2, e2⟩ := List.getElem?_eq_some_iff.mp b
  exact (List.getElem_inj hN).mp (e1.trans e2.symm)

/-- a name is stored; what changed -/
theorem store_ok2 {M : Model} {A : Around} {E : Value → Shared → Prop} {i : Nat} {x : Str} {v : V} {u : Value} {Q : Unit → Shared → Prop} (I : Inv X pins σ H s) (hN : X.N.Nodup) (hi : X.N[i]? = some x) (hx : Loc X.env.scope x) (r : RelV v u)
    (h : ∀ s', Inv X pins (σ.set i (some v)) H s' → (∃ a, Heap.SameBut a s.heap s'.heap ∧ (a = X.env.locals ∨ X.env.cells.lookup x = some a)) → Q () s') (hf : X.fn x = true ∨ X.env.scope.names.lookup x = some .local := by first | exact .inl rfl | exact .inr rfl | assumption) : wpAny M A (storeName X.env x u) Q E s := by
  obtain ⟨m, hn, hl⟩ := id I.loc
  have hcls : (X.env.scope.kind == .class || (X.env.scope.kind == .module && X.env.locals != X.env.globals)) = false := by rw [I.ok.kind]; rfl
  have hiσ : i < σ.length := by rw [I.len]; exact (List.getElem?_eq_some_iff.mp hi).1
  have cne := I.cne
  have tracked : ∀ {a : Addr} {h' : Heap}, (∃ o, s.heap.get? a = some o ∧ H a = none) → Heap.SameBut a s.heap h' → HOk X.prog X.w H h' := fun {a h'} ha hs b ob e => by
    obtain ⟨_, _, hfree⟩ := ha
    refine (I.hok b ob e).stay (fun c w' hc q => (hs.2 c ?_).trans q) (fun _ q => q) fun _ _ q => q
    rintro rfl
    rcases hc with rfl | hc
    · rw [hfree] at e; cases e
    · rw [hfree] at hc; cases hc
  rcases hx with hk | hk
  · refine wpAny_storeName_local hk hn (fun h' hn' hs => ?_) hcls
    obtain ⟨oL, _, _, hoL, _⟩ := id hn
    refine h _ ⟨I.ok, I.os, I.bare, ⟨fun b o e n hb hx => ?_, fun b o e n hb hx => ?_, I.base.free, fun b o e hx => ?_, I.base.tups, I.base.frzs, I.base.tbls⟩, ⟨_, hn', fun j y v' e1 e2 e3 => ?_⟩, fun y c e => ?_, I.free, I.freeC, fun p hp => ?_, tracked ⟨oL, hoL, I.free⟩ hs, by simpa using I.len⟩ ⟨_, hs, .inl rfl⟩
    · exact (hs.2 b (Nat.ne_of_lt (Nat.lt_of_lt_of_le (Heap.lt_size e) I.ok.above))).trans (I.base.keep b o e n hb hx)
    · obtain ⟨sl, e1⟩ := I.base.slot b o e n hb hx
      exact ⟨sl, (hs.2 b (Nat.ne_of_lt (Nat.lt_of_lt_of_le (Heap.lt_size e) I.ok.above))).trans e1⟩
    · obtain ⟨o', e1⟩ := I.base.there b o e hx
      exact ⟨o', (hs.2 b (Nat.ne_of_lt (Nat.lt_of_lt_of_le (Heap.lt_size e) I.ok.above))).trans e1⟩
    · by_cases hj : j = i
      · subst hj
        rw [hi] at e1; cases e1
        rw [List.getElem?_set_self hiσ] at e2
        cases e2
        exact ⟨u, r, .inl ⟨hk, by simp⟩⟩
      · rw [List.getElem?_set_ne (Ne.symm hj)] at e2
        obtain ⟨u', r', q⟩ := hl j y v' e1 e2 e3
        refine ⟨u', r', ?_⟩
        rcases q with ⟨k, e⟩ | ⟨k, c, e, z⟩
        · refine .inl ⟨k, ?_⟩
          have : y ≠ x := fun e => hj (nodup_ix hN e1 (e ▸ hi))
          simp [this, e]
        · exact .inr ⟨k, c, e, z.sameBut hs (cne y c e)⟩
    · obtain ⟨w', z⟩ := I.cell y c e
      exact ⟨w', z.sameBut hs (cne y c e)⟩
    · obtain ⟨e, n, ne, nf, d⟩ := I.pin p hp
      exact ⟨(hs.2 p.1 ne).trans e, n, ne, nf, d⟩
  · have hfn : X.fn x = true := by
      rcases hf with z | z
      · exact z
      · rw [z] at hk; cases hk
    obtain ⟨c, hc⟩ := I.ok.has x (.inl hk)
    obtain ⟨w', z⟩ := I.cell x c hc
    refine wpAny_storeName_cell I.ok.kind hk hc z (fun h' hc' hs => ?_)
    obtain ⟨oc, hoc, hocd⟩ := id z
    refine h { s with heap := h' } ⟨I.ok, I.os, I.bare, ⟨fun b o e n hb hx => ?_, fun b o e n hb hx => ?_, I.base.free, fun b o e hx => ?_, I.base.tups, I.base.frzs, I.base.tbls⟩, ⟨m, hn.sameBut hs (Ne.symm (cne x c hc)), fun j y v' e1 e2 e3 => ?_⟩, fun y c' e => ?_, I.free, I.freeC, fun p hp => ?_, tracked ⟨oc, hoc, I.freeC x c hc⟩ hs, by simpa using I.len⟩ ⟨c, hs, .inr hc⟩
    · exact (hs.2 b (Nat.ne_of_lt (Nat.lt_of_lt_of_le (Heap.lt_size e) (I.ok.cab x c hfn hc)))).trans (I.base.keep b o e n hb hx)
    · obtain ⟨sl, e1⟩ := I.base.slot b o e n hb hx
      exact ⟨sl, (hs.2 b (Nat.ne_of_lt (Nat.lt_of_lt_of_le (Heap.lt_size e) (I.ok.cab x c hfn hc)))).trans e1⟩
    · obtain ⟨o', e1⟩ := I.base.there b o e hx
      exact ⟨o', (hs.2 b (Nat.ne_of_lt (Nat.lt_of_lt_of_le (Heap.lt_size e) (I.ok.cab x c hfn hc)))).trans e1⟩
    · by_cases hj : j = i
      · subst hj
        rw [hi] at e1; cases e1
        rw [List.getElem?_set_self hiσ] at e2
        cases e2
        exact ⟨u, r, .inr ⟨.inl hk, c, hc, hc'⟩⟩
      · rw [List.getElem?_set_ne (Ne.symm hj)] at e2
        obtain ⟨u', r', q⟩ := hl j y v' e1 e2 e3
        refine ⟨u', r', ?_⟩
        rcases q with q | ⟨k, c', e, z'⟩
        · exact .inl q
        · refine .inr ⟨k, c', e, z'.sameBut hs ?_⟩
          rintro rfl
          exact hj (nodup_ix hN e1 (I.ok.inj _ _ _ e hc ▸ hi))
    · by_cases hcc : c' = c
      · subst hcc; exact ⟨_, hc'⟩
      · obtain ⟨w2, z2⟩ := I.cell y c' e
        exact ⟨w2, z2.sameBut hs hcc⟩
    · obtain ⟨e, n, ne, nf, d⟩ := I.pin p hp
      refine ⟨(hs.2 p.1 ?_).trans e, n, ne, nf, d⟩
      intro q
      rw [q, hoc] at e
      have q' : oc = p.2 := Option.some.inj e
      exact d w' (by rw [← q']; exact hocd)
theorem store_ok {M : Model} {A : Around} {E : Value → Shared → Prop} {i : Nat} {x : Str} {v : V} {u : Value} {Q : Unit → Shared → Prop} (I : Inv X pins σ H s) (hN : X.N.Nodup) (hi : X.N[i]? = some x) (hx : Loc X.env.scope x) (r : RelV v u)
    (h : ∀ s', Inv X pins (σ.set i (some v)) H s' → Q () s') (hf : X.fn x = true ∨ X.env.scope.names.lookup x = some .local := by first | exact .inl rfl | exact .inr rfl | assumption) : wpAny M A (storeName X.env x u) Q E s :=
  store_ok2 I hN hi hx r (fun s' I' _ => h s' I') hf
/-- behind a call or a block, the state as it is -/
theorem Inv.call' {s' : Shared} {ch : List Addr} (I : Inv X pins σ H s) (ho : s'.os = s.os) (u : Un (frs X.stack) ch H H' s.heap s'.heap) (hok : HOk X.prog X.w H' s'.heap) (hg : AllBare s'.gens)
    (hch : ∀ b ∈ ch, (b ∈ X.ex ∨ X.s₀.heap.objs.size ≤ b) ∧ b ≠ X.env.locals ∧ (∀ x c, X.env.cells.lookup x = some c → c ≠ b) ∧ ∀ p ∈ X.pn ++ pins, p.1 ≠ b) : Inv X pins σ H' s' := by
  obtain ⟨h', g', d', t', o'⟩ := s'
  have e : o' = s.os := ho
  subst e
  exact I.call (g' := g') (t' := t') (d' := d') u hok hg hch
end

/-! ### the judgements -/
/-- an exception: its class, its own dict's address (where it has one), the abstract heap behind it -/
abbrev XK := Value → Option Addr → Hp → Prop
abbrev St := List (Option V)
abbrev VK := V → Hp → Prop
/-- an expression's reading; a test's; an argument list's -/
abbrev TE := St → Hp → VK → Prop
abbrev TT := St → Hp → (Bool → Hp → Prop) → Prop
abbrev TA := St → Hp → (List V → Hp → Prop) → Prop
/-- what is wanted behind a statement -/
structure Ends where
  nx : St → Hp → Prop
  rt : VK
  bk : St → Hp → Prop := fun _ _ => False
  ct : St → Hp → Prop := fun _ _ => False
abbrev TS := Ends → St → Hp → Prop

def EP (X : Cx) (pins : List (Addr × Obj)) (σ : St) (Q : VK) (u : Value) (s' : Shared) : Prop := ∃ v H', Inv X pins σ H' s' ∧ RelV v u ∧ Q v H'
def TP (X : Cx) (pins : List (Addr × Obj)) (σ : St) (Q : Bool → Hp → Prop) (b : Bool) (s' : Shared) : Prop := ∃ H', Inv X pins σ H' s' ∧ Q b H'
def AP (X : Cx) (pins : List (Addr × Obj)) (σ : St) (Q : List V → Hp → Prop) (us : List Value) (s' : Shared) : Prop := ∃ vs H', Inv X pins σ H' s' ∧ Vals vs us ∧ Q vs H'
def SP (X : Cx) (pins : List (Addr × Obj)) (D : Ends) (f : Flow) (s' : Shared) : Prop :=
  match f with
  | .next => ∃ σ' H', Inv X pins σ' H' s' ∧ D.nx σ' H'
  | .brk => ∃ σ' H', Inv X pins σ' H' s' ∧ D.bk σ' H'
  | .cont => ∃ σ' H', Inv X pins σ' H' s' ∧ D.ct σ' H'
  | .ret u => ∃ v σ' H', Inv X pins σ' H' s' ∧ RelV v u ∧ D.rt v H'

def PE (X : Cx) (e : Expr) (t : TE) : Prop :=
  ∀ (pins : List (Addr × Obj)) (s : Shared) (σ : St) (H : Hp) (Q : VK), Inv X pins σ H s → t σ H Q → wpAny (model X.prog X.w) X.A (eval e X.env) (EP X pins σ Q) X.xe s
def PT (X : Cx) (e : Expr) (t : TT) : Prop :=
  ∀ (pins : List (Addr × Obj)) (s : Shared) (σ : St) (H : Hp) (Q : Bool → Hp → Prop), Inv X pins σ H s → t σ H Q → wpAny (model X.prog X.w) X.A (isTrue e X.env (eval e X.env)) (TP X pins σ Q) X.xe s
/-- a test whatever its 'whole' is (and, or) -/
def PW (X : Cx) (e : Expr) (t : TT) : Prop :=
  ∀ (whole : Sem Value) (pins : List (Addr × Obj)) (s : Shared) (σ : St) (H : Hp) (Q : Bool → Hp → Prop), Inv X pins σ H s → t σ H Q → wpAny (model X.prog X.w) X.A (isTrue e X.env whole) (TP X pins σ Q) X.xe s
theorem PW.pt {X : Cx} {e : Expr} {t : TT} (h : PW X e t) : PT X e t := h _
/-- an argument list (no star), from the left -/
def PA (X : Cx) (es : List Expr) (t : TA) : Prop :=
  ∀ (pos : Pos) (pins : List (Addr × Obj)) (s : Shared) (σ : St) (H : Hp) (Q : List V → Hp → Prop), Inv X pins σ H s → t σ H Q → wpAny (model X.prog X.w) X.A (spliced (backTo pos (starEach es X.env))) (AP X pins σ Q) X.xe s
def PS (X : Cx) (st : Stmt) (t : TS) : Prop :=
  ∀ (pins : List (Addr × Obj)) (s : Shared) (σ : St) (H : Hp) (D : Ends), Inv X pins σ H s → t D σ H → wpAny (model X.prog X.w) X.A (exec st X.env) (SP X pins D) X.xe s
def PSs (X : Cx) (st : List Stmt) (t : TS) : Prop :=
  ∀ (pins : List (Addr × Obj)) (s : Shared) (σ : St) (H : Hp) (D : Ends), Inv X pins σ H s → t D σ H → wpAny (model X.prog X.w) X.A (execs st X.env) (SP X pins D) X.xe s
/-- weaken the end -/
theorem thn {α : Type} {t : Sem α} {Q Q' : α → Shared → Prop} {M : Model} {A : Around} {E : Value → Shared → Prop} {s : Shared} (h : wpAny M A t Q E s) (hQ : ∀ a s, Q a s → Q' a s) : wpAny M A t Q' E s := wpAny_mono h hQ fun _ _ x => x
end L2

namespace L2
open PySem PySem.Spec PyProof.Rows
section
variable {X : Cx}

/-! ### names and constants -/
def tVar (i : Nat) : TE := fun σ H Q => ∃ v, σ[i]? = some (some v) ∧ Q v H
def tC (v : V) : TE := fun _ H Q => Q v H
theorem pe_var {i : Nat} {x : Str} {pos : Pos} (hN : X.N[i]? = some x) (hv : Vis X.env.scope x) (hd : (x == ("__debug__" : Str)) = false := by decide) (hcd : (x == ("__classdict__" : Str)) = false := by decide) : PE X (.Name x pos) (tVar i) := by
  intro pins s σ H Q I h
  obtain ⟨v, e, h⟩ := h
  obtain ⟨m, hn, hl⟩ := I.loc
  obtain ⟨u, r, l⟩ := hl i x v hN e hv
  have fin : EP X pins σ Q u s := ⟨v, H, I, r, h⟩
  rcases l with ⟨hk, hm⟩ | ⟨hk, c, hc, hcell⟩
  · exact wpAny_Name (wpAny_loadName_local I.ok.kind hk hn hm fin) hd
  · rcases hk with hk | hk
    · exact wpAny_Name (wpAny_loadName_cell I.ok.kind hk hc hcell fin) hd
    · exact wpAny_Name (wpAny_loadName_free I.ok.kind hk hc hcell fin hcd) hd
theorem pe_int {i j pos} : PE X (.Constant (.int i) j pos) (tC (.int i)) := fun _ _ _ H _ I h => wpAny_Constant_int ⟨.int i, H, I.tok _, ⟨_, rfl⟩, h⟩
theorem pe_bl {b j pos} : PE X (.Constant (.bool b) j pos) (tC (.bl b)) := fun _ _ _ H _ I h => Constant_bool ⟨.bl b, H, I, rfl, h⟩
theorem pe_str {x j pos} : PE X (.Constant (.str x) j pos) (tC (.str x)) := fun _ _ _ H _ I h => Calls.Constant_str ⟨.str x, H, I.tok _, ⟨_, rfl⟩, h⟩

/-- a global name of the def -/
def Gl (X : Cx) (x : Str) : Prop := X.env.kindOf x = some .globalImplicit
theorem ld_glob {E : Value → Shared → Prop} {pins : List (Addr × Obj)} {s : Shared} {σ : St} {H : Hp} {x : Str} {u : Value} {pos : Pos} {Q : Value → Shared → Prop} (I : Inv X pins σ H s) (hg : Gl X x) (hm : X.mg x = some u) (h : Q u s)
    (hd : (x == ("__debug__" : Str)) = false := by decide) : wpAny (model X.prog X.w) X.A (eval (.Name x pos) X.env) Q E s :=
  Calls.Name_function_global I.ok.kind hg (Calls.loadGlobal_global (by rw [I.ok.glob]; exact I.mod.glob.keeps I.bk) hm h) hd
theorem ld_blt {E : Value → Shared → Prop} {pins : List (Addr × Obj)} {s : Shared} {σ : St} {H : Hp} {x : Str} {u : Value} {pos : Pos} {Q : Value → Shared → Prop} (I : Inv X pins σ H s) (hg : Gl X x) (hm : X.mg x = none) (hv : bootBuiltins x = some u) (h : Q u s)
    (hn : x ≠ "__name__" := by decide) (hd : (x == ("__debug__" : Str)) = false := by decide) : wpAny (model X.prog X.w) X.A (eval (.Name x pos) X.env) Q E s := by
  obtain ⟨mb, h1, h2⟩ := I.mod.blt
  exact Calls.Name_function_global I.ok.kind hg (Calls.loadGlobal_builtin (by rw [I.ok.glob]; exact I.mod.glob.keeps I.bk) hm (by rw [I.ok.blt]; exact h1.keeps I.bk) ((h2 x hn).trans hv) h) hd
theorem pe_bltn {x : Str} {v : V} {u : Value} {pos : Pos} (hg : Gl X x) (hm : X.mg x = none) (hv : bootBuiltins x = some u) (r : RelV v u) (hn : x ≠ "__name__" := by decide) (hd : (x == ("__debug__" : Str)) = false := by decide) : PE X (.Name x pos) (tC v) :=
  fun _ _ _ H _ I h => ld_blt I hg hm hv ⟨v, H, I, r, h⟩ hn hd

/-! ### arithmetic -/
variable {a b : Expr} {ta tb : TE} {pos : Pos}
/-! ### comparisons -/
/-- a comparison as a value, as a test -/
def tB (t : TE) : TT := fun σ H Q => t σ H fun x H1 => ∃ c, x = .bl c ∧ Q c H1
/-- an expression whose value is a bool, as a test -/
theorem pt_val {e : Expr} {t : TE} (h : PE X e t) (he : ∀ whole, isTrue e X.env whole = (do let v ← whole; standAt e.pos; holding [v] (truthy v)) := by intro _; rfl) : PT X e (tB t) := by
  intro pins s σ H Q I hw
  refine isTrue_plain (thn (h pins s σ H _ I hw) fun v s1 ⟨x, H1, I1, r1, q1⟩ => ?_) (he _)
  obtain ⟨d, rfl, q⟩ := q1
  cases r1
  exact wpAny_truthy_bool ⟨H1, I1, q⟩

/-! ### and, or, not -/
variable {tA tB' : TT} {rest : List Expr}
def tAnd (t u : TT) : TT := fun σ H Q => t σ H fun c H1 => if c = true then u σ H1 Q else Q false H1
def tOr (t u : TT) : TT := fun σ H Q => t σ H fun c H1 => if c = true then Q true H1 else u σ H1 Q
def tNot (t : TT) : TT := fun σ H Q => t σ H fun c H1 => Q (!c) H1
theorem pw_and1 (ha : PT X a tA) : PW X (.BoolOp .And [a] pos) tA := by
  intro wh pins s σ H Q I h
  refine isTrue_and (thn (ha pins s σ H Q I h) fun c s1 e => ?_)
  cases c with
  | true => exact isTrue_and_nil e
  | false => exact e
theorem pw_or1 (ha : PT X a tA) : PW X (.BoolOp .Or [a] pos) tA := by
  intro wh pins s σ H Q I h
  refine isTrue_or (thn (ha pins s σ H Q I h) fun c s1 e => ?_)
  cases c with
  | false => exact isTrue_or_nil e
  | true => exact e
theorem pw_and (ha : PT X a tA) (hb : PW X (.BoolOp .And (b :: rest) pos) tB') : PW X (.BoolOp .And (a :: b :: rest) pos) (tAnd tA tB') := by
  intro wh pins s σ H Q I h
  refine isTrue_and (thn (ha pins s σ H _ I h) fun c s1 ⟨H1, I1, q1⟩ => ?_)
  cases c with
  | true => exact hb wh pins s1 σ H1 Q I1 q1
  | false => exact ⟨H1, I1, q1⟩
theorem pw_or (ha : PT X a tA) (hb : PW X (.BoolOp .Or (b :: rest) pos) tB') : PW X (.BoolOp .Or (a :: b :: rest) pos) (tOr tA tB') := by
  intro wh pins s σ H Q I h
  refine isTrue_or (thn (ha pins s σ H _ I h) fun c s1 ⟨H1, I1, q1⟩ => ?_)
  cases c with
  | true => exact ⟨H1, I1, q1⟩
  | false => exact hb wh pins s1 σ H1 Q I1 q1
theorem pt_not (ha : PT X a tA) : PT X (.UnaryOp .Not a pos) (tNot tA) := by
  intro pins s σ H Q I h
  exact isTrue_not (ha pins s σ H (fun c H1 => Q (!c) H1) I h)
/-- .. as values (bools) -/
def tAndV (ta tb : TE) : TE := fun σ H Q => ta σ H fun x H1 => ∃ c, x = .bl c ∧ if c = true then tb σ H1 Q else Q (.bl false) H1
theorem pe_one {op} {t : TE} (h : PE X a t) : PE X (.BoolOp op [a] pos) t := fun pins s σ H Q I hw => BoolOp_one (h pins s σ H Q I hw)
theorem pe_and (ha : PE X a ta) (hb : PE X (.BoolOp .And (b :: rest) pos) tb) : PE X (.BoolOp .And (a :: b :: rest) pos) (tAndV ta tb) := by
  intro pins s σ H Q I h
  refine BoolOp_and (thn (ha pins s σ H _ I h) fun v s1 ⟨x, H1, I1, r1, q1⟩ => ?_)
  obtain ⟨c, rfl, q1⟩ := q1
  cases r1
  refine wpAny_truthy_bool ?_
  cases c with
  | true => exact hb pins s1 σ H1 Q I1 q1
  | false => exact ⟨.bl false, H1, I1, rfl, q1⟩
/-- a if t else b -/
def tIf (t : TT) (ta tb : TE) : TE := fun σ H Q => t σ H fun c H1 => if c = true then ta σ H1 Q else tb σ H1 Q
theorem pe_ifExp {c : Expr} (hc : PT X c tA) (ha : PE X a ta) (hb : PE X b tb) : PE X (.IfExp c a b pos) (tIf tA ta tb) := by
  intro pins s σ H Q I h
  refine wpAny_IfExp (thn (hc pins s σ H _ I h) fun d s1 ⟨H1, I1, q1⟩ => ?_)
  cases d with
  | true => exact ha pins s1 σ H1 Q I1 q1
  | false => exact hb pins s1 σ H1 Q I1 q1
end
end L2

namespace L2
open PySem PySem.Spec PyProof.Rows

/-! ### a list, a tuple that is read: tracked, frozen, or an object of the module -/
def SqL (K : PySem.W.Frag) (H : Hp) (a : Addr) (xs : List V) : Prop :=
  Rd H a (.lst xs) ∨
    ∃ (o : Obj) (its : Array Value) (n : Nat), K.lookup a = some o ∧ o.cls = .type "list" ∧ o.dict = none ∧ o.data = .seq its n ∧ its.size ≤ sizeLine ∧ Vals xs its.toList
def SqT (K : PySem.W.Frag) (H : Hp) (a : Addr) (xs : List V) : Prop :=
  Rd H a (.tup xs) ∨
    ∃ (o : Obj) (its : Array Value) (n : Nat), K.lookup a = some o ∧ o.cls = .type "tuple" ∧ o.data = .seq its n ∧ its.size ≤ sizeLine ∧ Vals xs its.toList
def absV : Value → Option V
  | .none => some .non
  | .bool b => some (.bl b)
  | .int i _ => some (.int i)
  | .str x _ => some (.str x)
  | .bytes b _ => some (.byt b)
  | .float b _ => some (.flt b)
  | .ref a => some (.ref a)
  | .type n => some (.ty n)
  | _ => none
theorem RelV.abs {x : V} {u : Value} (r : RelV x u) : absV u = some x := by
  cases x with
  | non => cases r; rfl
  | bl _ => cases r; rfl
  | int _ => obtain ⟨t, rfl⟩ := r; rfl
  | str _ => obtain ⟨t, rfl⟩ := r; rfl
  | byt _ => obtain ⟨t, rfl⟩ := r; rfl
  | flt _ => obtain ⟨t, rfl⟩ := r; rfl
  | ref _ => cases r; rfl
  | ty _ => cases r; rfl
theorem RelV.inj {x y : V} {u : Value} (r : RelV x u) (q : RelV y u) : x = y := Option.some.inj (r.abs.symm.trans q.abs)
theorem Vals.inj : ∀ {xs ys : List V} {us : List Value}, Vals xs us → Vals ys us → xs = ys
  | _, _, _, .nil, .nil => rfl
  | _, _, _, .cons r t, .cons r' t' => by rw [r.inj r', Vals.inj t t']
section
variable {X : Cx} {pins : List (Addr × Obj)} {σ : St} {H : Hp} {s : Shared} {a : Addr} {xs ys : List V}
theorem SqL.of {K : PySem.W.Frag} (h : H a = some (.lst xs)) : SqL K H a xs := .inl (.inl h)
theorem SqT.of {K : PySem.W.Frag} (h : H a = some (.tup xs)) : SqT K H a xs := .inl (.inl h)
theorem Inv.list (I : Inv X pins σ H s) (h : SqL X.K H a xs) : ∃ its : List Value, Vals xs its ∧ PlainL s.heap a its.toArray ∧ xs.length ≤ sizeLine := by
  rcases h with h | ⟨o, its, n, hk, hc, hd, hs, hz, r⟩
  · obtain ⟨z, its, n, r, e⟩ := h.ok I.hok
    exact ⟨its, r, ⟨_, n, e, rfl, rfl, rfl⟩, z⟩
  · refine ⟨its.toList, r, ⟨o, n, I.kIn a o hk, hc, hd, by simpa using hs⟩, ?_⟩
    have e := r.length
    simp only [Array.length_toList] at e
    omega
theorem Inv.tuple (I : Inv X pins σ H s) (h : SqT X.K H a xs) : ∃ its : List Value, Vals xs its ∧ IsTup s.heap a its.toArray ∧ xs.length ≤ sizeLine := by
  rcases h with h | ⟨o, its, n, hk, hc, hs, hz, r⟩
  · obtain ⟨z, its, r, p⟩ := h.ok I.hok
    exact ⟨its, r, p, z⟩
  · refine ⟨its.toList, r, ⟨o, I.kIn a o hk, hc, n, by simpa using hs⟩, ?_⟩
    have e := r.length
    simp only [Array.length_toList] at e
    omega
theorem Inv.list_inj (I : Inv X pins σ H s) (h : SqL X.K H a xs) (h' : SqL X.K H a ys) : xs = ys := by
  obtain ⟨its, r, ⟨o, n, e, _, _, d⟩, _⟩ := I.list h
  obtain ⟨its', r', ⟨o', n', e', _, _, d'⟩, _⟩ := I.list h'
  rw [e] at e'; cases e'
  rw [d] at d'
  injection d' with d1 _
  have : its = its' := by simpa using congrArg Array.toList d1
  subst this
  exact r.inj r'
theorem Inv.tuple_inj (I : Inv X pins σ H s) (h : SqT X.K H a xs) (h' : SqT X.K H a ys) : xs = ys := by
  obtain ⟨its, r, ⟨o, e, _, n, d⟩, _⟩ := I.tuple h
  obtain ⟨its', r', ⟨o', e', _, n', d'⟩, _⟩ := I.tuple h'
  rw [e] at e'; cases e'
  rw [d] at d'
  injection d' with d1 _
  have : its = its' := by simpa using congrArg Array.toList d1
  subst this
  exact r.inj r'
end

/-! ### another wish about exceptions -/
abbrev Cx.wish (X : Cx) (E : Value → Shared → Prop) : Cx := { X with xe := E }
/-- no exception leaves -/
abbrev Cx.nox (X : Cx) : Cx := X.wish fun _ _ => False
theorem Cx.Ok.wish {X : Cx} (ok : X.Ok) (E : Value → Shared → Prop) : (X.wish E).Ok :=
  ⟨ok.mod, ok.kind, ok.glob, ok.blt, ok.above, ok.inj, ok.has, ok.cab, ok.hd, ok.frames, ok.stk, ok.exf, ok.bs, ok.bsz, ok.noex, ok.exfs, ok.funs, ok.frf⟩
theorem Cx.Ok.unwish {X : Cx} {E : Value → Shared → Prop} (ok : (X.wish E).Ok) : X.Ok :=
  ⟨ok.mod, ok.kind, ok.glob, ok.blt, ok.above, ok.inj, ok.has, ok.cab, ok.hd, ok.frames, ok.stk, ok.exf, ok.bs, ok.bsz, ok.noex, ok.exfs, ok.funs, ok.frf⟩
section
variable {X : Cx} {pins : List (Addr × Obj)} {σ : St} {H : Hp} {s : Shared} {E : Value → Shared → Prop}
theorem Inv.wish (I : Inv X pins σ H s) (E : Value → Shared → Prop) : Inv (X.wish E) pins σ H s := ⟨I.ok.wish E, I.os, I.bare, I.base, I.loc, I.cell, I.free, I.freeC, I.pin, I.hok, I.len⟩
theorem Inv.unwish (I : Inv (X.wish E) pins σ H s) : Inv X pins σ H s := ⟨I.ok.unwish, I.os, I.bare, I.base, I.loc, I.cell, I.free, I.freeC, I.pin, I.hok, I.len⟩
theorem SP.unwish {D : Ends} {f : Flow} {s' : Shared} (h : SP (X.wish E) pins D f s') : SP X pins D f s' := by
  cases f with
  | next => obtain ⟨σ', H', I, q⟩ := h; exact ⟨σ', H', I.unwish, q⟩
  | brk => obtain ⟨σ', H', I, q⟩ := h; exact ⟨σ', H', I.unwish, q⟩
  | cont => obtain ⟨σ', H', I, q⟩ := h; exact ⟨σ', H', I.unwish, q⟩
  | ret u => obtain ⟨v, σ', H', I, r, q⟩ := h; exact ⟨v, σ', H', I.unwish, r, q⟩
theorem PE.nox {e : Expr} {t : TE} (h : PE X.nox e t) : PE X e t := fun pins s σ H Q I hw =>
  wpAny_mono (h pins s σ H Q (I.wish _) hw) (fun _ _ ⟨v, H', I', r, q⟩ => ⟨v, H', I'.unwish, r, q⟩) fun _ _ z => False.elim z
theorem PT.nox {e : Expr} {t : TT} (h : PT X.nox e t) : PT X e t := fun pins s σ H Q I hw =>
  wpAny_mono (h pins s σ H Q (I.wish _) hw) (fun _ _ ⟨H', I', q⟩ => ⟨H', I'.unwish, q⟩) fun _ _ z => False.elim z
theorem PSs.nox {st : List Stmt} {t : TS} (h : PSs X.nox st t) : PSs X st t := fun pins s σ H D I hw =>
  wpAny_mono (h pins s σ H D (I.wish _) hw) (fun _ _ q => q.unwish) fun _ _ z => False.elim z
end

/-! ### blocks and small statements -/
section
variable {X : Cx} {st : Stmt} {rest : List Stmt} {t u : TS} {e : Expr} {te : TE} {pos : Pos}
def tNext : TS := fun D σ H => D.nx σ H
def tSeq (t u : TS) : TS := fun D σ H => t { D with nx := u D } σ H
theorem pss_nil : PSs X [] tNext := fun _ _ σ H _ I h => wpAny_execs_nil ⟨σ, H, I, h⟩
theorem pss_cons (h1 : PS X st t) (h2 : PSs X rest u) : PSs X (st :: rest) (tSeq t u) := by
  intro pins s σ H D I h
  refine wpAny_execs_cons (thn (h1 pins s σ H { D with nx := u D } I h) fun f s1 q => ?_)
  cases f with
  | next =>
    obtain ⟨σ', H', I', q⟩ := q
    exact h2 pins s1 σ' H' D I' q
  | ret v => exact q
  | brk => exact q
  | cont => exact q
theorem pss_one (h1 : PS X st t) : PSs X [st] t := by
  intro pins s σ H D I h
  refine wpAny_execs_cons (thn (h1 pins s σ H D I h) fun f s1 q => ?_)
  cases f with
  | next => exact wpAny_execs_nil q
  | ret v => exact q
  | brk => exact q
  | cont => exact q
/-- in a def's body nothing is shown -/
theorem Inv.quiet {pins : List (Addr × Obj)} {σ : St} {H : Hp} {s : Shared} (I : Inv X pins σ H s) : interactive X.env = false := by simp [interactive, I.ok.kind]
/-- an expression whose value is dropped -/
def tDrop (te : TE) : TS := fun D σ H => te σ H fun _ H1 => D.nx σ H1
theorem ps_expr (he : PE X e te) (hs : swapsWith e none pos.line X.env = pure false := by rfl) : PS X (.Expr e pos) (tDrop te) := by
  intro pins s σ H D I h
  exact wpAny_Expr_any (thn (he pins s σ H _ I h) fun v s1 ⟨x, H1, I1, r1, q1⟩ => ⟨σ, H1, I1, q1⟩) I.quiet hs
def tRet (te : TE) : TS := fun D σ H => te σ H D.rt
theorem ps_ret (he : PE X e te) : PS X (.Return (some e) pos) (tRet te) := by
  intro pins s σ H D I h
  exact wpAny_Return_some (thn (he pins s σ H _ I h) fun v s1 ⟨x, H1, I1, r1, q1⟩ => ⟨x, σ, H1, I1, r1, q1⟩)
def tIfS (c : TT) (t u : TS) : TS := fun D σ H => c σ H fun b H1 => if b = true then t D σ H1 else u D σ H1
theorem ps_if {c : Expr} {a b : List Stmt} {tc : TT} (hc : PT X c tc) (ha : PSs X a t) (hb : PSs X b u) : PS X (.If c a b pos) (tIfS tc t u) := by
  intro pins s σ H D I h
  refine wpAny_If (thn (hc pins s σ H _ I h) fun d s1 ⟨H1, I1, q1⟩ => ?_)
  cases d with
  | true => exact ha pins s1 σ H1 D I1 q1
  | false => exact hb pins s1 σ H1 D I1 q1
end

/-! ### targets -/
abbrev TG := V → St → Hp → (St → Hp → Prop) → Prop
abbrev TGs := List V → St → Hp → (St → Hp → Prop) → Prop
def PG (X : Cx) (target : Expr) (t : TG) : Prop :=
  ∀ (pins : List (Addr × Obj)) (s : Shared) (σ : St) (H : Hp) (v : V) (u : Value) (Q : St → Hp → Prop), Inv X pins σ H s → RelV v u → t v σ H Q →
    wpAny (model X.prog X.w) X.A (assign target X.env u) (fun _ s' => ∃ σ' H', Inv X pins σ' H' s' ∧ Q σ' H') X.xe s
/-- several targets, one after another -/
def PGs (X : Cx) (ts : List Expr) (t : TGs) : Prop :=
  ∀ (pins : List (Addr × Obj)) (s : Shared) (σ : St) (H : Hp) (vs : List V) (us : List Value) (Q : St → Hp → Prop), Inv X pins σ H s → Vals vs us → t vs σ H Q →
    wpAny (model X.prog X.w) X.A (assignInOrder ((assignEach ts X.env).map (·.2)) us) (fun _ s' => ∃ σ' H', Inv X pins σ' H' s' ∧ Q σ' H') X.xe s
/-- o[i] = v, by values -/
abbrev TSet := V → V → V → Hp → (Hp → Prop) → Prop
def PSet (X : Cx) (t : TSet) : Prop :=
  ∀ (pins : List (Addr × Obj)) (s : Shared) (σ : St) (H : Hp) (o i v : V) (ov iv u : Value) (Q : Hp → Prop), Inv X pins σ H s → RelV o ov → RelV i iv → RelV v u → t o i v H Q →
    wpAny (model X.prog X.w) X.A (setItem ov iv u) (fun _ s' => ∃ H', Inv X pins σ H' s' ∧ Q H') X.xe s
/-- a op= b, by values -/
abbrev TIp := V → V → Hp → VK → Prop
def PIp (X : Cx) (op : Operator) (t : TIp) : Prop :=
  ∀ (pins : List (Addr × Obj)) (s : Shared) (σ : St) (H : Hp) (x y : V) (v u : Value) (Q : VK), Inv X pins σ H s → RelV x v → RelV y u → t x y H Q →
    wpAny (model X.prog X.w) X.A (inplaceOp op v u) (EP X pins σ Q) X.xe s
section
variable {X : Cx} {pos : Pos}
def gName (i : Nat) : TG := fun v σ H Q => Q (σ.set i (some v)) H
theorem pg_name {i : Nat} {x : Str} (hN : X.N.Nodup) (hi : X.N[i]? = some x) (hx : Loc X.env.scope x) (hf : X.fn x = true ∨ X.env.scope.names.lookup x = some .local := by first | exact .inl rfl | exact .inr rfl | assumption) : PG X (.Name x pos) (gName i) := by
  intro pins s σ H v u Q I r h
  exact wpAny_assign_Name (store_ok I hN hi hx r (fun s' I' => ⟨_, H, I', h⟩) hf)
def gNil : TGs := fun vs σ H Q => vs = [] ∧ Q σ H
def gCons (t : TG) (u : TGs) : TGs := fun vs σ H Q => ∃ v r, vs = v :: r ∧ t v σ H fun σ' H' => u r σ' H' Q
theorem pgs_nil : PGs X [] gNil := by
  intro pins s σ H vs us Q I r h
  obtain ⟨e, h⟩ := h
  subst e
  cases r
  exact assignInOrder_nil ⟨σ, H, I, h⟩
theorem pgs_cons {e : Expr} {es : List Expr} {t : TG} {u : TGs} (h1 : PG X e t) (h2 : PGs X es u)
    (hs : (assignEach (e :: es) X.env).map (·.2) = assign e X.env :: (assignEach es X.env).map (·.2) := by rfl) : PGs X (e :: es) (gCons t u) := by
  intro pins s σ H vs us Q I r h
  obtain ⟨v, vr, e1, h⟩ := h
  subst e1
  cases r with
  | cons r rr =>
    rw [hs]
    refine assignInOrder_cons (thn (h1 pins s σ H _ _ _ I r h) fun _ s1 ⟨σ1, H1, I1, q1⟩ => ?_)
    exact h2 pins s1 σ1 H1 _ _ Q I1 rr q1
/-- (a, b, ..) = a tuple of that length -/
def gTup (K : PySem.W.Frag) (n : Nat) (t : TGs) : TG := fun v σ H Q => ∃ a xs, v = .ref a ∧ SqT K H a xs ∧ xs.length = n ∧ t xs σ H Q
theorem pg_tup {es : List Expr} {k : Nat} {t : TGs} {n : Nat} (hc : X.calm = true) (h : PGs X es t)
    (hn : (assignEach es X.env).length = n := by rfl) (hst : (assignEach es X.env).findIdx? (·.1) = none := by rfl) : PG X (.Tuple es k pos) (gTup X.K n t) := by
  intro pins s σ H v u Q I r hw
  obtain ⟨a, xs, e1, hq, hl, hw⟩ := hw
  subst e1
  cases r
  obtain ⟨its, rv, ht, hz⟩ := I.tuple hq
  refine assign_Tuple_tuple (I.ok.hd hc) ht (by simp [hn, ← hl, rv.length]) hst fun h' hx => ?_
  have I1 : Inv X pins σ H { s with heap := h' } := I.kept (t' := s.toks) fun b o e => hx b o (Nat.ne_of_lt (Heap.lt_size e)) e
  exact h pins _ σ H xs _ Q I1 (by simpa using rv) hw
/-- o[i] = .. -/
def gSub (to ti : TE) (t : TSet) : TG := fun v σ H Q => to σ H fun o H1 => ti σ H1 fun i H2 => t o i v H2 fun H3 => Q σ H3
theorem pg_sub {o i : Expr} {to ti : TE} {t : TSet} (ho : PE X o to) (hi : PE X i ti) (hs : PSet X t)
    (ha : ∀ v, assign (.Subscript o i pos) X.env v = (do
      let ov ← holding [v] (eval o X.env)
      let iv ← holding [v, ov] (eval i X.env)
      standAt pos
      holding [v, ov, iv] (setItem ov iv v)
      release [v, ov, iv] []) := by intro _; rfl) : PG X (.Subscript o i pos) (gSub to ti t) := by
  intro pins s σ H v u Q I r h
  rw [ha]
  refine wpAny_bind (wpAny_holding (thn (ho pins s σ H _ I h) fun ov s1 ⟨x, H1, I1, r1, q1⟩ => ?_))
  refine wpAny_bind (wpAny_holding (thn (hi pins s1 σ H1 _ I1 q1) fun iv s2 ⟨y, H2, I2, r2, q2⟩ => ?_))
  refine wpAny_bind (wpAny_standAt (wpAny_bind (wpAny_holding (thn (hs pins s2 σ H2 x y v ov iv u _ I2 r1 r2 r q2) fun _ s3 ⟨H3, I3, q3⟩ => ?_))))
  exact wpAny_release ⟨σ, H3, I3, q3⟩
/-- target = value -/
def tAsg (te : TE) (g : TG) : TS := fun D σ H => te σ H fun x H1 => g x σ H1 D.nx
theorem ps_asg {tg e : Expr} {te : TE} {g : TG} (he : PE X e te) (hg : PG X tg g) (hs : swapsWithSole [tg] e pos.line X.env = pure false := by rfl) (hw : swappedStores [tg] e X.env = pure none := by rfl)
    (h1 : (assignEach [tg] X.env).map (·.2) = [assign tg X.env] := by rfl) : PS X (.Assign [tg] e pos) (tAsg te g) := by
  intro pins s σ H D I h
  refine wpAny_Assign_stores (thn (he pins s σ H _ I h) fun v s1 ⟨x, H1, I1, r1, q1⟩ => ?_) hs hw
  rw [h1]
  exact thn (hg pins s1 σ H1 x v _ I1 r1 q1) fun _ s2 q => q
/-- name = value -/
theorem ps_set {i : Nat} {x : Str} {e : Expr} {te : TE} {pos' : Pos} (hN : X.N.Nodup) (hi : X.N[i]? = some x) (hx : Loc X.env.scope x) (he : PE X e te) (hs : swapsWith e (some (.Name x pos')) pos.line X.env = pure false := by rfl) (hf : X.fn x = true ∨ X.env.scope.names.lookup x = some .local := by first | exact .inl rfl | exact .inr rfl | assumption) :
    PS X (.Assign [.Name x pos'] e pos) (tAsg te (gName i)) := by
  intro pins s σ H D I h
  refine wpAny_Assign_Name (thn (he pins s σ H _ I h) fun v s1 ⟨y, H1, I1, r1, q1⟩ => ?_) hs
  exact store_ok I1 hN hi hx r1 (fun s2 I2 => ⟨_, H1, I2, q1⟩) hf
/-- a, b = x, y with plain local names: stored from the right; the pair itself is not tracked (the opening rows as in PyProof/Rows/TupAssign.lean:23) -/
def tPar (i j : Nat) (ta : TA) : TS := fun D σ H => ta σ H fun vs H1 => ∃ v w, vs = [v, w] ∧ D.nx ((σ.set i (some v)).set j (some w)) H1
theorem ps_par {i j : Nat} {x y : Str} {a b : Expr} {ta : TA} {px py pt : Pos} {kt k2 pt2} (hc : X.calm = true) (hN : X.N.Nodup) (hi : X.N[i]? = some x) (hj : X.N[j]? = some y) (hij : i ≠ j)
    (hx : X.env.scope.names.lookup x = some .local) (hy : X.env.scope.names.lookup y = some .local) (ha : PA X [a, b] ta)
    (hw : swappedStores [.Tuple [.Name x px, .Name y py] kt pt] (.Tuple [a, b] k2 pt2) X.env = pure (some [x, y]))
    (hs : swapsWithSole [.Tuple [.Name x px, .Name y py] kt pt] (.Tuple [a, b] k2 pt2) pos.line X.env = pure false := by rfl) :
    PS X (.Assign [.Tuple [.Name x px, .Name y py] kt pt] (.Tuple [a, b] k2 pt2) pos) (tPar i j ta) := by
  intro pins s σ H D I h
  rw [exec_Assign_arm]
  refine wpAny_bind (wpAny_standAt ?_)
  rw [hs]
  refine wpAny_bind (wpAny_pure ?_)
  rw [if_neg (by decide)]
  refine wpAny_bind (Tuple_ (thn (ha _ pins s σ H _ I h) fun us s1 ⟨vs, H1, I1, r1, q1⟩ => ?_))
  obtain ⟨v, w, e1, q1⟩ := q1
  subst e1
  obtain ⟨u1, u2, rfl, rv, rw'⟩ : ∃ u1 u2, us = [u1, u2] ∧ RelV v u1 ∧ RelV w u2 := by
    cases r1 with
    | cons p q =>
      cases q with
      | cons p' q' =>
        cases q'
        exact ⟨_, _, rfl, p, p'⟩
  refine wpAny_newObj_type ?_ (by show 2 ≤ sizeLine; decide)
  have I2 : Inv X pins σ H1 { s1 with heap := s1.heap.push { cls := .type "tuple", data := .seq [u1, u2].toArray } } := I1.kept (t' := s1.toks) fun b o e => Heap.get?_push_of_some _ e
  rw [hw]
  refine wpAny_bind (wpAny_pure ?_)
  show wpAny (model X.prog X.w) X.A (do rule "assign.swapped-stores"; let items ← unpackItems (.ref s1.heap.objs.size) 2 none; assignInOrder [fun v => bindName X.env y v, fun v => bindName X.env x v] items.reverse; pure Flow.next) _ _ _
  refine wpAny_bind (wpAny_rule (wpAny_bind (unpackItems_tuple (items := #[u1, u2]) (I.ok.hd hc) (IsTup.new s1.heap _) fun h' hx' => ?_)))
  have I3 := I2.kept (h' := h') (t' := s1.toks) fun b o e => hx' b o (Nat.ne_of_lt (Heap.lt_size e)) e
  show wpAny _ _ (assignInOrder [fun v => bindName X.env y v, fun v => bindName X.env x v] [u2, u1] >>= fun _ => pure Flow.next) _ _ _
  refine wpAny_bind (assignInOrder_cons (wpAny_bindName (store_ok I3 hN hj (.inl hy) rw' (fun s2 I4 => ?_) (.inr hy))))
  refine assignInOrder_cons (wpAny_bindName (store_ok I4 hN hi (.inl hx) rv (fun s3 I5 => assignInOrder_nil (wpAny_pure ?_)) (.inr hx)))
  rw [List.set_comm _ _ (Ne.symm hij)] at I5
  exact ⟨_, H1, I5, q1⟩
/-- name op= e -/
def tAug (i : Nat) (te : TE) (ti : TIp) : TS := fun D σ H => ∃ x, σ[i]? = some (some x) ∧ te σ H fun y H1 => ti x y H1 fun z H2 => D.nx (σ.set i (some z)) H2
theorem ps_aug {i : Nat} {x : Str} {e : Expr} {te : TE} {op : Operator} {ti : TIp} {pos' : Pos} (hN : X.N.Nodup) (hi : X.N[i]? = some x) (hx : Loc X.env.scope x) (he : PE X e te) (ho : PIp X op ti) (hf : X.fn x = true ∨ X.env.scope.names.lookup x = some .local := by first | exact .inl rfl | exact .inr rfl | assumption) :
    PS X (.AugAssign (.Name x pos') op e pos) (tAug i te ti) := by
  intro pins s σ H D I h
  obtain ⟨v, e1, h⟩ := h
  obtain ⟨m, hn, hl⟩ := I.loc
  have vis : Vis X.env.scope x := by rcases hx with k | k; exact .inl k; exact .inr (.inl k)
  obtain ⟨u, r, l⟩ := hl i x v hi e1 vis
  refine wpAny_AugAssign_Name ?_
  have go : wpAny (model X.prog X.w) X.A (eval e X.env) (fun w s₂ => wpAny (model X.prog X.w) X.A (inplaceOp op u w) (fun r s₃ => wpAny (model X.prog X.w) X.A (storeName X.env x r) (fun _ => SP X pins D .next) X.xe s₃) X.xe s₂) X.xe s := by
    refine thn (he pins s σ H _ I h) fun w s1 ⟨y, H1, I1, r1, q1⟩ => ?_
    refine thn (ho pins s1 σ H1 v y u w _ I1 r r1 q1) fun z s2 ⟨zv, H2, I2, r2, q2⟩ => ?_
    exact store_ok I2 hN hi hx r2 (fun s3 I3 => ⟨_, H2, I3, q2⟩) hf
  rcases l with ⟨hk, hm⟩ | ⟨hk, c, hc, hcell⟩
  · exact wpAny_loadName_local I.ok.kind hk hn hm go
  · rcases hk with hk | hk
    · exact wpAny_loadName_cell I.ok.kind hk hc hcell go
    · rcases hx with k | k
      · have : X.env.scope.names.lookup x = some .free := hk
        rw [k] at this; cases this
      · have : X.env.scope.names.lookup x = some .free := hk
        rw [k] at this; cases this
/-- ints -/
def ipI (f : Int → Int → Int) : TIp := fun x y H Q => ∃ i j, x = .int i ∧ y = .int j ∧ Q (.int (f i j)) H
theorem ip_add : PIp X .Add (ipI fun i j => i + j) := by
  intro pins s σ H x y v u Q I r1 r2 h
  obtain ⟨i, j, e1, e2, q⟩ := h
  subst e1; subst e2
  obtain ⟨t, rfl⟩ := r1
  obtain ⟨t', rfl⟩ := r2
  exact iadd_int ⟨.int _, H, I.tok _, ⟨_, rfl⟩, q⟩
end

/-! ### while -/
section
variable {X : Cx} {pos : Pos}
end

/-! ### what a loop or a comprehension walks -/
/-- at turn i: it yields x (the heap may grow), or it stops -/
structure It where
  go : Nat → Hp → Prop
  yld : Nat → Hp → V → Hp → Prop
  stop : Nat → Hp → Prop
/-- the iterator's own objects may turn: they are not the frame's, not pinned, younger than the entry (or a comprehension's own) -/
def FpOk (X : Cx) (pins : List (Addr × Obj)) (H : Hp) (b : Addr) : Prop :=
  H b = none ∧ b ≠ X.env.locals ∧ b ∉ X.fs ∧ (b ∈ X.ex ∨ X.s₀.heap.objs.size ≤ b) ∧ (∀ x c, X.env.cells.lookup x = some c → c ≠ b) ∧ ∀ p ∈ X.pn ++ pins, p.1 ≠ b
theorem Inv.fpOk {X : Cx} {pins : List (Addr × Obj)} {σ : St} {H H' : Hp} {s : Shared} {b : Addr} (I : Inv X pins σ H s) (hb : s.heap.objs.size ≤ b) (hn : H' b = none) : FpOk X pins H' b := by
  refine ⟨hn, Nat.ne_of_gt (Nat.lt_of_lt_of_le I.lt hb), I.nofs hb, .inr (Nat.le_trans I.sz hb), fun x c e z => ?_, fun p hp z => ?_⟩
  · obtain ⟨v, q⟩ := I.cell x c e
    exact absurd (Nat.lt_of_lt_of_le q.lt (by rw [z]; exact hb)) (Nat.lt_irrefl _)
  · exact absurd (Nat.lt_of_lt_of_le (Heap.lt_size (I.pin p hp).1) (by rw [z]; exact hb)) (Nat.lt_irrefl _)
structure Turn (P : Program) (w : World) (K : PySem.W.Frag) (tg : Expr) (J : It) (fp : List Addr) (it : Addr) (tn : Nat → Heap → Prop) : Prop where
  mem : it ∈ fp
  obj : ∀ i h, tn i h → ∀ b ∈ fp, ∃ o, h.get? b = some o ∧ ∀ v, o.data ≠ .cell v
  keep : ∀ i h h', tn i h → (∀ b ∈ fp, ∀ o, h.get? b = some o → h'.get? b = some o) → tn i h'
  item : ∀ (X : Cx), X.prog = P → X.w = w → X.K = K → X.calm = true → ∀ (i : Nat) (pins : List (Addr × Obj)) (s : Shared) (σ : St) (H : Hp) (E : Value → Shared → Prop), Inv X pins σ H s → (∀ b ∈ fp, FpOk X pins H b) → tn i s.heap → J.go i H →
    wpAny (model P w) X.A (pyNext (.ref it)) (fun r s1 => ∃ u, r = some u ∧
      wpAny (model P w) X.A (letOwnedTupleGo tg (.ref it) u) (fun _ s2 => ∃ x H', Inv X pins σ H' s2 ∧ RelV x u ∧ J.yld i H x H' ∧ tn (i + 1) s2.heap ∧ ∀ b ∈ fp, H' b = none) E s1) E s
  done : ∀ (X : Cx), X.prog = P → X.w = w → X.K = K → X.calm = true → ∀ (i : Nat) (pins : List (Addr × Obj)) (s : Shared) (σ : St) (H : Hp) (E : Value → Shared → Prop), Inv X pins σ H s → (∀ b ∈ fp, FpOk X pins H b) → tn i s.heap → J.stop i H →
    wpAny (model P w) X.A (pyNext (.ref it)) (fun r s1 => r = none ∧ Inv X pins σ H s1) E s
  self : ∀ (A : Around) (i : Nat) (s : Shared) (Q : Value → Shared → Prop) (E : Value → Shared → Prop), tn i s.heap → Q (.ref it) s → wpAny (model P w) A (pyIter (.ref it)) Q E s
abbrev TI := St → Hp → (It → Hp → Prop) → Prop
/-- an iterator has come -/
def PIE (X : Cx) (pins : List (Addr × Obj)) (σ : St) (tg : Expr) (R : It → Hp → Prop) (itv : Value) (s2 : Shared) : Prop :=
  ∃ (it : Addr) (fp : List Addr) (tn : Nat → Heap → Prop) (J : It) (H' : Hp), itv = .ref it ∧ Inv X pins σ H' s2 ∧ Turn X.prog X.w X.K tg J fp it tn ∧ tn 0 s2.heap ∧ (∀ b ∈ fp, FpOk X pins H' b) ∧ R J H'
def PI (X : Cx) (tg iter : Expr) (wi : TI) : Prop :=
  ∀ (pins : List (Addr × Obj)) (s : Shared) (σ : St) (H : Hp) (R : It → Hp → Prop), Inv X pins σ H s → wi σ H R →
    wpAny (model X.prog X.w) X.A (eval iter X.env) (fun v s1 => wpAny (model X.prog X.w) X.A (pyIter v) (PIE X pins σ tg R) X.xe s1) X.xe s

/-- the step ahead of the store is nothing for an iterator that keeps no tuple -/
theorem go_of {M : Model} {A : Around} {E : Value → Shared → Prop} {s : Shared} {tg : Expr} {it : Addr} {u : Value} {o : Obj} {n : String} {vs : Array Value} {Q : Unit → Shared → Prop} (ho : s.heap.get? it = some o) (hc : o.cls = .type n) (hd : o.data = .fields vs)
    (hn : ["enumerate", "zip", "dict_itemiterator", "dict_reverseitemiterator", "odict_iterator", "itertools.zip_longest", "itertools.pairwise"].contains n = false) (hQ : Q () s) : wpAny M A (letOwnedTupleGo tg (.ref it) u) Q E s := by
  unfold letOwnedTupleGo
  cases tg <;> first
    | exact wpAny_pure hQ
    | (cases u <;> first
        | exact wpAny_pure hQ
        | (refine wpAny_bind (wpAny_load ho ?_)
           rw [hc, hd]
           show wpAny M A (if (["enumerate", "zip", "dict_itemiterator", "dict_reverseitemiterator", "odict_iterator", "itertools.zip_longest", "itertools.pairwise"].contains n && vs[0]? == some (rawInt _)) = true then _ else _) Q E s
           rw [if_neg (by intro h; rw [hn, Bool.false_and] at h; cases h)]
           exact wpAny_pure hQ))

/-- the list at a, as it stands at each turn (a loop may append to it) -/
def Itl (K : PySem.W.Frag) (a : Addr) : It :=
  ⟨fun i H => ∃ xs x, SqL K H a xs ∧ xs[i]? = some x, fun i H x H' => H' = H ∧ ∀ xs, SqL K H a xs → xs[i]? = some x, fun i H => ∃ xs, SqL K H a xs ∧ xs.length ≤ i⟩
def Itt (K : PySem.W.Frag) (a : Addr) : It :=
  ⟨fun i H => ∃ xs x, SqT K H a xs ∧ xs[i]? = some x, fun i H x H' => H' = H ∧ ∀ xs, SqT K H a xs → xs[i]? = some x, fun i H => ∃ xs, SqT K H a xs ∧ xs.length ≤ i⟩
/-- lo, lo + 1, .. (n of them) -/
def Itr (lo : Int) (n : Nat) : It := ⟨fun i _ => i < n, fun i H x H' => H' = H ∧ x = .int (lo + i), fun i _ => n ≤ i⟩
theorem turn_list {P : Program} {w : World} {K : PySem.W.Frag} {tg : Expr} (a it : Addr) : Turn P w K tg (Itl K a) [it] it (fun i h => h.IsListIter it a i) where
  mem := by simp
  obj := fun i h st b hb => by
    have e : b = it := by simpa using hb
    subst e
    obtain ⟨o, e, c, d⟩ := st
    exact ⟨o, e, fun v z => by rw [d] at z; cases z⟩
  keep := fun i h h' st k => st.at fun o e => k it (by simp) o e
  item := by
    intro X hP hw hK hc i pins s σ H E I hf st hg
    subst hP hw hK
    obtain ⟨xs, x, hq, hx⟩ := hg
    obtain ⟨its, rv, p, hz⟩ := I.list hq
    obtain ⟨u, hu, ru⟩ := rv.get hx
    obtain ⟨f0, f1, f2, f3, f4, f5⟩ := hf it (by simp)
    refine wpAny_pyNext_list_item st p.isList (x := u) (by simpa using hu) fun h' st' sb => ?_
    have I1 : Inv X pins σ H { s with heap := h' } := I.turned (t' := s.toks) (fun b o hb e => (sb.2 b hb).trans e) f0 f1 f3 f4 f5
    obtain ⟨o, e, c, d⟩ := id st'
    exact ⟨u, rfl, go_of (s := { s with heap := h' }) e c d (by decide) ⟨x, H, I1, ru, ⟨rfl, fun ys hy => by rw [I.list_inj hy hq]; exact hx⟩, st', fun b hb => (hf b hb).1⟩⟩
  done := by
    intro X hP hw hK hc i pins s σ H E I hf st hg
    subst hP hw hK
    obtain ⟨xs, hq, hx⟩ := hg
    obtain ⟨its, rv, p, hz⟩ := I.list hq
    obtain ⟨f0, f1, f2, f3, f4, f5⟩ := hf it (by simp)
    have hl := rv.length
    exact wpAny_pyNext_list_end (I.ok.hd hc) st p.isList (by simp; omega) fun h' eb => ⟨rfl, I.turned (t' := s.toks) (fun b o hb e => eb b o hb e) f0 f1 f3 f4 f5⟩
  self := fun _ _ _ _ _ st h => wpAny_pyIter_listiter st h
theorem turn_tuple {P : Program} {w : World} {K : PySem.W.Frag} {tg : Expr} (a it : Addr) : Turn P w K tg (Itt K a) [it] it (fun i h => h.IsTupleIter it a i) where
  mem := by simp
  obj := fun i h st b hb => by
    have e : b = it := by simpa using hb
    subst e
    obtain ⟨o, e, c, d⟩ := st
    exact ⟨o, e, fun v z => by rw [d] at z; cases z⟩
  keep := fun i h h' st k => st.at fun o e => k it (by simp) o e
  item := by
    intro X hP hw hK hc i pins s σ H E I hf st hg
    subst hP hw hK
    obtain ⟨xs, x, hq, hx⟩ := hg
    obtain ⟨its, rv, p, hz⟩ := I.tuple hq
    obtain ⟨u, hu, ru⟩ := rv.get hx
    obtain ⟨f0, f1, f2, f3, f4, f5⟩ := hf it (by simp)
    refine wpAny_pyNext_tuple_item st (show s.heap.IsTuple a its.toArray from p) (x := u) (by simpa using hu) fun h' st' sb => ?_
    have I1 : Inv X pins σ H { s with heap := h' } := I.turned (t' := s.toks) (fun b o hb e => (sb.2 b hb).trans e) f0 f1 f3 f4 f5
    obtain ⟨o, e, c, d⟩ := id st'
    exact ⟨u, rfl, go_of (s := { s with heap := h' }) e c d (by decide) ⟨x, H, I1, ru, ⟨rfl, fun ys hy => by rw [I.tuple_inj hy hq]; exact hx⟩, st', fun b hb => (hf b hb).1⟩⟩
  done := by
    intro X hP hw hK hc i pins s σ H E I hf st hg
    subst hP hw hK
    obtain ⟨xs, hq, hx⟩ := hg
    obtain ⟨its, rv, p, hz⟩ := I.tuple hq
    obtain ⟨f0, f1, f2, f3, f4, f5⟩ := hf it (by simp)
    have hl := rv.length
    exact wpAny_pyNext_tuple_end (I.ok.hd hc) st (show s.heap.IsTuple a its.toArray from p) (by simp; omega) fun h' eb => ⟨rfl, I.turned (t' := s.toks) (fun b o hb e => eb b o hb e) f0 f1 f3 f4 f5⟩
  self := fun _ _ _ _ _ st h => wpAny_pyIter_tupleiter st h
theorem turn_range {P : Program} {w : World} {K : PySem.W.Frag} {tg : Expr} (it : Addr) (lo : Int) (n : Nat) : Turn P w K tg (Itr lo n) [it] it (fun i h => IsRangeIter h it (lo + (i : Nat) * 1) ((n : Int) - (i : Nat)) 1) where
  mem := by simp
  obj := fun i h st b hb => by
    have e : b = it := by simpa using hb
    subst e
    exact ⟨_, st, fun v z => by
      have z' : Data.fields _ = Data.cell v := z
      cases z'⟩
  keep := fun i h h' st k => k it (by simp) _ st
  item := by
    intro X hP hw hK hc i pins s σ H E I hf st hg
    subst hP hw hK
    obtain ⟨f0, f1, f2, f3, f4, f5⟩ := hf it (by simp)
    have W := Walks.range (prog := X.prog) (w := X.w) (I.ok.hd hc) it lo 1 n
    refine W.item i s _ _ hg st fun v h' tk hv st' kk => ?_
    obtain ⟨t, rfl⟩ := hv
    have I1 : Inv X pins σ H { s with heap := h', toks := tk } := I.turned (fun b o hb e => kk b o (by simpa using hb) e) f0 f1 f3 f4 f5
    refine ⟨_, rfl, go_of (s := { s with heap := h', toks := tk }) (n := "range_iterator") st' rfl rfl (by decide) ⟨.int (lo + i), H, I1, ⟨t, ?_⟩, ⟨rfl, rfl⟩, st', fun b hb => (hf b hb).1⟩⟩
    rw [Int.mul_one]
  done := by
    intro X hP hw hK hc i pins s σ H E I hf st hg
    subst hP hw hK
    obtain ⟨f0, f1, f2, f3, f4, f5⟩ := hf it (by simp)
    exact wpAny_pyNext_range_end (I.ok.hd hc) st (by have : n ≤ i := hg; omega) fun h' eb => ⟨rfl, I.turned (t' := s.toks) (fun b o hb e => eb b o hb e) f0 f1 f3 f4 f5⟩
  self := fun _ _ _ _ _ st h => wpAny_pyIter_rangeiter st h
end L2

namespace L2
open PySem PySem.Spec PyProof.Rows
section
variable {X : Cx} {tg : Expr}
def iList (K : PySem.W.Frag) (tl : TE) : TI := fun σ H R => tl σ H fun x H1 => ∃ a, x = .ref a ∧ (∃ xs, SqL K H1 a xs) ∧ R (Itl K a) H1
def iTup (K : PySem.W.Frag) (tl : TE) : TI := fun σ H R => tl σ H fun x H1 => ∃ a, x = .ref a ∧ (∃ xs, SqT K H1 a xs) ∧ R (Itt K a) H1
theorem pi_list {l : Expr} {tl : TE} (hl : PE X l tl) : PI X tg l (iList X.K tl) := by
  intro pins s σ H R I h
  refine thn (hl pins s σ H _ I h) fun v s1 ⟨x, H1, I1, r1, q1⟩ => ?_
  obtain ⟨a, e, ⟨xs, hq⟩, q⟩ := q1
  subst e
  cases r1
  obtain ⟨its, rv, p, hz⟩ := I1.list hq
  refine wpAny_pyIter_list p.isList ?_
  refine ⟨s1.heap.objs.size, [s1.heap.objs.size], _, _, H1, rfl, I1.kept (t' := s1.toks) fun b o e => Heap.get?_push_of_some _ e, turn_list a _, ⟨_, Heap.get?_push_size _ rfl, rfl, rfl⟩, fun b hb => ?_, q⟩
  have e : b = s1.heap.objs.size := by simpa using hb
  subst e
  exact I1.fpOk (Nat.le_refl _) (I1.hok.fresh (Nat.le_refl _))
theorem pi_tup {l : Expr} {tl : TE} (hl : PE X l tl) : PI X tg l (iTup X.K tl) := by
  intro pins s σ H R I h
  refine thn (hl pins s σ H _ I h) fun v s1 ⟨x, H1, I1, r1, q1⟩ => ?_
  obtain ⟨a, e, ⟨xs, hq⟩, q⟩ := q1
  subst e
  cases r1
  obtain ⟨its, rv, p, hz⟩ := I1.tuple hq
  refine wpAny_pyIter_tuple (show s1.heap.IsTuple a its.toArray from p) ?_
  refine ⟨s1.heap.objs.size, [s1.heap.objs.size], _, _, H1, rfl, I1.kept (t' := s1.toks) fun b o e => Heap.get?_push_of_some _ e, turn_tuple a _, ⟨_, Heap.get?_push_size _ rfl, rfl, rfl⟩, fun b hb => ?_, q⟩
  have e : b = s1.heap.objs.size := by simpa using hb
  subst e
  exact I1.fpOk (Nat.le_refl _) (I1.hok.fresh (Nat.le_refl _))
/-- a range object just made, walked -/
theorem range_it {pins : List (Addr × Obj)} {σ : St} {H : Hp} {s : Shared} {R : It → Hp → Prop} {E : Value → Shared → Prop} {lo hi : Int} {t u v : Tok} {tk : Nat} (I : Inv X pins σ H s) (h1 : -(2 ^ 62) ≤ lo) (h2 : lo < 2 ^ 62) (h3 : -(2 ^ 62) ≤ hi) (h4 : hi < 2 ^ 62)
    (q : R (Itr lo (hi - lo).toNat) H) : wpAny (model X.prog X.w) X.A (pyIter (.ref s.heap.objs.size)) (PIE X pins σ tg R) E { s with heap := s.heap.push { cls := .type "range", data := .fields #[.int lo t, .int hi u, .int 1 v] }, toks := tk } := by
  refine wpAny_pyIter_range (IsRange.new ..) (small_one h1 h2 h3 h4) ?_
  have I1 : Inv X pins σ H { s with heap := s.heap.push { cls := .type "range", data := .fields #[.int lo t, .int hi u, .int 1 v] }, toks := tk } := I.kept fun b o e => Heap.get?_push_of_some _ e
  refine ⟨(s.heap.push { cls := .type "range", data := .fields #[.int lo t, .int hi u, .int 1 v] }).objs.size, [(s.heap.push { cls := .type "range", data := .fields #[.int lo t, .int hi u, .int 1 v] }).objs.size], _, _, H, rfl,
    I1.kept (t' := tk) fun b o e => Heap.get?_push_of_some _ e, turn_range _ lo (hi - lo).toNat, ?_, fun b hb => ?_, q⟩
  · have e1 : lo + ((0 : Nat) : Int) * 1 = lo := by simp
    have e2 : (((hi - lo).toNat : Nat) : Int) - ((0 : Nat) : Int) = Builtin.Range.rangeSize lo hi 1 := by rw [rangeSize_one]; split <;> omega
    show IsRangeIter _ _ (lo + ((0 : Nat) : Int) * 1) ((((hi - lo).toNat : Nat) : Int) - ((0 : Nat) : Int)) 1
    rw [e1, e2]
    exact Heap.get?_push_size _ rfl
  · have e : b = (s.heap.push { cls := .type "range", data := .fields #[.int lo t, .int hi u, .int 1 v] }).objs.size := by simpa using hb
    subst e
    exact I1.fpOk (Nat.le_refl _) (I1.hok.fresh (Nat.le_refl _))
def iRng1 (ta : TA) : TI := fun σ H R => ta σ H fun vs H1 => ∃ j : Int, vs = [.int j] ∧ -(2 ^ 62) ≤ j ∧ j < 2 ^ 62 ∧ R (Itr 0 j.toNat) H1
theorem pi_range1 {a : Expr} {ta : TA} {p pos : Pos} (hg : Gl X "range") (hm : X.mg "range" = none) (ha : PA X [a] ta) (hs : starEach [a] X.env = [(false, eval a X.env)] := by rfl) : PI X tg (.Call (.Name "range" p) [a] [] pos) (iRng1 ta) := by
  intro pins s σ H R I h
  refine Call_ (ld_blt I hg hm boot_range (PyProof.Rows.callWith_type1 (thn (ha pos pins s σ H _ I h) fun us s1 ⟨vs, H1, I1, r1, q1⟩ => ?_) hs rfl))
  obtain ⟨j, e, q1, q2, q⟩ := q1
  subst e
  cases r1 with
  | cons r rr =>
    cases rr
    obtain ⟨t, rfl⟩ := r
    exact call_range_1 (range_it I1 (by omega) (by omega) q1 q2 (by simpa using q))
/-! ### for -/
/-- W: the invariant by the turn and a measure; N: what the body is to reach -/
def tFor (wi : TI) (g : TG) (tb : TS) : TS := fun D σ H => wi σ H fun J H1 => ∃ W : Nat → Nat → St → Hp → Prop, (∃ m, W 0 m σ H1) ∧ ∀ i m σ H, W i m σ H →
  (J.stop i H ∧ D.nx σ H) ∨ (J.go i H ∧ ∃ N : St → Hp → Prop, (∀ σ' H', N σ' H' → ∃ m', m' < m ∧ W (i + 1) m' σ' H') ∧ ∀ x H', J.yld i H x H' → g x σ H' fun σ2 H2 => tb { D with nx := N, ct := N, bk := D.nx } σ2 H2)
/-- the records at fp as they stand -/
def pinsAt (fp : List Addr) (h : Heap) : List (Addr × Obj) := fp.filterMap fun b => (h.get? b).map fun o => (b, o)
theorem mem_pinsAt {fp : List Addr} {h : Heap} {b : Addr} {o : Obj} (hb : b ∈ fp) (e : h.get? b = some o) : (b, o) ∈ pinsAt fp h := List.mem_filterMap.mpr ⟨b, hb, by rw [e]; rfl⟩
theorem of_pinsAt {fp : List Addr} {h : Heap} {p : Addr × Obj} (hp : p ∈ pinsAt fp h) : p.1 ∈ fp ∧ h.get? p.1 = some p.2 := by
  obtain ⟨b, hb, e⟩ := List.mem_filterMap.mp hp
  cases q : h.get? b with
  | none => rw [q] at e; cases e
  | some o =>
    rw [q] at e
    have e' : (b, o) = p := Option.some.inj e
    subst e'
    exact ⟨hb, q⟩
theorem Inv.pinned {pins : List (Addr × Obj)} {σ : St} {H : Hp} {s : Shared} {fp : List Addr} (I : Inv X pins σ H s) (hf : ∀ b ∈ fp, FpOk X pins H b) (ho : ∀ b ∈ fp, ∃ o, s.heap.get? b = some o ∧ ∀ v, o.data ≠ .cell v) : Inv X (pins ++ pinsAt fp s.heap) σ H s :=
  I.pins_of fun p hp => (List.mem_append.mp hp).elim (fun z => I.pin p (List.mem_append_right _ z)) fun z => by
    obtain ⟨hb, e⟩ := of_pinsAt z
    obtain ⟨f0, f1, f2, _⟩ := hf p.1 hb
    obtain ⟨o, e', d⟩ := ho p.1 hb
    rw [e] at e'; cases e'
    exact ⟨e, f0, f1, f2, d⟩
theorem Inv.unpinned {pins pl : List (Addr × Obj)} {σ : St} {H : Hp} {s : Shared} (I : Inv X (pins ++ pl) σ H s) : Inv X pins σ H s := I.pins_of fun p hp => I.pin p (List.mem_append_right _ (List.mem_append_left _ hp))
theorem ps_for {iter : Expr} {body : List Stmt} {wi : TI} {g : TG} {tb : TS} {pos : Pos} (hp : PassesOwn (model X.prog X.w) X.A X.env X.xe) (hc : X.calm = true) (hi : PI X tg iter wi) (hg : PG X tg g) (hb : PSs X body tb)
    (hs : ∀ x, foldedSetIterable iter X.env x = pure x := by intro _; rfl) : PS X (.For tg iter body [] pos) (tFor wi g tb) := by
  intro pins s σ H D I h
  refine wpAny_For (thn (hi pins s σ H _ I h) fun v s1 h1 => thn h1 fun itv s2 h2 => ?_) hs
  obtain ⟨it, fp, tn, J, H2, e, I2, T, st2, f2, W, ⟨m0, w0⟩, turn⟩ := h2
  subst e
  -- what stays true of the iterator's objects through the loop
  have stat : ∀ {H' : Hp}, (∀ b ∈ fp, H' b = none) → ∀ b ∈ fp, FpOk X pins H' b := fun hn b hb => ⟨hn b hb, (f2 b hb).2⟩
  refine codeAny_forLoop_any (fun n s' => ∃ i σ' H', Inv X pins σ' H' s' ∧ tn i s'.heap ∧ (∀ b ∈ fp, H' b = none) ∧ W i n σ' H') ?_ m0 ⟨0, σ, H2, I2, st2, fun b hb => (f2 b hb).1, w0⟩
  rintro n s3 ⟨i, σ3, H3, I3, st3, fr3, w3⟩
  rcases turn i n σ3 H3 w3 with ⟨stop, qn⟩ | ⟨go, N, hN, step⟩
  · refine wpAny_passesOwn hp (thn (T.done X rfl rfl rfl hc i pins s3 σ3 H3 X.xe I3 (stat fr3) st3 stop) fun r s4 ⟨hr, I4⟩ => ?_)
    subst hr
    exact wpAny_execs_nil ⟨σ3, H3, I4, qn⟩
  · refine wpAny_passesOwn hp (thn (T.item X rfl rfl rfl hc i pins s3 σ3 H3 X.xe I3 (stat fr3) st3 go) fun r s4 ⟨u, hr, h4⟩ => ?_)
    subst hr
    refine wpAny_passesOwn hp (thn h4 fun _ s5 ⟨x, H5, I5, r5, y5, st5, fr5⟩ => ?_)
    have I5' := I5.pinned (stat fr5) (T.obj _ _ st5)
    refine wpAny_passesOwn hp (thn (hg _ s5 σ3 H5 x u _ I5' r5 (step x H5 y5)) fun _ s6 ⟨σ6, H6, I6, q6⟩ => ?_)
    refine wpAny_passesOwn hp (thn (hb _ s6 σ6 H6 _ I6 q6) fun f s7 q7 => ?_)
    have again : ∀ {σ7 : St} {H7 : Hp}, Inv X (pins ++ pinsAt fp s5.heap) σ7 H7 s7 → N σ7 H7 → ∃ m, m < n ∧ ∃ i σ' H', Inv X pins σ' H' s7 ∧ tn i s7.heap ∧ (∀ b ∈ fp, H' b = none) ∧ W i m σ' H' := fun {σ7 H7} I7 n7 => by
      obtain ⟨m', hm, w7⟩ := hN σ7 H7 n7
      refine ⟨m', hm, i + 1, σ7, H7, I7.unpinned, T.keep _ _ _ st5 fun b hb o e => (I7.pin (b, o) (List.mem_append_right _ (List.mem_append_right _ (mem_pinsAt hb e)))).1, fun b hb => ?_, w7⟩
      obtain ⟨o, e, d⟩ := T.obj _ _ st5 b hb
      exact (I7.pin (b, o) (List.mem_append_right _ (List.mem_append_right _ (mem_pinsAt hb e)))).2.1
    cases f with
    | next => obtain ⟨σ7, H7, I7, n7⟩ := q7; exact again I7 n7
    | cont => obtain ⟨σ7, H7, I7, n7⟩ := q7; exact again I7 n7
    | brk => obtain ⟨σ7, H7, I7, q7⟩ := q7; exact ⟨σ7, H7, I7.unpinned, q7⟩
    | ret v => obtain ⟨x7, σ7, H7, I7, r7, q7⟩ := q7; exact ⟨x7, σ7, H7, I7.unpinned, r7, q7⟩
end

/-! ### the forms one uses -/
/-- over a list that the body leaves as it is -/
theorem for_list {K : PySem.W.Frag} {a : Addr} {xs : List V} {g : TG} {tb : TS} {D : Ends} {σ : St} {H : Hp} (Pv : Nat → St → Hp → Prop) (h0 : Pv 0 σ H) (hl : ∀ i σ H, i ≤ xs.length → Pv i σ H → SqL K H a xs)
    (hs : ∀ i x σ H, xs[i]? = some x → Pv i σ H → g x σ H fun σ2 H2 => tb { D with nx := Pv (i + 1), ct := Pv (i + 1), bk := D.nx } σ2 H2) (hd : ∀ σ H, Pv xs.length σ H → D.nx σ H) :
    ∃ W : Nat → Nat → St → Hp → Prop, (∃ m, W 0 m σ H) ∧ ∀ i m σ H, W i m σ H →
      ((Itl K a).stop i H ∧ D.nx σ H) ∨ ((Itl K a).go i H ∧ ∃ N : St → Hp → Prop, (∀ σ' H', N σ' H' → ∃ m', m' < m ∧ W (i + 1) m' σ' H') ∧ ∀ x H', (Itl K a).yld i H x H' → g x σ H' fun σ2 H2 => tb { D with nx := N, ct := N, bk := D.nx } σ2 H2) := by
  refine ⟨fun i m σ H => m = xs.length - i ∧ i ≤ xs.length ∧ Pv i σ H, ⟨xs.length, by simp, Nat.zero_le _, h0⟩, ?_⟩
  rintro i m σ H ⟨rfl, hi, p⟩
  have q := hl i σ H hi p
  by_cases hlt : i < xs.length
  · refine .inr ⟨⟨xs, xs[i], q, by simp [hlt]⟩, Pv (i + 1), fun σ' H' p' => ⟨xs.length - (i + 1), by omega, rfl, hlt, p'⟩, fun x H' y => ?_⟩
    obtain ⟨e, y⟩ := y
    subst e
    exact hs i x σ _ (y xs q) p
  · have e : i = xs.length := by omega
    subst e
    exact .inl ⟨⟨xs, q, Nat.le_refl _⟩, hd σ H p⟩
theorem for_tup {K : PySem.W.Frag} {a : Addr} {xs : List V} {g : TG} {tb : TS} {D : Ends} {σ : St} {H : Hp} (Pv : Nat → St → Hp → Prop) (h0 : Pv 0 σ H) (hl : ∀ i σ H, i ≤ xs.length → Pv i σ H → SqT K H a xs)
    (hs : ∀ i x σ H, xs[i]? = some x → Pv i σ H → g x σ H fun σ2 H2 => tb { D with nx := Pv (i + 1), ct := Pv (i + 1), bk := D.nx } σ2 H2) (hd : ∀ σ H, Pv xs.length σ H → D.nx σ H) :
    ∃ W : Nat → Nat → St → Hp → Prop, (∃ m, W 0 m σ H) ∧ ∀ i m σ H, W i m σ H →
      ((Itt K a).stop i H ∧ D.nx σ H) ∨ ((Itt K a).go i H ∧ ∃ N : St → Hp → Prop, (∀ σ' H', N σ' H' → ∃ m', m' < m ∧ W (i + 1) m' σ' H') ∧ ∀ x H', (Itt K a).yld i H x H' → g x σ H' fun σ2 H2 => tb { D with nx := N, ct := N, bk := D.nx } σ2 H2) := by
  refine ⟨fun i m σ H => m = xs.length - i ∧ i ≤ xs.length ∧ Pv i σ H, ⟨xs.length, by simp, Nat.zero_le _, h0⟩, ?_⟩
  rintro i m σ H ⟨rfl, hi, p⟩
  have q := hl i σ H hi p
  by_cases hlt : i < xs.length
  · refine .inr ⟨⟨xs, xs[i], q, by simp [hlt]⟩, Pv (i + 1), fun σ' H' p' => ⟨xs.length - (i + 1), by omega, rfl, hlt, p'⟩, fun x H' y => ?_⟩
    obtain ⟨e, y⟩ := y
    subst e
    exact hs i x σ _ (y xs q) p
  · have e : i = xs.length := by omega
    subst e
    exact .inl ⟨⟨xs, q, Nat.le_refl _⟩, hd σ H p⟩
theorem for_range {lo : Int} {n : Nat} {g : TG} {tb : TS} {D : Ends} {σ : St} {H : Hp} (Pv : Nat → St → Hp → Prop) (h0 : Pv 0 σ H)
    (hs : ∀ i σ H, i < n → Pv i σ H → g (.int (lo + i)) σ H fun σ2 H2 => tb { D with nx := Pv (i + 1), ct := Pv (i + 1), bk := D.nx } σ2 H2) (hd : ∀ σ H, Pv n σ H → D.nx σ H) :
    ∃ W : Nat → Nat → St → Hp → Prop, (∃ m, W 0 m σ H) ∧ ∀ i m σ H, W i m σ H →
      ((Itr lo n).stop i H ∧ D.nx σ H) ∨ ((Itr lo n).go i H ∧ ∃ N : St → Hp → Prop, (∀ σ' H', N σ' H' → ∃ m', m' < m ∧ W (i + 1) m' σ' H') ∧ ∀ x H', (Itr lo n).yld i H x H' → g x σ H' fun σ2 H2 => tb { D with nx := N, ct := N, bk := D.nx } σ2 H2) := by
  refine ⟨fun i m σ H => m = n - i ∧ i ≤ n ∧ Pv i σ H, ⟨n, by simp, Nat.zero_le _, h0⟩, ?_⟩
  rintro i m σ H ⟨rfl, hi, p⟩
  by_cases hlt : i < n
  · refine .inr ⟨hlt, Pv (i + 1), fun σ' H' p' => ⟨n - (i + 1), by omega, rfl, hlt, p'⟩, fun x H' y => ?_⟩
    obtain ⟨e, y⟩ := y
    subst e y
    exact hs i σ _ hlt p
  · have e : i = n := by omega
    subst e
    exact .inl ⟨Nat.le_refl _, hd σ H p⟩
end L2

namespace L2
open PySem PySem.Spec PyProof.Rows

abbrev R2 := V → V → Hp → VK → Prop
/-- a two-place operation on values: f is binaryOp op, inplaceOp op or compareOp op -/
def OpR (X : Cx) (f : Value → Value → Sem Value) (r : R2) : Prop :=
  ∀ (pins : List (Addr × Obj)) (s : Shared) (σ : St) (H : Hp) (x y : V) (v u : Value) (Q : VK), Inv X pins σ H s → RelV x v → RelV y u → r x y H Q →
    wpAny (model X.prog X.w) X.A (f v u) (EP X pins σ Q) X.xe s
/-- a one-place operation -/
def UnR (X : Cx) (f : Value → Sem Value) (r : V → Hp → VK → Prop) : Prop :=
  ∀ (pins : List (Addr × Obj)) (s : Shared) (σ : St) (H : Hp) (x : V) (v : Value) (Q : VK), Inv X pins σ H s → RelV x v → r x H Q →
    wpAny (model X.prog X.w) X.A (f v) (EP X pins σ Q) X.xe s
/-- a call of a value that is known (a builtin, a type) with values -/
def CallR (X : Cx) (f : Value) (r : List V → Hp → VK → Prop) : Prop :=
  ∀ (pins : List (Addr × Obj)) (s : Shared) (σ : St) (H : Hp) (xs : List V) (us : List Value) (Q : VK), Inv X pins σ H s → Vals xs us → r xs H Q →
    wpAny (model X.prog X.w) X.A (call f us) (EP X pins σ Q) X.xe s
def tOp (r : R2) (ta tb : TE) : TE := fun σ H Q => ta σ H fun x H1 => tb σ H1 fun y H2 => r x y H2 Q
def tUn (r : V → Hp → VK → Prop) (ta : TE) : TE := fun σ H Q => ta σ H fun x H1 => r x H1 Q
/-- ints in, under C, and a value out -/
def rI (C : Int → Int → Prop) (g : Int → Int → V) : R2 := fun x y H Q => ∃ i j, x = .int i ∧ y = .int j ∧ C i j ∧ Q (g i j) H
def rI0 (g : Int → Int → V) : R2 := fun x y H Q => ∃ i j, x = .int i ∧ y = .int j ∧ Q (g i j) H
def rU (g : Int → V) : V → Hp → VK → Prop := fun x H Q => ∃ i, x = .int i ∧ Q (g i) H

section
variable {X : Cx} {a b c : Expr} {ta tb tc : TE} {pos : Pos}

theorem binT (ha : PE X a ta) (hb : PE X b tb) {pins : List (Addr × Obj)} {s : Shared} {σ : St} {H : Hp} {R : V → V → Hp → Prop} (I : Inv X pins σ H s)
    (h : ta σ H fun x H1 => tb σ H1 fun y H2 => R x y H2) {Q : Value → Shared → Prop} {f : Value → Value → Sem Value}
    (hf : ∀ v u s2 x y H2, Inv X pins σ H2 s2 → RelV x v → RelV y u → R x y H2 → wpAny (model X.prog X.w) X.A (f v u) Q X.xe s2) :
    wpAny (model X.prog X.w) X.A (eval a X.env) (fun v s₁ => wpAny (model X.prog X.w) X.A (eval b X.env) (fun u s₂ => wpAny (model X.prog X.w) X.A (f v u) Q X.xe s₂) X.xe s₁) X.xe s := by
  refine thn (ha pins s σ H _ I h) fun v s1 ⟨x, H1, I1, r1, q1⟩ => ?_
  refine thn (hb pins s1 σ H1 _ I1 q1) fun u s2 ⟨y, H2, I2, r2, q2⟩ => ?_
  exact hf v u s2 x y H2 I2 r1 r2 q2

theorem pe_op {op : Operator} {r : R2} (ho : OpR X (binaryOp op) r) (ha : PE X a ta) (hb : PE X b tb) : PE X (.BinOp a op b pos) (tOp r ta tb) := by
  intro pins s σ H Q I h
  exact wpAny_BinOp (binT ha hb I h fun v u s2 x y H2 I2 rx ry q => ho pins s2 σ H2 x y v u Q I2 rx ry q)
theorem pe_un {op : UnaryOp} {r : V → Hp → VK → Prop} (ho : UnR X (unaryOp op) r) (ha : PE X a ta) : PE X (.UnaryOp op a pos) (tUn r ta) := by
  intro pins s σ H Q I h
  exact UnaryOp_ (thn (ha pins s σ H _ I h) fun v s1 ⟨x, H1, I1, r1, q1⟩ => ho pins s1 σ H1 x v Q I1 r1 q1)
/-! ### ints -/
theorem opI {f : Value → Value → Sem Value} {C : Int → Int → Prop} {g : Int → Int → Int}
    (rule : ∀ (i j : Int) (t u : Tok) (s : Shared) (Q : Value → Shared → Prop) (E : Value → Shared → Prop), C i j → Q (.int (g i j) s.toks) { s with toks := s.toks + 1 } → wpAny (model X.prog X.w) X.A (f (.int i t) (.int j u)) Q E s) :
    OpR X f (rI C fun i j => .int (g i j)) := by
  intro pins s σ H x y v u Q I rx ry h
  obtain ⟨i, j, rfl, rfl, hc, q⟩ := h
  obtain ⟨t, rfl⟩ := rx
  obtain ⟨t', rfl⟩ := ry
  exact rule i j t t' s _ _ hc ⟨.int (g i j), H, I.tok _, ⟨_, rfl⟩, q⟩
theorem opI0 {f : Value → Value → Sem Value} {g : Int → Int → Int}
    (rule : ∀ (i j : Int) (t u : Tok) (s : Shared) (Q : Value → Shared → Prop) (E : Value → Shared → Prop), Q (.int (g i j) s.toks) { s with toks := s.toks + 1 } → wpAny (model X.prog X.w) X.A (f (.int i t) (.int j u)) Q E s) :
    OpR X f (rI0 fun i j => .int (g i j)) := by
  intro pins s σ H x y v u Q I rx ry h
  obtain ⟨i, j, rfl, rfl, q⟩ := h
  obtain ⟨t, rfl⟩ := rx
  obtain ⟨t', rfl⟩ := ry
  exact rule i j t t' s _ _ ⟨.int (g i j), H, I.tok _, ⟨_, rfl⟩, q⟩
theorem opB0 {f : Value → Value → Sem Value} {g : Int → Int → Bool}
    (rule : ∀ (i j : Int) (t u : Tok) (s : Shared) (Q : Value → Shared → Prop) (E : Value → Shared → Prop), Q (.bool (g i j)) s → wpAny (model X.prog X.w) X.A (f (.int i t) (.int j u)) Q E s) :
    OpR X f (rI0 fun i j => .bl (g i j)) := by
  intro pins s σ H x y v u Q I rx ry h
  obtain ⟨i, j, rfl, rfl, q⟩ := h
  obtain ⟨t, rfl⟩ := rx
  obtain ⟨t', rfl⟩ := ry
  exact rule i j t t' s _ _ ⟨.bl (g i j), H, I, rfl, q⟩

def CDiv (i j : Int) : Prop := 0 < j ∧ j < 1073741824
def CPow (i j : Int) : Prop := 0 ≤ j ∧ j ≤ 1000000 ∧ i.natAbs < 2 ^ 64
def CMul (i j : Int) : Prop := (-(2 ^ 64) < i ∧ i < 2 ^ 64) ∨ (-(2 ^ 64) < j ∧ j < 2 ^ 64)
theorem CMul.ok {i j : Int} (h : CMul i j) : IntMulOk i j := by
  rcases h with ⟨h1, h2⟩ | ⟨h1, h2⟩
  · exact .of_left (intBits_le_64 h1 h2)
  · exact .of_right (intBits_le_64 h1 h2)
theorem op_add : OpR X (binaryOp .Add) (rI0 fun i j => .int (i + j)) := opI0 fun _ _ _ _ _ _ _ q => add_int q
theorem op_sub : OpR X (binaryOp .Sub) (rI0 fun i j => .int (i - j)) := opI0 fun _ _ _ _ _ _ _ q => sub_int q
theorem op_mul : OpR X (binaryOp .Mult) (rI CMul fun i j => .int (i * j)) := opI fun _ _ _ _ _ _ _ hc q => mul_int q hc.ok
/-- // by a positive divisor -/
theorem op_fdiv : OpR X (binaryOp .FloorDiv) (rI CDiv fun i j => .int (i / j)) := opI fun i j _ _ _ _ _ hc q => by
  have h1 : (0 : Int) < j := hc.1
  have h2 : j < 1073741824 := hc.2
  exact floordiv_int (by omega) (by rw [Int.fdiv_eq_ediv_of_nonneg i (by omega)]; exact q) (.inl (PyProof.noPylong_small (by omega)))
/-- % by a positive divisor of any size -/
theorem op_mod : OpR X (binaryOp .Mod) (rI (fun _ j => 0 < j) fun i j => .int (i % j)) := opI fun i j _ _ _ _ _ hc q => by
  have h1 : (0 : Int) < j := hc
  exact mod_int' (by omega) (by rw [Int.fmod_eq_emod_of_nonneg i (by omega)]; exact q)
theorem op_pow : OpR X (binaryOp .Pow) (rI CPow fun i j => .int (i ^ j.toNat)) := opI fun _ _ _ _ _ _ _ hc q => pow_int_small hc.1 hc.2.1 hc.2.2 q
theorem unI {f : Value → Sem Value} {g : Int → Int}
    (rule : ∀ (i : Int) (t : Tok) (s : Shared) (Q : Value → Shared → Prop) (E : Value → Shared → Prop), Q (.int (g i) s.toks) { s with toks := s.toks + 1 } → wpAny (model X.prog X.w) X.A (f (.int i t)) Q E s) :
    UnR X f (rU fun i => .int (g i)) := by
  intro pins s σ H x v Q I rx h
  obtain ⟨i, rfl, q⟩ := h
  obtain ⟨t, rfl⟩ := rx
  exact rule i t s _ _ ⟨.int (g i), H, I.tok _, ⟨_, rfl⟩, q⟩
theorem un_neg : UnR X (unaryOp .USub) (rU fun i => .int (-i)) := unI fun _ _ _ _ _ q => neg_int q
/-! ### bools among ints: n += (a < b) -/
end

/-! ### comparisons -/
/-- the scalars that == tells apart as data does -/
def scal : V → V → Bool
  | .non, .non => true | .non, .int _ => true | .int _, .non => true | .non, .bl _ => true | .bl _, .non => true | .non, .str _ => true | .str _, .non => true
  | .int _, .int _ => true | .bl _, .bl _ => true | .str _, .str _ => true | .byt _, .byt _ => true
  | .int _, .str _ => true | .str _, .int _ => true | .bl _, .str _ => true | .str _, .bl _ => true
  | _, _ => false
def rEq : R2 := fun x y H Q => scal x y = true ∧ Q (.bl (decide (x = y))) H
def rNe : R2 := fun x y H Q => scal x y = true ∧ Q (.bl (!decide (x = y))) H

theorem dec_int {i j : Int} : decide (V.int i = V.int j) = (i == j) := by
  rw [Bool.eq_iff_iff]
  simp
theorem dec_bl {i j : Bool} : decide (V.bl i = V.bl j) = (i == j) := by
  rw [Bool.eq_iff_iff]
  simp
theorem dec_str {i j : Str} : decide (V.str i = V.str j) = (i == j) := by
  rw [Bool.eq_iff_iff]
  simp
theorem dec_byt {i j : Array UInt8} : decide (V.byt i = V.byt j) = (i.toList == j.toList) := by
  rw [Bool.eq_iff_iff]
  cases i
  cases j
  simp

section
variable {X : Cx} {a b c : Expr} {ta tb tc : TE} {pos : Pos}
theorem fin_bl {pins : List (Addr × Obj)} {σ : St} {H : Hp} {s : Shared} {Q : VK} {k k' : Bool} (I : Inv X pins σ H s) (q : Q (.bl k) H) (e : k = k') : EP X pins σ Q (.bool k') s := by
  subst e
  exact ⟨.bl k, H, I, rfl, q⟩
theorem op_eq : OpR X (compareOp .Eq) rEq := by
  intro pins s σ H x y v u Q I rx ry h
  obtain ⟨hs, q⟩ := h
  cases x with
  | non =>
    cases rx
    cases y with
    | non => cases ry; exact PySem.EqNone.eq_none_none (fin_bl I q (by simp))
    | bl j => cases ry; exact PySem.EqNone.eq_none_bool (fin_bl I q (by simp))
    | int j => obtain ⟨t', rfl⟩ := ry; exact PySem.EqNone.eq_none_int (fin_bl I q (by simp))
    | str j => obtain ⟨t', rfl⟩ := ry; exact PySem.EqNone.eq_none_str (fin_bl I q (by simp))
    | _ => exact absurd (show false = true from hs) Bool.false_ne_true
  | bl i =>
    cases rx
    cases y with
    | non => cases ry; exact PySem.EqNone.eq_bool_none (fin_bl I q (by simp))
    | bl j => cases ry; exact eq_bool (fin_bl I q dec_bl)
    | str j => obtain ⟨t', rfl⟩ := ry; exact PySem.EqMixed.eq_bool_str (fin_bl I q (by simp))
    | _ => exact absurd (show false = true from hs) Bool.false_ne_true
  | int i =>
    obtain ⟨t, rfl⟩ := rx
    cases y with
    | non => cases ry; exact PySem.EqNone.eq_int_none (fin_bl I q (by simp))
    | int j => obtain ⟨t', rfl⟩ := ry; exact eq_int (fin_bl I q dec_int)
    | str j => obtain ⟨t', rfl⟩ := ry; exact PySem.EqMixed.eq_int_str (fin_bl I q (by simp))
    | _ => exact absurd (show false = true from hs) Bool.false_ne_true
  | str i =>
    obtain ⟨t, rfl⟩ := rx
    cases y with
    | non => cases ry; exact PySem.EqNone.eq_str_none (fin_bl I q (by simp))
    | bl j => cases ry; exact PySem.EqMixed.eq_str_bool (fin_bl I q (by simp))
    | int j => obtain ⟨t', rfl⟩ := ry; exact PySem.EqMixed.eq_str_int (fin_bl I q (by simp))
    | str j => obtain ⟨t', rfl⟩ := ry; exact eq_str (fin_bl I q dec_str)
    | _ => exact absurd (show false = true from hs) Bool.false_ne_true
  | byt i =>
    obtain ⟨t, rfl⟩ := rx
    cases y with
    | byt j => obtain ⟨t', rfl⟩ := ry; exact PySem.W.eq_bytes (fin_bl I q dec_byt)
    | _ => exact absurd (show false = true from hs) Bool.false_ne_true
  | _ => cases y <;> exact absurd (show false = true from hs) Bool.false_ne_true
theorem op_ne : OpR X (compareOp .NotEq) rNe := by
  intro pins s σ H x y v u Q I rx ry h
  obtain ⟨hs, q⟩ := h
  cases x with
  | non =>
    cases rx
    cases y with
    | non => cases ry; exact PySem.EqNone.ne_none_none (fin_bl I q (by simp))
    | bl j => cases ry; exact PySem.EqNone.ne_none_bool (fin_bl I q (by simp))
    | int j => obtain ⟨t', rfl⟩ := ry; exact PySem.EqNone.ne_none_int (fin_bl I q (by simp))
    | str j => obtain ⟨t', rfl⟩ := ry; exact PySem.EqNone.ne_none_str (fin_bl I q (by simp))
    | _ => exact absurd (show false = true from hs) Bool.false_ne_true
  | bl i =>
    cases rx
    cases y with
    | non => cases ry; exact PySem.EqNone.ne_bool_none (fin_bl I q (by simp))
    | bl j => cases ry; exact ne_bool (fin_bl I q (congrArg not dec_bl))
    | str j => obtain ⟨t', rfl⟩ := ry; exact PySem.EqMixed.ne_bool_str (fin_bl I q (by simp))
    | _ => exact absurd (show false = true from hs) Bool.false_ne_true
  | int i =>
    obtain ⟨t, rfl⟩ := rx
    cases y with
    | non => cases ry; exact PySem.EqNone.ne_int_none (fin_bl I q (by simp))
    | int j => obtain ⟨t', rfl⟩ := ry; exact ne_int (fin_bl I q (congrArg not dec_int))
    | str j => obtain ⟨t', rfl⟩ := ry; exact PySem.EqMixed.ne_int_str (fin_bl I q (by simp))
    | _ => exact absurd (show false = true from hs) Bool.false_ne_true
  | str i =>
    obtain ⟨t, rfl⟩ := rx
    cases y with
    | non => cases ry; exact PySem.EqNone.ne_str_none (fin_bl I q (by simp))
    | bl j => cases ry; exact PySem.EqMixed.ne_str_bool (fin_bl I q (by simp))
    | int j => obtain ⟨t', rfl⟩ := ry; exact PySem.EqMixed.ne_str_int (fin_bl I q (by simp))
    | str j => obtain ⟨t', rfl⟩ := ry; exact ne_str (fin_bl I q (congrArg not dec_str))
    | _ => exact absurd (show false = true from hs) Bool.false_ne_true
  | byt i =>
    obtain ⟨t, rfl⟩ := rx
    cases y with
    | byt j => obtain ⟨t', rfl⟩ := ry; exact PySem.W.ne_bytes (fin_bl I q (congrArg not dec_byt))
    | _ => exact absurd (show false = true from hs) Bool.false_ne_true
  | _ => cases y <;> exact absurd (show false = true from hs) Bool.false_ne_true

theorem op_lt : OpR X (compareOp .Lt) (rI0 fun i j => .bl (decide (i < j))) := opB0 fun _ _ _ _ _ _ _ q => lt_int q
theorem op_le : OpR X (compareOp .LtE) (rI0 fun i j => .bl (decide (i ≤ j))) := opB0 fun _ _ _ _ _ _ _ q => le_int q
theorem op_gt : OpR X (compareOp .Gt) (rI0 fun i j => .bl (decide (j < i))) := opB0 fun _ _ _ _ _ _ _ q => gt_int q
theorem op_ge : OpR X (compareOp .GtE) (rI0 fun i j => .bl (decide (j ≤ i))) := opB0 fun _ _ _ _ _ _ _ q => ge_int q
/-- the one string within the other -/
theorem op_in_str : OpR X (compareOp .In) (fun x y H Q => ∃ i j, x = .str i ∧ y = .str j ∧ Q (.bl (!(Builtin.Str.occurrences j i 0 j.length 1).isEmpty)) H) := by
  intro pins s σ H x y v u Q I rx ry h
  obtain ⟨i, j, rfl, rfl, q⟩ := h
  obtain ⟨t, rfl⟩ := rx
  obtain ⟨t', rfl⟩ := ry
  exact in_str (fin_bl I q rfl)

/-- two rules for one operation: by cases -/
theorem OpR.or {f : Value → Value → Sem Value} {r r' : R2} (h : OpR X f r) (h' : OpR X f r') : OpR X f (fun x y H Q => r x y H Q ∨ r' x y H Q) := by
  intro pins s σ H x y v u Q I rx ry q
  rcases q with q | q
  · exact h pins s σ H x y v u Q I rx ry q
  · exact h' pins s σ H x y v u Q I rx ry q

theorem nomark (b : Expr) {op : CmpOp} (h : op ≠ .In := by decide) (h2 : op ≠ .NotIn := by decide) : behindInMarks op b = false := by
  have e1 : (op == CmpOp.In) = false := by cases op <;> first | rfl | exact absurd rfl h
  have e2 : (op == CmpOp.NotIn) = false := by cases op <;> first | rfl | exact absurd rfl h2
  cases b <;> simp [behindInMarks, e1, e2]
/-- a comparison as a value; hm: nomark b, or (for in, not in) by with_unfolding_all rfl -/
theorem pe_cmpR {op : CmpOp} {r : R2} (ho : OpR X (compareOp op) r) (ha : PE X a ta) (hb : PE X b tb) (hm : behindInMarks op b = false) : PE X (.Compare a [op] [b] pos) (tOp r ta tb) := by
  intro pins s σ H Q I h
  exact wpAny_Compare1 (binT ha hb I h fun v u s2 x y H2 I2 rx ry q => ho pins s2 σ H2 x y v u Q I2 rx ry q) hm
/-- a reading of a value as a test -/
def tTest (t : TE) : TT := fun σ H Q => t σ H fun x H' => ∃ k, x = .bl k ∧ Q k H'
theorem pt_cmpR {op : CmpOp} {r : R2} (ho : OpR X (compareOp op) r) (ha : PE X a ta) (hb : PE X b tb) (hm : behindInMarks op b = false) : PT X (.Compare a [op] [b] pos) (tTest (tOp r ta tb)) := by
  intro pins s σ H Q I h
  refine wpAny_isTrue_Compare1 (thn (ha pins s σ H _ I h) fun v s1 ⟨x, H1, I1, r1, q1⟩ => thn (hb pins s1 σ H1 _ I1 q1) fun u s2 ⟨y, H2, I2, r2, q2⟩ =>
    thn (ho pins s2 σ H2 x y v u _ I2 r1 r2 q2) fun c s3 ⟨z, H3, I3, r3, k, e, q3⟩ => ?_) hm
  subst e
  cases r3
  exact wpAny_truthy_bool ⟨H3, I3, q3⟩
/-- a op1 b op2 c -/
def tChain (r r' : R2) (ta tb tc : TE) : TE := fun σ H Q => ta σ H fun x H1 => tb σ H1 fun y H2 => r x y H2 fun z H3 => ∃ k, z = .bl k ∧
  (if k = true then tc σ H3 fun w' H4 => r' y w' H4 Q else Q (.bl false) H3)
theorem pe_chain {op op' : CmpOp} {r r' : R2} (ho : OpR X (compareOp op) r) (ho' : OpR X (compareOp op') r') (ha : PE X a ta) (hb : PE X b tb) (hc : PE X c tc)
    (hm : lastMarks [op, op'] [b, c] = false := by with_unfolding_all rfl) : PE X (.Compare a [op, op'] [b, c] pos) (tChain r r' ta tb tc) := by
  intro pins s σ H Q I h
  refine Compare_chain (thn (ha pins s σ H _ I h) fun v s1 ⟨x, H1, I1, r1, q1⟩ => chain_link (thn (hb pins s1 σ H1 _ I1 q1) fun u s2 ⟨y, H2, I2, r2, q2⟩ =>
    thn (ho pins s2 σ H2 x y v u _ I2 r1 r2 q2) fun d s3 ⟨z, H3, I3, r3, k, e, q3⟩ => ?_)) hm
  subst e
  cases r3
  refine wpAny_truthy_bool ?_
  cases k with
  | false => exact ite_ff ⟨.bl false, H3, I3, rfl, q3⟩
  | true => exact ite_tt (chain_last (thn (hc pins s3 σ H3 _ I3 q3) fun w' s4 ⟨z', H4, I4, r4, q4⟩ => ho' pins s4 σ H4 y z' u w' Q I4 r2 r4 q4))
theorem pt_chain {op op' : CmpOp} {r r' : R2} (ho : OpR X (compareOp op) r) (ho' : OpR X (compareOp op') r') (ha : PE X a ta) (hb : PE X b tb) (hc : PE X c tc)
    (hm : lastMarks [op, op'] [b, c] = false := by with_unfolding_all rfl) : PT X (.Compare a [op, op'] [b, c] pos) (tTest (tChain r r' ta tb tc)) := by
  intro pins s σ H Q I h
  refine isTrue_chain (thn (ha pins s σ H _ I h) fun v s1 ⟨x, H1, I1, r1, q1⟩ => test_link (thn (hb pins s1 σ H1 _ I1 q1) fun u s2 ⟨y, H2, I2, r2, q2⟩ =>
    thn (ho pins s2 σ H2 x y v u _ I2 r1 r2 q2) fun d s3 ⟨z, H3, I3, r3, k, e, q3⟩ => ?_)) hm
  subst e
  cases r3
  refine wpAny_truthy_bool ?_
  cases k with
  | false =>
    obtain ⟨k', e', q'⟩ := q3
    cases e'
    exact ite_ff ⟨H3, I3, q'⟩
  | true =>
    refine ite_tt (test_last (thn (hc pins s3 σ H3 _ I3 q3) fun w' s4 ⟨z', H4, I4, r4, q4⟩ => thn (ho' pins s4 σ H4 y z' u w' _ I4 r2 r4 q4) fun d' s5 ⟨z2, H5, I5, r5, k2, e2, q5⟩ => ?_))
    subst e2
    cases r5
    exact wpAny_truthy_bool ⟨H5, I5, q5⟩

/-! ### truth -/
theorem line63 : (sizeLine : Nat) < 2 ^ 63 := by rw [sizeLine_eq]; decide
/-! ### strs and bytes -/
theorem op_add_str : OpR X (binaryOp .Add) (fun x y H Q => ∃ i j, x = .str i ∧ y = .str j ∧ i.length + j.length ≤ sizeLine ∧ Q (.str (i ++ j)) H) := by
  intro pins s σ H x y v u Q I rx ry h
  obtain ⟨i, j, rfl, rfl, hz, q⟩ := h
  obtain ⟨t, rfl⟩ := rx
  obtain ⟨t', rfl⟩ := ry
  exact add_str (fun t' tk => ⟨.str (i ++ j), H, I.tok _, ⟨_, rfl⟩, q⟩) hz
/-! ### scalar builtins, by CallR -/
theorem vals1 {x : V} {us : List Value} (r : Vals [x] us) : ∃ u, us = [u] ∧ RelV x u := by
  cases r with
  | cons r1 r2 => cases r2; exact ⟨_, rfl, r1⟩
theorem vals2 {x y : V} {us : List Value} (r : Vals [x, y] us) : ∃ u w', us = [u, w'] ∧ RelV x u ∧ RelV y w' := by
  cases r with
  | cons r1 r2 =>
    cases r2 with
    | cons r3 r4 => cases r4; exact ⟨_, _, rfl, r1, r3⟩
theorem call_int1 : CallR X (.type "int") (fun xs H Q => (∃ i, xs = [.int i] ∧ Q (.int i) H) ∨ ∃ k, xs = [.bl k] ∧ Q (.int (if k then 1 else 0)) H) := by
  intro pins s σ H xs us Q I r h
  rcases h with ⟨i, rfl, q⟩ | ⟨k, rfl, q⟩
  · obtain ⟨u, rfl, t, rfl⟩ := vals1 r
    exact call_int_int ⟨.int i, H, I, ⟨_, rfl⟩, q⟩
  · obtain ⟨u, rfl, r1⟩ := vals1 r
    cases r1
    exact call_int_bool ⟨.int (if k then 1 else 0), H, I.tok _, ⟨_, rfl⟩, q⟩
end
end L2

namespace L2
open PySem PySem.Spec PyProof.Rows

/-! ### an instance, its attributes a map -/
structure ObjM (h : Heap) (x dx C : Addr) (mA : Str → Option Value) : Prop where
  obj : h.get? x = some (PySem.W.instObj C dx)
  ns : h.Ns1 dx mA
  ne : dx ≠ x

theorem lookIn_ns {h : Heap} {dx : Addr} {mA : Str → Option Value} (n : h.Ns1 dx mA) : ∃ od, h.get? dx = some od ∧ ∀ name, PySem.W.lookIn name od = some (mA name) := by
  obtain ⟨o, es, ep, ho, hd, hk, _, hm⟩ := n
  refine ⟨o, ho, fun name => ?_⟩
  have e := hm name
  unfold nsFind findBy at e
  rw [← Array.find?_toList] at e
  unfold PySem.W.lookIn
  rw [hd]
  dsimp only
  split
  · rename_i y q
    rw [q] at e
    exact congrArg some e
  · rename_i q
    rw [q] at e
    have a : es.toList.any (·.refKey) = false := by
      rw [List.any_eq_false]
      intro y hy
      obtain ⟨z, t, hkey⟩ := hk y (Array.mem_toList_iff.mp hy)
      simp [DictEntry.refKey, hkey]
    have a' : ¬ es.toList.any (·.refKey) = true := by rw [a]; exact Bool.false_ne_true
    rw [if_neg a']
    exact congrArg some e

theorem ObjM.look {h : Heap} {x dx C : Addr} {mA : Str → Option Value} (I : ObjM h x dx C mA) : ∃ od, PySem.W.InstAt h x (PySem.W.instObj C dx) C (some od) ∧ ∀ name, PySem.W.lookIn name od = some (mA name) :=
  let ⟨od, ho, hl⟩ := lookIn_ns I.ns
  ⟨od, ⟨I.obj, rfl, rfl, ho⟩, hl⟩

section
variable {prog : Program} {w : World} {A : Around} {E : Value → Shared → Prop} {s : Shared} {K : PySem.W.Frag} {x dx C f : Addr} {mA : Str → Option Value} {name : Str} {v : Value}

end

/-! ### the attributes as a list of pairs -/
section
variable {P : Program} {w : World} {H H' : Hp} {h h' : Heap} {a C dx : Addr} {fs fs' : List (Str × V)}
theorem ins_get (hok : HOk P w H h) (e : H a = some (.ins C dx fs)) : ∃ mA, ObjM h a dx C mA ∧ (∀ f, RelO (fs.lookup f) (mA f)) ∧ PySem.Within mA (fs.map (·.1)) ∧ fs.length ≤ 1000 ∧ H dx = some (.own a) := by
  obtain ⟨d, z, ne, ob, mA, n, r, q⟩ := (show ObjOk P w H h a (.ins C dx fs) from hok a _ e)
  exact ⟨mA, ⟨ob, n, ne⟩, r, q, z, d⟩
end

/-! ### what of the text a class must have -/
structure Cls (K : PySem.W.Frag) (C : Addr) : Prop where
  pg : PySem.W.plainGet K C Str.empty = true
  hd : PySem.W.hasDictIn K C = true
  po : PySem.W.plainOver K C = true
  sa : PySem.W.findIn K (.ref C) "__setattr__" = some (some (.builtin "object.__setattr__"))
theorem Cls.get {K : PySem.W.Frag} {C : Addr} (c : Cls K C) (f : Str) : PySem.W.plainGet K C f = true := c.pg
/-- a constant of the class -/
structure Con (K : PySem.W.Frag) (C : Addr) (f : Str) (v : V) (u : Value) : Prop where
  at_ : PySem.W.findIn K (.ref C) f = some (some u)
  rel : RelV v u
  get : PySem.W.specialIn K u "__get__" = some none
  cp : PySem.W.copiedNames.contains f = false
/-- a method: a plain def of the class or of one above it -/
structure Meth (K : PySem.W.Frag) (C : Addr) (m : Str) (f : Addr) : Prop where
  at_ : PySem.W.findIn K (.ref C) m = some (some (.ref f))
  fn : PySem.W.isFn K (.ref f) = true
  kp : PySem.W.keepIn K (.ref f) = true

section
variable {X : Cx} {pins : List (Addr × Obj)} {σ : St} {H : Hp} {s : Shared} {a C dx : Addr} {fs : List (Str × V)} {f : Str} {v : V} {A : Around} {E : Value → Shared → Prop}

/-- a new instance, tracked, without attributes -/
theorem Inv.made (I : Inv X pins σ H s) : Inv X pins σ (upd (upd H s.heap.objs.size (.own (s.heap.objs.size + 1))) (s.heap.objs.size + 1) (.ins C s.heap.objs.size []))
    { s with heap := (s.heap.push PySem.W.emptyDict).push (PySem.W.instObj C s.heap.objs.size) } := by
  have e1 : (s.heap.push PySem.W.emptyDict).get? s.heap.objs.size = some PySem.W.emptyDict := Heap.get?_push_size s.heap rfl
  have e2 : ((s.heap.push PySem.W.emptyDict).push (PySem.W.instObj C s.heap.objs.size)).get? (s.heap.objs.size + 1) = some (PySem.W.instObj C s.heap.objs.size) := by
    have := Heap.get?_push_size (s.heap.push PySem.W.emptyDict) (o := PySem.W.instObj C s.heap.objs.size) rfl
    rwa [Heap.size_push] at this
  have e3 : (s.heap.push PySem.W.emptyDict).Ns s.heap.objs.size (fun _ => none) := ⟨PySem.W.emptyDict, #[], _, e1, rfl, (fun e he => absurd he (by simp)), fun _ => rfl⟩
  have I1 := I.laid (a := s.heap.objs.size) (o := .own (s.heap.objs.size + 1)) (h' := s.heap.push PySem.W.emptyDict) (t' := s.toks) (fun b u q => Heap.get?_push_of_some _ q) (Nat.le_refl _) ⟨_, e1⟩
  refine I1.laid (a := s.heap.objs.size + 1) (o := .ins C s.heap.objs.size []) (t' := s.toks) (fun b u q => Heap.get?_push_of_some _ q) (Nat.le_of_eq (Heap.size_push _ _)) ?_
  have ne : s.heap.objs.size ≠ s.heap.objs.size + 1 := Nat.ne_of_lt (Nat.lt_succ_self _)
  refine ⟨by rw [upd_ne ne, upd_same], Nat.zero_le _, ne, e2, fun _ => none, (Heap.Ns1.of_empty e3).at fun o q => Heap.get?_push_of_some _ q, fun _ => True.intro, fun y hy => absurd rfl hy⟩

end

/-! ### readings and rules -/
section
variable {X : Cx} {o e value : Expr} {f : Str} {pos pos' tpos : Pos} {ta tv : TE}
end

/-! ### isinstance -/
section
variable {X : Cx} {pins : List (Addr × Obj)} {σ : St} {H : Hp} {s : Shared} {A : Around} {E : Value → Shared → Prop} {Q : Value → Shared → Prop} {c : Value} {b : Bool}
/-- the type of a value, as the fragment's deciders take it; for an instance its class -/
inductive TyOf (K : PySem.W.Frag) (H : Hp) : V → Value → Prop where
  | non : TyOf K H .non (.type "NoneType")
  | bl (x : Bool) : TyOf K H (.bl x) (.type "bool")
  | int (i : Int) : TyOf K H (.int i) (.type "int")
  | str (x : Str) : TyOf K H (.str x) (.type "str")
  | flt (x : UInt64) : TyOf K H (.flt x) (.type "float")
  | lst {a : Addr} {xs : List V} (e : H a = some (.lst xs)) : TyOf K H (.ref a) (.type "list")
  | frz {a : Addr} {o : Obj} {xs : List V} (e : H a = some (.frz o (.lst xs))) : TyOf K H (.ref a) (.type "list")
  | tup {a : Addr} {xs : List V} (e : H a = some (.tup xs)) : TyOf K H (.ref a) (.type "tuple")
  | dK {a : Addr} {kvs : List (Key × V)} (e : H a = some (.dK kvs)) : TyOf K H (.ref a) (.type "dict")
  | dT {a : Addr} {kvs : List (List Key × V)} (e : H a = some (.dT kvs)) : TyOf K H (.ref a) (.type "dict")
  | ins {a C dx : Addr} {fs : List (Str × V)} (e : H a = some (.ins C dx fs)) (cl : Cls K C) (ha : PySem.W.findIn K (.ref C) "__class__" = some (some (.builtin "object.__class__")))
      (hn : PySem.W.specialIn K (.builtin "object.__class__") "__get__" = some (some (.builtin "getset_descriptor.__get__"))) (htk : PySem.W.takesIn K (.builtin "object.__class__") = some true)
      (hm : PySem.W.mroIn K C (.type "object") = some true) : TyOf K H (.ref a) (.ref C)
/-- isinstance(x, c) for one class c, a built-in or an own one: kitOne's answer -/
theorem isinst_ok {x : V} {u t : Value} (I : Inv X pins σ H s) (rx : RelV x u) (ty : TyOf X.K H x t) (e : PySem.W.kitOne X.K t c = some b) (h : ∀ tk, Q (.bool b) { s with toks := tk }) :
    wpAny (model X.prog X.w) A (call (.builtin "isinstance") [u, c]) Q E s := by
  cases ty with
  | non => cases (show u = Value.none from rx); exact PySem.W.kia_one PySem.W.kitx_none I.kIn True.intro e (fun z => nomatch z) h
  | bl y => cases (show u = Value.bool y from rx); exact PySem.W.kia_one PySem.W.kitx_bool I.kIn True.intro e (fun z => nomatch z) h
  | int i => obtain ⟨t, q⟩ := (show ∃ t, u = Value.int i t from rx); cases q; exact PySem.W.kia_one PySem.W.kitx_int I.kIn True.intro e (fun z => nomatch z) h
  | str y => obtain ⟨t, q⟩ := (show ∃ t, u = Value.str y t from rx); cases q; exact PySem.W.kia_one PySem.W.kitx_str I.kIn True.intro e (fun z => nomatch z) h
  | flt y => obtain ⟨t, q⟩ := (show ∃ t, u = Value.float y t from rx); cases q; exact PySem.W.kia_one PySem.W.kitx_float I.kIn True.intro e (fun z => nomatch z) h
  | @lst a xs ea =>
    cases (show u = Value.ref a from rx)
    obtain ⟨_, _, n, _, h1⟩ := (show ObjOk X.prog X.w H s.heap a (.lst xs) from I.hok a _ ea)
    exact PySem.W.kia_one PySem.W.kitx_list I.kIn ⟨_, h1, rfl⟩ e (fun z => nomatch z) h
  | @frz a ob xs ea =>
    cases (show u = Value.ref a from rx)
    obtain ⟨_, _, _, n, _, h1⟩ := (show ObjOk X.prog X.w H s.heap a (.frz ob (.lst xs)) from I.hok a _ ea)
    exact PySem.W.kia_one PySem.W.kitx_list I.kIn ⟨_, h1, rfl⟩ e (fun z => nomatch z) h
  | @tup a xs ea =>
    cases (show u = Value.ref a from rx)
    obtain ⟨_, _, _, p⟩ := (show ObjOk X.prog X.w H s.heap a (.tup xs) from I.hok a _ ea)
    obtain ⟨o, h1, h2, _⟩ := p
    exact PySem.W.kia_one PySem.W.kitx_tuple I.kIn ⟨o, h1, h2⟩ e (fun z => nomatch z) h
  | @dK a kvs ea =>
    cases (show u = Value.ref a from rx)
    obtain ⟨_, _, vs, _, p⟩ := (show ObjOk X.prog X.w H s.heap a (.dK kvs) from I.hok a _ ea)
    obtain ⟨o, es, ep, h1, h2, _⟩ := p
    exact PySem.W.kia_one PySem.W.kitx_dict I.kIn ⟨o, h1, h2.1⟩ e (fun z => nomatch z) h
  | @dT a kvs ea =>
    cases (show u = Value.ref a from rx)
    obtain ⟨_, _, xs, _, o, es, ep, h1, h2, _⟩ := (show ObjOk X.prog X.w H s.heap a (.dT kvs) from I.hok a _ ea)
    exact PySem.W.kia_one PySem.W.kitx_dict I.kIn ⟨o, h1, h2.1⟩ e (fun z => nomatch z) h
  | @ins a C dx fs ea cl ha hn htk hm =>
    cases (show u = Value.ref a from rx)
    obtain ⟨mA, O, _⟩ := ins_get I.hok ea
    obtain ⟨od, J, _⟩ := O.look
    exact PySem.W.kia_one (PySem.W.kitx_own (cl.get _) cl.hd ha hn htk hm) I.kIn J e (fun z => nomatch z) h
end
end L2

namespace L2
open PySem PySem.Spec PyProof.Rows

/-! ### room -/
structure Room (k : Nat) (A : Around) : Prop where
  hd : A.handled = none
  dp : A.depth + 3 * k + 5 < recursionLimit
  un : A.units + 16 * k + 200 < cLine
  gd : A.guards = some []
theorem Room.mono {j k : Nat} {A : Around} (r : Room k A) (h : j ≤ k) : Room j A := ⟨r.hd, by have := r.dp; omega, by have := r.un; omega, r.gd⟩
theorem Room.deeper {k : Nat} {A : Around} (r : Room (k + 1) A) (env : Env) : Room k (A.deeper env) :=
  ⟨r.hd, by have := r.dp; show A.depth + 1 + 3 * k + 5 < _; omega, by have := r.un; show A.units + 3 + 16 * k + 200 < _; omega, r.gd⟩
theorem Room.in1 {k : Nat} {A : Around} (r : Room (k + 1) A) : Room k A.in1 :=
  ⟨r.hd, by have := r.dp; show A.depth + 3 * k + 5 < _; omega, by have := r.un; show A.units + 1 + 16 * k + 200 < _; omega, r.gd⟩
theorem Room.depth {k : Nat} {A : Around} (r : Room k A) : A.depth < recursionLimit := by have := r.dp; omega
theorem Room.units {k : Nat} {A : Around} (r : Room k A) : A.units + 64 < cLine := by have := r.un; omega
/-! ### argument lists and displays -/
def tNil : TA := fun _ H Q => Q [] H
def tCons (ta : TE) (tr : TA) : TA := fun σ H Q => ta σ H fun x H1 => tr σ H1 fun xs H2 => Q (x :: xs) H2
section
variable {X : Cx} {e : Expr} {es : List Expr} {te : TE} {t : TA} {pos : Pos}
theorem pa_nil : PA X [] tNil := fun _ _ _ _ H Q I h => Calls.spliced_nil ⟨[], H, I, .nil, h⟩
theorem pa_cons (ha : PE X e te) (hr : PA X es t) (hs : starEach (e :: es) X.env = (false, eval e X.env) :: starEach es X.env := by rfl) : PA X (e :: es) (tCons te t) := by
  intro pos pins s σ H Q I h
  rw [hs]
  show wpAny _ _ (spliced ((false, eval e X.env) :: backTo pos (starEach es X.env))) _ _ s
  refine Calls.spliced_cons (thn (ha pins s σ H _ I h) fun u s1 ⟨x, H1, I1, r1, q1⟩ => ?_)
  exact thn (hr pos pins s1 σ H1 _ I1 q1) fun us s2 ⟨xs, H2, I2, r2, q2⟩ => ⟨x :: xs, H2, I2, .cons r1 r2, q2⟩

/-- a tuple, a list of written items -/
def tTup (t : TA) : TE := fun σ H Q => t σ H fun xs H1 => xs.length ≤ sizeLine ∧ ∀ p, H1 p = none → Q (.ref p) (upd H1 p (.tup xs))
def tLst (t : TA) : TE := fun σ H Q => t σ H fun xs H1 => xs.length ≤ sizeLine ∧ ∀ p, H1 p = none → Q (.ref p) (upd H1 p (.lst xs))
theorem pe_tup {x1} (h : PA X es t) : PE X (.Tuple es x1 pos) (tTup t) := by
  intro pins s σ H Q I hq
  refine wpAny_Tuple_spliced (thn (h pos pins s σ H _ I hq) fun us s1 ⟨xs, H1, I1, r, z, q⟩ => ⟨by rw [← r.length]; exact z, ?_⟩)
  have hf : H1 s1.heap.objs.size = none := I1.hok.fresh (Nat.le_refl _)
  refine ⟨.ref s1.heap.objs.size, upd H1 s1.heap.objs.size (.tup xs), I1.laid (t' := s1.toks) (fun b u e => Heap.get?_push_of_some _ e) (Nat.le_refl _) ?_, rfl, q _ hf⟩
  exact ⟨z, us, r, ⟨_, Heap.get?_push_size _ rfl, rfl, _, rfl⟩⟩
theorem pe_lst (h : PA X es t) : PE X (.List es pos) (tLst t) := by
  intro pins s σ H Q I hq
  refine wpAny_List_spliced (thn (h pos pins s σ H _ I hq) fun us s1 ⟨xs, H1, I1, r, z, q⟩ => ⟨by rw [← r.length]; exact z, ?_⟩)
  have hf : H1 s1.heap.objs.size = none := I1.hok.fresh (Nat.le_refl _)
  refine ⟨.ref s1.heap.objs.size, upd H1 s1.heap.objs.size (.lst xs), I1.laid (t' := s1.toks) (fun b u e => Heap.get?_push_of_some _ e) (Nat.le_refl _) ?_, rfl, q _ hf⟩
  exact ⟨z, us, 0, r, Heap.get?_push_size _ rfl⟩
end

/-! ### what a def promises -/
/-- a def's promise: the bound arguments in the parameters' order, the heap, the wanted end, the wanted exception -/
abbrev Sp := List V → Hp → VK → XK → Prop
/-- how an exception lies behind a call (file 08 gives it): the callers' frames, abstract heap and state ahead of the call, the wish, the exception, the state -/
abbrev CXT := List Env → Hp → Shared → XK → Value → Shared → Prop

/-- the state at a call -/
structure Env0 (P : Program) (w : World) (K : PySem.W.Frag) (mg : Str → Option Value) (base : Heap) (A : Around) (outer : List Env) (s : Shared) (H : Hp) : Prop where
  frames : A.frames = some outer
  mod : Mod K mg base
  bs : ∀ b o, base.get? b = some o → s.heap.get? b = some o ∧ H b = none
  bsz : base.objs.size ≤ s.heap.objs.size
  funs : s.heap.FunFrames base outer
  frf : ∀ b ∈ frs outer, H b = none
  hok : HOk P w H s.heap
  bare : AllBare s.gens
/-- a call's end -/
def CE (outer : List Env) (P : Program) (w : World) (H : Hp) (s : Shared) (Q : VK) (u : Value) (s' : Shared) : Prop :=
  ∃ v H', s'.os = s.os ∧ AllBare s'.gens ∧ Un (frs outer) [] H H' s.heap s'.heap ∧ HOk P w H' s'.heap ∧ RelV v u ∧ Q v H'
def CR (CX : CXT) (outer : List Env) (P : Program) (w : World) (H : Hp) (s : Shared) (Q : VK) (E : XK) (r : Result) (s' : Shared) : Prop :=
  match r with
  | .ok (.ret u) => CE outer P w H s Q u s'
  | .ok _ => False
  | .error e => CX outer H s E e s'
structure FnOk (P : Program) (w : World) (K : PySem.W.Frag) (mg : Str → Option Value) (base : Heap) (CX : CXT) (k : Nat) (f : Addr) (fd : FuncData) (ps : List Str) (sp : Sp) : Prop where
  len : ∀ vs H Q E, sp vs H Q E → vs.length = ps.length
  run : ∀ (A : Around) (outer : List Env) (s : Shared) (H : Hp) (args : Args) (us : List Value) (vs : List V) (Q : VK) (E : XK), Room k A → Env0 P w K mg base A outer s H → BindsTo s fd args (ps.zip us) → Vals vs us → sp vs H Q E →
    codeAny (model P w) A (.call (.ref f) args) (CR CX outer P w H s Q E) s
theorem FnOk.mono {P : Program} {w : World} {K : PySem.W.Frag} {mg : Str → Option Value} {base : Heap} {CX : CXT} {j k : Nat} {f : Addr} {fd : FuncData} {ps : List Str} {sp : Sp} (F : FnOk P w K mg base CX j f fd ps sp) (h : j ≤ k) :
    FnOk P w K mg base CX k f fd ps sp := ⟨F.len, fun A outer s H args us vs Q E hr => F.run A outer s H args us vs Q E (hr.mono h)⟩
/-- a weaker promise -/
theorem FnOk.imp {P : Program} {w : World} {K : PySem.W.Frag} {mg : Str → Option Value} {base : Heap} {CX : CXT} {k : Nat} {f : Addr} {fd : FuncData} {ps : List Str} {sp sp' : Sp} (F : FnOk P w K mg base CX k f fd ps sp)
    (h : ∀ vs H Q E, sp' vs H Q E → sp vs H Q E) : FnOk P w K mg base CX k f fd ps sp' :=
  ⟨fun vs H Q E q => F.len vs H Q E (h _ _ _ _ q), fun A outer s H args us vs Q E hr he hb hv hs => F.run A outer s H args us vs Q E hr he hb hv (h _ _ _ _ hs)⟩

theorem Env0.in1 {P : Program} {w : World} {K : PySem.W.Frag} {mg : Str → Option Value} {base : Heap} {A : Around} {outer : List Env} {s : Shared} {H : Hp} (e : Env0 P w K mg base A outer s H) :
    Env0 P w K mg base A.in1 outer s H := ⟨e.frames, e.mod, e.bs, e.bsz, e.funs, e.frf, e.hok, e.bare⟩

section
variable {X : Cx} {pins : List (Addr × Obj)} {σ : St} {H : Hp} {s s' : Shared}
/-- from a body: what a callee wants -/
theorem Inv.env0 (I : Inv X pins σ H s) : Env0 X.prog X.w X.K X.mg X.base X.A X.stack s H :=
  ⟨I.ok.frames, I.ok.mod, I.bs, Nat.le_trans I.ok.bsz I.sz, I.stack, I.stkFree, I.hok, I.bare⟩
/-- behind a call -/
theorem Inv.after {Q : VK} {u : Value} (I : Inv X pins σ H s) (h : CE X.stack X.prog X.w H s Q u s') : EP X pins σ Q u s' := by
  obtain ⟨v, H', os, bare, un, hok, r, q⟩ := h
  obtain ⟨hh, g, d, t, os'⟩ := s'
  obtain rfl : os' = s.os := os
  exact ⟨v, H', I.call (h' := hh) (g' := g) (d' := d) (t' := t) (ch := []) un hok bare (fun b z => absurd z (by simp)), r, q⟩
end

/-! ### calls -/
/-- f(..): the written arguments, then the defaults dvs; E: what is wanted of an exception -/
def tCall (sp : Sp) (dvs : List V) (E : XK) (t : TA) : TE := fun σ H Q => t σ H fun vs H1 => sp (vs ++ dvs) H1 Q E
/-- how the parameters are bound: us the positional arguments, kw the keywords' values by name, ds the defaults that fill up -/
def Binds (K : PySem.W.Frag) (fd : FuncData) (ps : List Str) (ds : List Value) : Prop :=
  ∀ (s : Shared) (us : List Value), K.In s.heap → (us ++ ds).length = ps.length → BindsTo s fd ⟨us, []⟩ (ps.zip (us ++ ds))
/-- every parameter is given -/
theorem Binds.all {K : PySem.W.Frag} {fd : FuncData} {ps : List Str} (h : ∀ us : List Value, us.length = ps.length → bindArgs fd ⟨us, []⟩ = pure (ps.zip us)) : Binds K fd ps [] := fun s us _ hl => by
  rw [List.append_nil] at hl ⊢
  exact .of_eq (h us hl)

/-- an exception of a callee reaches what this body wants of exceptions -/
def Passes (CX : CXT) (X : Cx) (E : XK) : Prop := ∀ (pins : List (Addr × Obj)) (σ : St) (H : Hp) (s : Shared) (e : Value) (s' : Shared), Inv X pins σ H s → CX X.stack H s E e s' → X.xe e s'

section
variable {X : Cx} {CX : CXT} {k : Nat} {f C : Addr} {fd : FuncData} {ps : List Str} {sp : Sp} {dvs : List V} {ds : List Value} {E : XK} {x m : Str} {p pos apos : Pos} {e o : Expr} {es : List Expr} {ta : TE} {t : TA}

/-- the callee runs -/
theorem run_fn {pins : List (Addr × Obj)} {σ : St} {H : Hp} {s : Shared} {Q : VK} {us : List Value} {vs : List V} (F : FnOk X.prog X.w X.K X.mg X.base CX k f fd ps sp) (hr : Room k X.A) (hb : Binds X.K fd ps ds) (hd : Vals dvs ds) (hx : Passes CX X E)
    (I : Inv X pins σ H s) (r : Vals vs us) (h : sp (vs ++ dvs) H Q E) : wpAny (model X.prog X.w) X.A (call (.ref f) us) (EP X pins σ Q) X.xe s := by
  have r2 : Vals (vs ++ dvs) (us ++ ds) := r.append hd
  have hl : (us ++ ds).length = ps.length := by rw [← r2.length]; exact F.len _ _ _ _ h
  refine wpAny_call (codeAny_mono (F.run X.A X.stack s H ⟨us, []⟩ (us ++ ds) (vs ++ dvs) Q E hr I.env0 (hb s us I.kIn hl) r2 h) fun r s' hq => ?_)
  cases r with
  | error e => exact hx pins σ H s e s' I hq
  | ok fl =>
    cases fl with
    | ret u => exact I.after hq
    | next => exact False.elim hq
    | brk => exact False.elim hq
    | cont => exact False.elim hq

theorem pe_call (F : FnOk X.prog X.w X.K X.mg X.base CX k f fd ps sp) (hr : Room k X.A) (hg : Gl X x) (hm : X.mg x = some (.ref f)) (hk : PySem.W.keepIn X.K (.ref f) = true) (hb : Binds X.K fd ps ds) (hd : Vals dvs ds) (hx : Passes CX X E)
    (ha : PA X (e :: es) t) (hdb : (x == ("__debug__" : Str)) = false := by decide) (he : starEach (e :: es) X.env = (false, eval e X.env) :: starEach es X.env := by rfl) (hpl : (backTo pos (starEach es X.env)).any (·.1) = false := by rfl) :
    PE X (.Call (.Name x p) (e :: es) [] pos) (tCall sp dvs E t) := by
  intro pins s σ H Q I h
  refine wpAny_Call_Name_kw (ld_glob I hg hm ?_ hdb)
  refine PySem.W.callWith_K (h₀ := X.base) I.ok.mod.kin hk (thn (ha pos pins s σ H _ I h) fun us s1 ⟨vs, H1, I1, r, q⟩ => ⟨I1.kIn, ?_⟩) he hpl
  exact run_fn F hr hb hd hx I1 r q
/-- what a class must have to be made -/
structure Mk (K : PySem.W.Frag) (C f : Addr) : Prop where
  makes : PySem.W.makesIn K C = true
  init : PySem.W.findIn K (.ref C) "__init__" = some (some (.ref f))
  fn : PySem.W.isFn K (.ref f) = true
  kp : PySem.W.keepIn K (.ref C) = true

end

/-! ### keywords -/
section
variable {X : Cx} {CX : CXT} {k : Nat} {f C : Addr} {fd : FuncData} {ps ks : List Str} {sp : Sp} {E : XK} {x m : Str} {p pos apos kpos : Pos} {e o : Expr} {es : List Expr} {kws : List Keyword} {te ta : TE} {t tk : TA} {nm : Option Str}
/-- how a call with keywords binds: g puts the positional values us and the keywords' values ws (names ks) in the parameters' order, defaults among them -/
structure KBinds (K : PySem.W.Frag) (fd : FuncData) (ps ks : List Str) (g : List Value → List Value → List Value) (gV : List V → List V → List V) : Prop where
  to : ∀ (s : Shared) (us ws : List Value), K.In s.heap → (g us ws).length = ps.length → BindsTo s fd ⟨us, ks.zip ws⟩ (ps.zip (g us ws))
  rel : ∀ {vs : List V} {us : List Value} {zs : List V} {ws : List Value}, Vals vs us → Vals zs ws → Vals (gV vs zs) (g us ws)
variable {g : List Value → List Value → List Value} {gV : List V → List V → List V}
end

/-! ### a def's body keeps its promise -/
/-- names: the parameters first -/
structure FnScope (N P : List Str) (sc : Scope) : Prop where
  kind : sc.kind = .function
  co : sc.isCoroutine = false
  gen : sc.isGenerator = false
  nd : N.Nodup
  pre : N.take P.length = P
  par : ∀ x ∈ P, sc.names.lookup x = some .local ∨ sc.names.lookup x = some .cell
  nofree : ∀ y ∈ sc.names, y.2 ≠ .free

theorem bindL_out {kindOf : Str → Option NameKind} {x : Str} : ∀ {binds : List (Str × Value)} {m : Str → Option Value}, (∀ v, (x, v) ∉ binds) → bindL kindOf binds m x = m x
  | [], _, _ => rfl
  | (n, v) :: r, m, h => by
    unfold bindL
    rw [bindL_out fun w hw => h w (List.mem_cons_of_mem _ hw)]
    split
    · have : x ≠ n := by rintro rfl; exact h v List.mem_cons_self
      simp [this]
    · rfl
theorem bindC_out {kindOf : Str → Option NameKind} {x : Str} : ∀ {binds : List (Str × Value)} {m : Str → Option Value}, (∀ v, (x, v) ∉ binds) → bindC kindOf binds m x = m x
  | [], _, _ => rfl
  | (n, v) :: r, m, h => by
    unfold bindC
    rw [bindC_out fun w hw => h w (List.mem_cons_of_mem _ hw)]
    split
    · rfl
    · have : x ≠ n := by rintro rfl; exact h v List.mem_cons_self
      simp [this]
theorem bindL_get {kindOf : Str → Option NameKind} {x : Str} {v : Value} : ∀ {P : List Str} {vs : List Value} {i : Nat} {m : Str → Option Value}, P.Nodup → P[i]? = some x → vs[i]? = some v → kindOf x = some .local →
    bindL kindOf (P.zip vs) m x = some v
  | [], _, _, _, _, h, _, _ => by simp at h
  | _ :: _, [], _, _, _, _, h, _ => by simp at h
  | p :: P, w :: vs, 0, m, nd, h1, h2, hk => by
    simp at h1 h2; subst h1; subst h2
    show bindL kindOf ((p, w) :: P.zip vs) m p = _
    unfold bindL
    rw [bindL_out fun v hv => (List.nodup_cons.mp nd).1 (List.of_mem_zip hv).1, if_pos hk]
    simp
  | p :: P, w :: vs, i + 1, m, nd, h1, h2, hk => by
    show bindL kindOf ((p, w) :: P.zip vs) m x = _
    unfold bindL
    exact bindL_get (i := i) (List.nodup_cons.mp nd).2 (by simpa using h1) (by simpa using h2) hk
theorem bindC_get {kindOf : Str → Option NameKind} {x : Str} {v : Value} : ∀ {P : List Str} {vs : List Value} {i : Nat} {m : Str → Option Value}, P.Nodup → P[i]? = some x → vs[i]? = some v → kindOf x ≠ some .local →
    bindC kindOf (P.zip vs) m x = some v
  | [], _, _, _, _, h, _, _ => by simp at h
  | _ :: _, [], _, _, _, _, h, _ => by simp at h
  | p :: P, w :: vs, 0, m, nd, h1, h2, hk => by
    simp at h1 h2; subst h1; subst h2
    show bindC kindOf ((p, w) :: P.zip vs) m p = _
    unfold bindC
    rw [bindC_out fun v hv => (List.nodup_cons.mp nd).1 (List.of_mem_zip hv).1, if_neg hk]
    simp
  | p :: P, w :: vs, i + 1, m, nd, h1, h2, hk => by
    show bindC kindOf ((p, w) :: P.zip vs) m x = _
    unfold bindC
    exact bindC_get (i := i) (List.nodup_cons.mp nd).2 (by simpa using h1) (by simpa using h2) hk

/-- the names' values at the entry -/
def start (N : List Str) (vs : List V) : St := vs.map some ++ List.replicate (N.length - vs.length) none

/-- the context of a def's body, at its entry; an exception leaves the frame, then lies as CX says -/
def cxOf (CX : CXT) (P : Program) (w : World) (K : PySem.W.Frag) (mg : Str → Option Value) (base : Heap) (N : List Str) (qual : Str) (scope : Scope) (f : Addr) (cd : Value) (A : Around) (outer : List Env) (s : Shared) (H : Hp) (E : XK) : Cx where
  prog := P
  w := w
  K := K
  mg := mg
  base := base
  A := A.deeper (envOfC qual scope s.heap.objs.size f cd)
  N := N
  s₀ := s
  H₀ := H
  env := envOfC qual scope s.heap.objs.size f cd
  outer := outer
  stack := envOfC qual scope s.heap.objs.size f cd :: outer
  ex := []
  calm := true
  fn := fun _ => true
  pn := []
  xe := fun e s' => wpAny (model P w) (A.deeper (envOfC qual scope s.heap.objs.size f cd)) (leaving (envOfC qual scope s.heap.objs.size f cd) e) (fun _ s'' => CX outer H s E e s'') (fun e' s'' => CX outer H s E e' s'') s'

theorem cell_has {sc : Scope} {n : Nat} {x : Str} (h : sc.names.lookup x = some .cell) : ∃ c, (cellsFrom n sc.names []).lookup x = some c := by
  have q := PySem.W.cellsFrom_some sc.names n [] (.inl h)
  exact Option.isSome_iff_exists.mp q

theorem inv_start {CX : CXT} {P : Program} {w : World} {K : PySem.W.Frag} {mg : Str → Option Value} {base : Heap} {N ps : List Str} {qual : Str} {scope : Scope} {f : Addr} {cd : Value} {A : Around} {outer : List Env} {s s1 : Shared} {H : Hp} {E : XK} {us : List Value} {vs : List V}
    (S : FnScope N ps scope) (hd : A.handled = none) (e0 : Env0 P w K mg base A outer s H) (hl : vs.length = ps.length) (r : Vals vs us)
    (x : InCallC s s.heap.objs.size (bindL (envOfC qual scope s.heap.objs.size f cd).kindOf (ps.zip us) fun _ => none) (cellsFrom (s.heap.objs.size + 1) scope.names []) (bindC (envOfC qual scope s.heap.objs.size f cd).kindOf (ps.zip us) fun _ => none) s1) :
    Inv (cxOf CX P w K mg base N qual scope f cd A outer s H E) [] (start N vs) H s1 := by
  have hpl : ps.length ≤ N.length := by have := congrArg List.length S.pre; rw [List.length_take] at this; omega
  obtain ⟨h1, tk, rfl, hk⟩ := x.done
  have noA : ∀ b : Addr, b ∉ (cxOf CX P w K mg base N qual scope f cd A outer s H E).ex := fun b z => absurd (show b ∈ ([] : List Addr) from z) (by simp)
  refine ⟨⟨e0.mod, S.kind, rfl, rfl, Nat.le_refl _, fun y z c h1 h2 => ?_, fun y hy => ?_, fun y c _ h => ?_, fun _ => hd, Around.frames_deeper e0.frames, .inr ⟨rfl, rfl⟩, fun b z => absurd z (noA b), e0.bs, e0.bsz, fun b _ _ => noA b, fun b z => absurd z (noA b), e0.funs, e0.frf⟩,
    rfl, e0.bare, Un.kept hk, ⟨_, x.toInCall.ns, fun i y v h1 h2 h3 => ?_⟩, fun y c h => ⟨_, x.cell y c h⟩, e0.hok.fresh (Nat.le_refl _), fun y c h => ?_, fun p hp => absurd (show p ∈ ([] : List (Addr × Obj)) from hp) (by simp), e0.hok.kept hk, ?_⟩
  · exact name_of_addr x.apart (PySem.mem_of_lookup h1) (PySem.mem_of_lookup h2)
  · have hy : scope.names.lookup y = some .cell ∨ scope.names.lookup y = some .free := hy
    rcases hy with hy | hy
    · exact cell_has hy
    · exact absurd rfl (S.nofree _ (PySem.mem_of_lookup hy))
  · exact Nat.le_of_lt (x.above y c (PySem.mem_of_lookup h))
  · have hi : i < vs.length := by
      unfold start at h2
      by_cases hi : i < vs.length
      · exact hi
      · rw [List.getElem?_append_right (by simpa using hi)] at h2
        rw [List.getElem?_replicate] at h2
        split at h2 <;> cases h2
    have ha : vs[i]? = some v := by
      unfold start at h2
      rw [List.getElem?_append_left (by simpa using hi), List.getElem?_map] at h2
      cases e : vs[i]? with
      | none => rw [e] at h2; cases h2
      | some a => rw [e] at h2; cases h2; rfl
    obtain ⟨u, hu, rv⟩ := r.get ha
    have hp : ps[i]? = some y := by
      rw [← S.pre, List.getElem?_take_of_lt (by omega)]; exact h1
    have ndP : ps.Nodup := by rw [← S.pre]; exact S.nd.sublist (List.take_sublist _ _)
    refine ⟨u, rv, ?_⟩
    rcases S.par y (List.mem_of_getElem? hp) with k | k
    · exact .inl ⟨k, bindL_get ndP hp hu k⟩
    · obtain ⟨c, e⟩ := cell_has (n := s.heap.objs.size + 1) k
      refine .inr ⟨.inl k, c, e, ?_⟩
      have q := x.cell y c e
      rw [bindC_get ndP hp hu (by show scope.names.lookup y ≠ _; rw [k]; decide)] at q
      exact q
  · exact e0.hok.fresh (Nat.le_of_lt (x.above y c (PySem.mem_of_lookup h)))
  · unfold start
    show _ = N.length
    rw [List.length_append, List.length_map, List.length_replicate]
    omega

/-- THE RULE: a def (or a method) of the text, by its body. The body's reading t is chosen for each entry; it is run at the parameters' values -/
theorem fn_of {CX : CXT} {P : Program} {w : World} {K : PySem.W.Frag} {mg : Str → Option Value} {base : Heap} {k : Nat} {f : Addr} {name qual : Str} {params : Arguments} {body : List Stmt} {scope : Scope} {dV kV doc pm cdv ct oc : Value} {an od : Option Addr}
    {osl : Array (Option Value)} {N ps : List Str} {sp : Sp} (lk : K.lookup f = some ⟨oc, od, .func (PySem.W.fnOf name qual params body scope dV kV doc pm an cdv ct), osl⟩) (hcd : PySem.W.codeIn K cdv qual = true) (S : FnScope N ps scope)
    (len : ∀ vs H Q E, sp vs H Q E → vs.length = ps.length)
    (hbody : ∀ (A : Around) (outer : List Env) (s : Shared) (H : Hp) (vs : List V) (Q : VK) (E : XK), Room k (A.deeper (envOfC qual scope s.heap.objs.size f cdv)) → sp vs H Q E →
      ∃ t, PSs (cxOf CX P w K mg base N qual scope f cdv A outer s H E) body t ∧ t { nx := fun _ H' => Q .non H', rt := Q } (start N vs) H) :
    FnOk P w K mg base CX (k + 1) f (PySem.W.fnOf name qual params body scope dV kV doc pm an cdv ct) ps sp := by
  refine ⟨len, fun A outer s H args us vs Q E hr e0 hb r hsp => ?_⟩
  have hl := len _ _ _ _ hsp
  have KX : K.In s.heap := e0.mod.kin.keeps fun b o e => (e0.bs b o e).1
  have lim : s.heap.NoLimit := e0.mod.nolimit.keeps fun b o e => (e0.bs b o e).1
  have hkind : ∀ y ∈ ps.zip us, scope.names.lookup y.1 = some .local ∨ (scope.names.lookup y.1 = some .cell ∧ ((cellsFrom (s.heap.objs.size + 1) scope.names []).lookup y.1).isSome = true) := fun ⟨n, v⟩ hy => by
    rcases S.par n (List.of_mem_zip hy).1 with q | q
    · exact .inl q
    · exact .inr ⟨q, PySem.W.cellsFrom_some _ _ _ (.inl q)⟩
  refine codeAny_call_function hr.depth (KX _ _ lk) rfl S.co S.gen rfl (PySem.W.codeRec_of KX hcd) (hb _ _ _ _ ?_)
  refine wpAny_newFunctionEnv_cells S.kind hkind fun env he s1 x => ?_
  subst he
  refine ⟨lim.keeps x.toInCall.keep, codeAny_func ?_⟩
  obtain ⟨t, ht, hq⟩ := hbody A outer s H vs Q E (hr.deeper _) hsp
  have I : Inv (cxOf CX P w K mg base N qual scope f cdv A outer s H E) [] (start N vs) H s1 := inv_start S hr.hd e0 hl r x
  refine wpAny_mono (ht [] s1 (start N vs) H _ I hq) (fun fl s' hs => ?_) fun e s' hs => hs
  have fin : ∀ {σ' : St} {H' : Hp} {v : V} {u : Value}, Inv (cxOf CX P w K mg base N qual scope f cdv A outer s H E) [] σ' H' s' → RelV v u → Q v H' → CE outer P w H s Q u s' :=
    fun {σ' H' v u} J rv q => ⟨v, H', J.os, J.bare, J.base, J.hok, rv, q⟩
  cases fl with
  | ret u =>
    obtain ⟨v, σ', H', J, rv, q⟩ := hs
    exact fin J rv q
  | next =>
    obtain ⟨σ', H', J, q⟩ := hs
    exact fin (v := V.non) (u := Value.none) J rfl q
  | brk =>
    obtain ⟨_, _, _, q⟩ := hs
    exact False.elim q
  | cont =>
    obtain ⟨_, _, _, q⟩ := hs
    exact False.elim q
end L2

namespace L2
open PySem PySem.Spec PyProof.Rows
section
variable {X : Cx} {x : Str} {p pos : Pos} {e : Expr} {es : List Expr} {t : TA} {id T : String} {r : List V → Hp → VK → Prop}

def tCB (r : List V → Hp → VK → Prop) (t : TA) : TE := fun σ H Q => t σ H fun vs H1 => r vs H1 Q
/-- f(e, ..), f a built-in function -/
theorem pe_callB (hc : CallR X (.builtin id) r) (hg : Gl X x) (hm : X.mg x = none) (hv : bootBuiltins x = some (.builtin id)) (ha : PA X (e :: es) t) (hn : x ≠ "__name__" := by decide) (hdb : (x == ("__debug__" : Str)) = false := by decide)
    (he : starEach (e :: es) X.env = (false, eval e X.env) :: starEach es X.env := by rfl) (hpl : (backTo pos (starEach es X.env)).any (·.1) = false := by rfl) : PE X (.Call (.Name x p) (e :: es) [] pos) (tCB r t) := by
  intro pins s σ H Q I h
  refine wpAny_Call_Name_kw (ld_blt I hg hm hv ?_ hn hdb)
  exact PyProof.Rows.callWith_builtin1 (thn (ha pos pins s σ H _ I h) fun us s1 ⟨vs, H1, I1, r1, q1⟩ => hc pins s1 σ H1 vs us Q I1 r1 q1) he hpl
/-- T(e, ..), T a built-in type -/
theorem pe_callTy (hc : CallR X (.type T) r) (hg : Gl X x) (hm : X.mg x = none) (hv : bootBuiltins x = some (.type T)) (ha : PA X (e :: es) t) (hn : x ≠ "__name__" := by decide) (hdb : (x == ("__debug__" : Str)) = false := by decide)
    (he : starEach (e :: es) X.env = (false, eval e X.env) :: starEach es X.env := by rfl) (hpl : (backTo pos (starEach es X.env)).any (·.1) = false := by rfl) : PE X (.Call (.Name x p) (e :: es) [] pos) (tCB r t) := by
  intro pins s σ H Q I h
  refine wpAny_Call_Name_kw (ld_blt I hg hm hv ?_ hn hdb)
  exact PyProof.Rows.callWith_type1 (thn (ha pos pins s σ H _ I h) fun us s1 ⟨vs, H1, I1, r1, q1⟩ => hc pins s1 σ H1 vs us Q I1 r1 q1) he hpl
end
end L2

namespace HT
open PySem PyProof.Rows

section
open PySem.SeqAt
open PySem.AutoSeq1 (wpAny_loadPart')
open PySem.MeetsSeq PySem.MeetsSeq2 PySem.MeetsSeq3

end

section
variable {prog : Program} {w : World} {A : Around} {E : Value → Shared → Prop} {s : Shared}

/-- t + u, t not empty -/
theorem cat_tup {t b : Addr} {vs ws : List Value} {Q : Value → Shared → Prop} (ht : IsTup s.heap t vs.toArray) (hb : IsTup s.heap b ws.toArray) (hv : vs ≠ [])
    (h1 : ws = [] → Q (.ref t) s) (h2 : ws ≠ [] → Q (.ref s.heap.objs.size) { s with heap := s.heap.push { cls := .type "tuple", data := .seq (vs ++ ws).toArray } })
    (hsz : vs.length + ws.length ≤ sizeLine) : wpAny (model prog w) A (binaryOp .Add (.ref t) (.ref b)) Q E s := by
  obtain ⟨⟨cls, dd, data, sl⟩, ho, hc, n, hd⟩ := id ht
  obtain ⟨⟨cls2, dd2, data2, sl2⟩, ho2, hc2, n2, hd2⟩ := id hb
  simp only at hc hd hc2 hd2
  subst hc hd hc2 hd2
  have e : vs.toArray ++ ws.toArray = (vs ++ ws).toArray := by simp
  by_cases hw : ws = []
  · exact concat_meets ⟨_, ho, rfl⟩ ⟨_, ho2, rfl⟩ noFill_tuple_add seq_tuple_add PySem.F.slot_tuple_add PySem.F.entry_tuple_add (PySem.F.args_tuple_add_2 _ _)
      (tuple_addW1 t b vs.toArray ws.toArray n n2 dd dd2 sl sl2 (by simpa using hv) (by simp [hw])) ⟨ho, ho2, h1 hw⟩
  · refine concat_meets ⟨_, ho, rfl⟩ ⟨_, ho2, rfl⟩ noFill_tuple_add seq_tuple_add PySem.F.slot_tuple_add PySem.F.entry_tuple_add (PySem.F.args_tuple_add_2 _ _)
      (tuple_addW2 t b vs.toArray ws.toArray n n2 dd dd2 sl sl2 (by simpa using hv) (by simpa using hw) (by rw [List.size_toArray, List.size_toArray]; exact hsz)) ⟨ho, ho2, ?_⟩
    rw [e]
    exact h2 hw

/-! ### t[a:b], not the whole -/
/-- a slice's bound as a place among n (d where it is left out) -/
def sIx (n d : Nat) : Option Int → Nat
  | none => d
  | some v => if v < 0 then (v + (n : Int)).toNat else min v.toNat n
theorem sIx_none (n d : Nat) : sIx n d none = d := rfl
theorem sIx_nat (n d k : Nat) : sIx n d (some (k : Int)) = min k n := by
  show (if (k : Int) < 0 then ((k : Int) + (n : Int)).toNat else min (k : Int).toNat n) = min k n
  rw [if_neg (by omega), Int.toNat_natCast]
theorem sIx_le (n d : Nat) (hd : d ≤ n) (o : Option Int) : sIx n d o ≤ n := by
  cases o with
  | none => exact hd
  | some v =>
    show (if v < 0 then (v + (n : Int)).toNat else min v.toNat n) ≤ n
    by_cases hv : v < 0
    · rw [if_pos hv]; omega
    · rw [if_neg hv]; exact Nat.min_le_right _ _
theorem clip_eq (v : Int) (n d : Nat) : (if v < 0 then max (v + (n : Int)) 0 else min v (n : Int)) = ((sIx n d (some v) : Nat) : Int) := by
  show (if v < 0 then max (v + (n : Int)) 0 else min v (n : Int)) = (((if v < 0 then (v + (n : Int)).toNat else min v.toNat n) : Nat) : Int)
  by_cases hv : v < 0
  · simp only [if_pos hv]; omega
  · simp only [if_neg hv]; omega
theorem adjust_gen (lo hi : Option Int) (n : Nat) : Builtin.Slice.sliceAdjust lo hi 1 (n : Int) = (((sIx n 0 lo : Nat) : Int), ((sIx n n hi : Nat) : Int)) := by
  have h1 : ¬ ((1 : Int) < 0) := by omega
  unfold Builtin.Slice.sliceAdjust
  simp only [h1, if_false]
  refine Prod.ext ?_ ?_
  · cases lo with
    | none => rfl
    | some v => exact clip_eq v n 0
  · cases hi with
    | none => rfl
    | some v => exact clip_eq v n n
theorem places_gen (i j : Nat) : Builtin.Slice.slicePlaces (i : Int) (j : Int) 1 = j - i := by
  unfold Builtin.Slice.slicePlaces
  have h1 : (1 : Int) > 0 := by omega
  simp only [h1, if_true, Int.ediv_one]
  split <;> omega
theorem slicePart_ {v : Value} {o : Option Int} {Q : Option Int → Shared → Prop} (p : IsPart v o) (h : Q o s) : wpAny (model prog w) A (Builtin.Slice.slicePartIndex v) Q E s := by
  cases p with
  | none => exact slicePart_none h
  | int i t => exact slicePart_int h
theorem sliceApplied_gen {sl : Addr} {vl vu : Value} {lo hi : Option Int} {n : Nat} {Q : Int × Int × Nat → Shared → Prop} (hs : s.heap.IsSliceOf sl vl vu .none) (pl : IsPart vl lo) (pu : IsPart vu hi)
    (h : Q (((sIx n 0 lo : Nat) : Int), 1, sIx n n hi - sIx n 0 lo) s) : wpAny (model prog w) A (Builtin.Slice.sliceApplied (.ref sl) (pure (n : Int))) Q E s := by
  obtain ⟨os, hos, hcs, hds⟩ := id hs
  unfold Builtin.Slice.sliceApplied Builtin.Slice.sliceFields
  refine wpAny_bind (wpAny_bind (wpAny_field hos hds (x := vl) rfl (wpAny_bind (wpAny_field hos hds (x := vu) rfl (wpAny_bind (wpAny_field hos hds (x := .none) rfl (wpAny_pure ?_)))))))
  refine wpAny_bind (slicePart_none ?_)
  show wpAny _ _ (if ((1 : Int) == 0) = true then _ else _) _ _ s
  rw [if_neg (by decide)]
  refine wpAny_bind (slicePart_ pl (wpAny_bind (slicePart_ pu (wpAny_bind (wpAny_pure ?_)))))
  show wpAny _ _ (match Builtin.Slice.sliceAdjust lo hi 1 (n : Int) with | (lo, hi) => pure (lo, (1 : Int), Builtin.Slice.slicePlaces lo hi 1)) _ _ s
  rw [adjust_gen lo hi n]
  show wpAny _ _ (pure (((sIx n 0 lo : Nat) : Int), (1 : Int), Builtin.Slice.slicePlaces ((sIx n 0 lo : Nat) : Int) ((sIx n n hi : Nat) : Int) 1)) _ _ s
  rw [places_gen]
  exact wpAny_pure h
theorem pick_gen (xs : Array Value) (i k : Nat) : ((List.range k).filterMap fun (m : Nat) => xs[((i : Int) + (m : Int) * 1).toNat]?).toArray = ((xs.toList.drop i).take k).toArray := by
  have e : (fun (m : Nat) => xs[((i : Int) + (m : Int) * 1).toNat]?) = fun m => xs[i + m]? := by
    funext m
    have : ((i : Int) + (m : Int) * 1).toNat = i + m := by omega
    rw [this]
  rw [e]
  have := pick_run xs i k
  rw [List.filterMap_map] at this
  have e2 : ((fun x => xs[x]?) ∘ fun x => i + x) = fun m => xs[i + m]? := rfl
  rw [e2] at this
  rw [this]

theorem getItem_tuple_cut {t sl : Addr} {items : Array Value} {vl vu : Value} {lo hi : Option Int} {Q : Value → Shared → Prop} (ht : IsTup s.heap t items) (hs : s.heap.IsSliceOf sl vl vu .none) (pl : IsPart vl lo) (pu : IsPart vu hi)
    (hw : ¬ (sIx items.size 0 lo = 0 ∧ sIx items.size items.size hi = items.size))
    (h : Q (.ref s.heap.objs.size) { s with heap := s.heap.push { cls := .type "tuple", data := .seq ((items.toList.drop (sIx items.size 0 lo)).take (sIx items.size items.size hi - sIx items.size 0 lo)).toArray } })
    (hsz : items.size ≤ sizeLine) : wpAny (model prog w) A (getItem (.ref t) (.ref sl)) Q E s := by
  have htake : sizeOk (.seq ((items.toList.drop (sIx items.size 0 lo)).take (sIx items.size items.size hi - sIx items.size 0 lo)).toArray) := by
    show ((items.toList.drop (sIx items.size 0 lo)).take (sIx items.size items.size hi - sIx items.size 0 lo)).toArray.size ≤ sizeLine
    rw [List.size_toArray, List.length_take, List.length_drop, Array.length_toList]
    omega
  have hj : sIx items.size items.size hi ≤ items.size := sIx_le _ _ (Nat.le_refl _) hi
  obtain ⟨os, hos, hcs, hds⟩ := id hs
  have hTs : s.TypeIs (.ref sl) "slice" := ⟨os, hos, hcs⟩
  unfold getItem
  try with_reducible refine wpAny_holding ?_
  first | refine wpAny_bind (wpAny_pure ?_) | skip
  refine wpAny_bind (wpAny_sequenceKey ht.typeIs (by decide) ?_)
  refine wpAny_bind (wpAny_callSpecial?_slot (name := Str.ofString "__getitem__") ht.typeIs PyProof.Rows.slot_tuple_getitem
    (wpAny_call_entry PyProof.Rows.slot_tuple_getitem ht.typeIs entry_tuple_getitem ?_ (args_tuple_getitem _ _)))
  show wpAny _ _ (Builtin.Tuple.tupleItemsOf (.ref t) >>= _) _ _ s
  refine wpAny_bind (tupleItemsOf_ ht ?_)
  refine wpAny_bind (wpAny_typeOf hTs ?_)
  rw [if_pos (by decide)]
  refine wpAny_bind (sliceApplied_gen hs pl pu ?_)
  have hno : ¬ ((((sIx items.size 0 lo : Nat) : Int) == 0 && (1 : Int) == 1 && (sIx items.size items.size hi - sIx items.size 0 lo) == items.size) = true) := by
    intro q
    rw [Bool.and_eq_true, Bool.and_eq_true] at q
    have q1 : ((sIx items.size 0 lo : Nat) : Int) = 0 := eq_of_beq q.1.1
    have q2 : sIx items.size items.size hi - sIx items.size 0 lo = items.size := eq_of_beq q.2
    exact hw ⟨by omega, by omega⟩
  show wpAny _ _ (if (((sIx items.size 0 lo : Nat) : Int) == 0 && (1 : Int) == 1 && (sIx items.size items.size hi - sIx items.size 0 lo) == items.size) = true then _ else _) _ _ s
  rw [if_neg hno, pick_gen]
  first
    | exact wpAny_bind (m := Builtin.Tuple.tupleExact _) (wpAny_newObj_type (wpAny_pure ⟨_, rfl, wpAny_pure h⟩) htake)
    | exact wpAny_bind (m := Builtin.Tuple.tupleExact _) (wpAny_newObj_type (wpAny_bind (wpAny_pure (wpAny_pure ⟨_, rfl, wpAny_pure h⟩))) htake)
    | exact wpAny_bind (wpAny_bind (m := Builtin.Tuple.tupleExact _) (wpAny_newObj_type (wpAny_pure (wpAny_pure ⟨_, rfl, wpAny_pure h⟩)) htake))
    | exact wpAny_bind (wpAny_bind (m := Builtin.Tuple.tupleExact _) (wpAny_newObj_type (wpAny_pure ⟨_, rfl, wpAny_pure h⟩) htake))
end
end HT

namespace L2
open PySem PySem.Spec PyProof.Rows

/-! ### the parts of a slice -/
abbrev TO := St → Hp → (Option Int → Hp → Prop) → Prop
/-- a slice's part (left out, or an int) -/
def PO (X : Cx) (e : Option Expr) (t : TO) : Prop :=
  ∀ (pins : List (Addr × Obj)) (s : Shared) (σ : St) (H : Hp) (Q : Option Int → Hp → Prop), Inv X pins σ H s → t σ H Q →
    wpAny (model X.prog X.w) X.A (evalPart e X.env) (fun u s' => ∃ o H', Inv X pins σ H' s' ∧ IsPart u o ∧ Q o H') X.xe s
def tNoPart : TO := fun _ H Q => Q none H
def tPart (t : TE) : TO := fun σ H Q => t σ H fun x H1 => ∃ i, x = .int i ∧ Q (some i) H1

theorem intsAre_of {ns : List Int} : ∀ {us : List Value}, Vals (ns.map V.int) us → IntsAre us ns := by
  induction ns with
  | nil => intro us r; rw [List.map_nil] at r; cases r; exact .nil
  | cons n ns ih =>
    intro us r
    rw [List.map_cons] at r
    cases r with
    | cons r1 r2 =>
      obtain ⟨t, e⟩ := r1
      subst e
      exact .cons n t (ih r2)

section
variable {X : Cx} {e : Expr} {te : TE} {lo hi : Option Expr} {tl th : TO} {pos p2 : Pos}

theorem po_none : PO X none tNoPart := by
  intro pins s σ H Q I h
  rw [evalPart_none]
  exact wpAny_pure ⟨none, H, I, .none, h⟩
theorem po_some (h : PE X e te) : PO X (some e) (tPart te) := by
  intro pins s σ H Q I hw
  rw [evalPart_some]
  refine thn (h pins s σ H _ I hw) fun u s1 ⟨x, H1, I1, r1, q1⟩ => ?_
  obtain ⟨i, rfl, q⟩ := q1
  obtain ⟨t, rfl⟩ := r1
  exact ⟨some i, H1, I1, .int i t, q⟩

/-- what a slice of a value is, by values: the slice object stands at sl -/
def SlR (X : Cx) (r : V → Option Int → Option Int → Hp → VK → Prop) : Prop :=
  ∀ (pins : List (Addr × Obj)) (s : Shared) (σ : St) (H : Hp) (x : V) (v vl vu : Value) (lo hi : Option Int) (sl : Addr) (Q : VK), Inv X pins σ H s → RelV x v → s.heap.IsSliceOf sl vl vu .none → IsPart vl lo → IsPart vu hi → r x lo hi H Q →
    ∃ T id, typeLookup (.type T) "__getitem__" = pure (some (.builtin id)) ∧ s.TypeIs v T ∧ wpAny (model X.prog X.w) X.A (getItem v (.ref sl)) (EP X pins σ Q) X.xe s
theorem SlR.or {r r' : V → Option Int → Option Int → Hp → VK → Prop} (h : SlR X r) (h' : SlR X r') : SlR X (fun x lo hi H Q => r x lo hi H Q ∨ r' x lo hi H Q) := by
  intro pins s σ H x v vl vu lo hi sl Q I rx hs pl pu q
  rcases q with q | q
  · exact h pins s σ H x v vl vu lo hi sl Q I rx hs pl pu q
  · exact h' pins s σ H x v vl vu lo hi sl Q I rx hs pl pu q
def tSl (r : V → Option Int → Option Int → Hp → VK → Prop) (te : TE) (tl th : TO) : TE := fun σ H Q => te σ H fun x H1 => tl σ H1 fun l H2 => th σ H2 fun u H3 => r x l u H3 Q
/-- a[lo:hi], any a -/
theorem pe_slice {r : V → Option Int → Option Int → Hp → VK → Prop} (hr : SlR X r) (he : PE X e te) (hl : PO X lo tl) (hu : PO X hi th) : PE X (.Subscript e (.Slice lo hi none p2) pos) (tSl r te tl th) := by
  intro pins s σ H Q I h
  refine Subscript_ (thn (he pins s σ H _ I h) fun v s1 ⟨x, H1, I1, r1, q1⟩ => ?_)
  refine wpAny_Slice (thn (hl pins s1 σ H1 _ I1 q1) fun vl s2 ⟨l, H2, I2, pl, q2⟩ => thn (hu pins s2 σ H2 _ I2 q2) fun vu s3 ⟨u, H3, I3, pu, q3⟩ => ?_)
  rw [evalPart_none]
  refine wpAny_pure ?_
  have I4 : Inv X pins σ H3 { s3 with heap := s3.heap.push { cls := .type "slice", data := .fields #[vl, vu, .none] } } := I3.kept (t' := s3.toks) fun b ob q => Heap.get?_push_of_some _ q
  obtain ⟨T, id, hT, ht, hg⟩ := hr pins { s3 with heap := s3.heap.push { cls := .type "slice", data := .fields #[vl, vu, .none] } } σ H3 x v vl vu l u s3.heap.objs.size Q I4 r1 (Heap.IsSliceOf.new ..) pl pu q3
  show wpAny (model X.prog X.w) X.A (subscriptTail e (.Slice lo hi none p2) v (.ref s3.heap.objs.size)) (EP X pins σ Q) X.xe { s3 with heap := s3.heap.push { cls := .type "slice", data := .fields #[vl, vu, .none] } }
  exact tail_any (ops := [.ref s3.heap.objs.size, v]) ht hT hg (by with_unfolding_all rfl)

/-- the items of xs[lo:hi] -/
def cutV (xs : List V) (lo hi : Option Int) : List V := (xs.drop (HT.sIx xs.length 0 lo)).take (HT.sIx xs.length xs.length hi - HT.sIx xs.length 0 lo)
theorem cutV_length (xs : List V) (lo hi : Option Int) : (cutV xs lo hi).length ≤ xs.length := by
  unfold cutV
  rw [List.length_take, List.length_drop]
  omega
/-- t[lo:hi], not the whole of it (the whole would be t itself) -/
def rSlT (K : PySem.W.Frag) : V → Option Int → Option Int → Hp → VK → Prop := fun x lo hi H Q => ∃ a xs, x = .ref a ∧ SqT K H a xs ∧
  ¬ (HT.sIx xs.length 0 lo = 0 ∧ HT.sIx xs.length xs.length hi = xs.length) ∧ ∀ p, H p = none → Q (.ref p) (upd H p (.tup (cutV xs lo hi)))
theorem sl_tup : SlR X (rSlT X.K) := by
  intro pins s σ H x v vl vu lo hi sl Q I rx hs pl pu h
  obtain ⟨a, xs, rfl, hx, hw, q⟩ := h
  cases rx
  obtain ⟨its, r, ht, hz⟩ := I.tuple hx
  have hlen : its.toArray.size = xs.length := by rw [List.size_toArray]; exact r.length.symm
  refine ⟨"tuple", _, PyProof.Rows.slot_tuple_getitem.lookup, ht.typeIs, ?_⟩
  refine HT.getItem_tuple_cut ht hs pl pu (by rw [hlen]; exact hw) ?_ (by rw [hlen]; exact hz)
  rw [hlen]
  refine ⟨.ref s.heap.objs.size, _, I.laid (t' := s.toks) (o := .tup (cutV xs lo hi)) (fun b ob q => Heap.get?_push_of_some _ q) (Nat.le_refl _) ?_, rfl, q _ (I.hok.fresh (Nat.le_refl _))⟩
  exact ⟨Nat.le_trans (cutV_length xs lo hi) hz, _, (r.drop (HT.sIx xs.length 0 lo)).take (HT.sIx xs.length xs.length hi - HT.sIx xs.length 0 lo), IsTup.new _ _⟩

/-! ### t < u, t + u -/
/-- t + u, t not empty: u empty gives t itself -/
def rCatT (K : PySem.W.Frag) : R2 := fun x y H Q => ∃ a b xs ys, x = .ref a ∧ y = .ref b ∧ SqT K H a xs ∧ SqT K H b ys ∧ xs ≠ [] ∧ xs.length + ys.length ≤ sizeLine ∧
  (ys = [] → Q (.ref a) H) ∧ (ys ≠ [] → ∀ p, H p = none → Q (.ref p) (upd H p (.tup (xs ++ ys))))
theorem Vals.nil_iff {xs : List V} {us : List Value} (r : Vals xs us) : us = [] ↔ xs = [] := by
  cases r with
  | nil => simp
  | cons _ _ => simp
theorem op_catT : OpR X (binaryOp .Add) (rCatT X.K) := by
  intro pins s σ H x y v u Q I rx ry h
  obtain ⟨a, b, xs, ys, rfl, rfl, ha, hb, hx, hz, q1, q2⟩ := h
  cases rx
  cases ry
  obtain ⟨its, r1, p1, _⟩ := I.tuple ha
  obtain ⟨its2, r2, p2, _⟩ := I.tuple hb
  refine HT.cat_tup p1 p2 (fun z => hx (r1.nil_iff.mp z)) (fun z => ⟨.ref a, H, I, rfl, q1 (r2.nil_iff.mp z)⟩) (fun z => ?_) (by rw [← r1.length, ← r2.length]; exact hz)
  refine ⟨.ref s.heap.objs.size, _, I.laid (t' := s.toks) (o := .tup (xs ++ ys)) (fun b ob q => Heap.get?_push_of_some _ q) (Nat.le_refl _) ?_, rfl, q2 (fun w => z (r2.nil_iff.mpr w)) _ (I.hok.fresh (Nat.le_refl _))⟩
  exact ⟨by rw [List.length_append]; exact hz, _, r1.append r2, IsTup.new _ _⟩
end
end L2

namespace L2
open PySem PySem.Spec PyProof.Rows

/-! ### places -/
/-- the place that an index of any sign means -/
def ixN (n : Nat) (i : Int) : Option Nat := if 0 ≤ i then (if i < n then some i.toNat else none) else if -(n : Int) ≤ i then some (i + n).toNat else none
def atI {α : Type} (xs : List α) (i : Int) : Option α := (ixN xs.length i).bind fun j => xs[j]?
theorem ixN_seq {n : Nat} {i : Int} {j : Nat} (h : ixN n i = some j) : seqIndex? i n = some j ∧ j < n ∧ -(n : Int) ≤ i ∧ i < n := by
  unfold ixN at h
  by_cases h0 : 0 ≤ i
  · rw [if_pos h0] at h
    by_cases h1 : i < n
    · rw [if_pos h1] at h
      have e : i.toNat = j := Option.some.inj h
      exact ⟨by rw [seqIndex_of h0 h1, e], by omega, by omega, h1⟩
    · rw [if_neg h1] at h; cases h
  · rw [if_neg h0] at h
    by_cases h1 : -(n : Int) ≤ i
    · rw [if_pos h1] at h
      have e : (i + n).toNat = j := Option.some.inj h
      exact ⟨by rw [seqIndex_neg (by omega) h1, e], by omega, h1, by omega⟩
    · rw [if_neg h1] at h; cases h
theorem atI_get {α : Type} {xs : List α} {i : Int} {v : α} (h : atI xs i = some v) : ∃ j, seqIndex? i xs.length = some j ∧ xs[j]? = some v ∧ j < xs.length ∧ -(xs.length : Int) ≤ i ∧ i < xs.length := by
  unfold atI at h
  cases e : ixN xs.length i with
  | none => rw [e] at h; cases h
  | some j =>
    rw [e] at h
    obtain ⟨h1, h2, h3, h4⟩ := ixN_seq e
    exact ⟨j, h1, h, h2, h3, h4⟩
theorem atI_nat {α : Type} {xs : List α} {j : Nat} {v : α} (h : xs[j]? = some v) : atI xs (j : Int) = some v := by
  have hj : j < xs.length := (List.getElem?_eq_some_iff.mp h).1
  have e : ixN xs.length (j : Int) = some j := by
    unfold ixN
    rw [if_pos (by omega), if_pos (by omega)]; simp
  unfold atI; rw [e]; exact h
theorem atI_last {α : Type} (xs : List α) (v : α) : atI (xs ++ [v]) (-1) = some v := by
  have hl : (xs ++ [v]).length = xs.length + 1 := by simp
  have e : ixN (xs ++ [v]).length (-1) = some xs.length := by
    unfold ixN
    rw [hl, if_neg (by decide), if_pos (by omega)]
    congr 1
    omega
  unfold atI
  rw [e]
  show (xs ++ [v])[xs.length]? = some v
  simp

/-! ### what may be subscripted -/
/-- what stands as an index of a plain subscript -/
def PlainIx (b : Expr) : Prop := ∀ o i, subscripted b false o i = operate [o, i] (getItem o i)
/-- a subscript by values -/
def IxR (X : Cx) (r : R2) : Prop :=
  ∀ (value slice : Expr) (pins : List (Addr × Obj)) (s : Shared) (σ : St) (H : Hp) (x y : V) (v u : Value) (Q : VK), Inv X pins σ H s → RelV x v → RelV y u → r x y H Q →
    subscripted slice false v u = operate [v, u] (getItem v u) → wpAny (model X.prog X.w) X.A (subscriptTail value slice v u) (EP X pins σ Q) X.xe s
/-- a call of a builtin's method by values: the receiver, the arguments -/
def MtR (X : Cx) (id : String) (r : V → List V → Hp → VK → Prop) : Prop :=
  ∀ (pins : List (Addr × Obj)) (s : Shared) (σ : St) (H : Hp) (x : V) (xs : List V) (v : Value) (us : List Value) (Q : VK), Inv X pins σ H s → RelV x v → Vals xs us → r x xs H Q →
    wpAny (model X.prog X.w) X.A (call (.builtin id) (v :: us)) (EP X pins σ Q) X.xe s
section
variable {X : Cx} {a b : Expr} {ta tb : TE} {pos : Pos}
theorem IxR.or {r r' : R2} (h : IxR X r) (h' : IxR X r') : IxR X (fun x y H Q => r x y H Q ∨ r' x y H Q) := by
  intro value slice pins s σ H x y v u Q I rx ry q hs
  rcases q with q | q
  · exact h value slice pins s σ H x y v u Q I rx ry q hs
  · exact h' value slice pins s σ H x y v u Q I rx ry q hs
theorem MtR.or {id : String} {r r' : V → List V → Hp → VK → Prop} (h : MtR X id r) (h' : MtR X id r') : MtR X id (fun x xs H Q => r x xs H Q ∨ r' x xs H Q) := by
  intro pins s σ H x xs v us Q I rx rs q
  rcases q with q | q
  · exact h pins s σ H x xs v us Q I rx rs q
  · exact h' pins s σ H x xs v us Q I rx rs q
/-- a[b] -/
theorem pe_ix {r : R2} (hr : IxR X r) (ha : PE X a ta) (hb : PE X b tb) (hs : PlainIx b) : PE X (.Subscript a b pos) (tOp r ta tb) := by
  intro pins s σ H Q I h
  exact Subscript_ (binT ha hb I h fun v u s2 x y H2 I2 rx ry q => hr a b pins s2 σ H2 x y v u Q I2 rx ry q (hs _ _))

def rIxL (K : PySem.W.Frag) : R2 := fun x y H Q => ∃ p xs i v, x = .ref p ∧ y = .int i ∧ SqL K H p xs ∧ atI xs i = some v ∧ Q v H
def rIxT (K : PySem.W.Frag) : R2 := fun x y H Q => ∃ p xs i v, x = .ref p ∧ y = .int i ∧ SqT K H p xs ∧ atI xs i = some v ∧ Q v H
def rIxS : R2 := fun x y H Q => ∃ z i c, x = .str z ∧ y = .int i ∧ z.length ≤ sizeLine ∧ atI z.cps.toList i = some c ∧ Q (.str ⟨#[c]⟩) H
theorem ix_list : IxR X (rIxL X.K) := by
  intro value slice pins s σ H x y v u Q I rx ry h hs
  obtain ⟨p, xs, i, z, rfl, rfl, hq, he, q⟩ := h
  cases rx
  obtain ⟨t, rfl⟩ := ry
  obtain ⟨its, r, pl, hz⟩ := I.list hq
  obtain ⟨j, h1, h2, h3, h4, h5⟩ := atI_get he
  obtain ⟨w, ew, rw'⟩ := r.get h2
  have hl := r.length
  have hn := line63
  have fin : EP X pins σ Q w s := ⟨z, H, I, rw', q⟩
  by_cases h0 : 0 ≤ i
  · have hj : i.toNat = j := by
      rw [seqIndex_of h0 h5] at h1
      exact Option.some.inj h1
    exact item_listR pl.isList h0 (by omega) (by rw [hj]; simpa using ew) fin hs
  · have hj : (i + (its.toArray.size : Int)).toNat = j := by
      rw [seqIndex_neg (by omega) h4] at h1
      rw [List.size_toArray, ← hl]
      exact Option.some.inj h1
    exact subscriptTail_builtinR (x := w) pl.isList.typeIs slot_list_getitem.lookup
      (wpAny_getItem_list_neg (Q := fun r s' => r = w ∧ EP X pins σ Q r s') pl.isList (by omega) (by rw [List.size_toArray] <;> omega) (by omega) (by rw [hj]; simpa using ew) ⟨rfl, fin⟩) hs
theorem ix_tup : IxR X (rIxT X.K) := by
  intro value slice pins s σ H x y v u Q I rx ry h hs
  obtain ⟨p, xs, i, z, rfl, rfl, hq, he, q⟩ := h
  cases rx
  obtain ⟨t, rfl⟩ := ry
  obtain ⟨its, r, pl, hz⟩ := I.tuple hq
  obtain ⟨j, h1, h2, h3, h4, h5⟩ := atI_get he
  obtain ⟨w, ew, rw'⟩ := r.get h2
  have hl := r.length
  have hn := line63
  have fin : EP X pins σ Q w s := ⟨z, H, I, rw', q⟩
  exact subscriptTail_builtinR (x := w) pl.typeIs slot_tuple_getitem.lookup
    (getItem_tuple (j := j) (Q := fun r s' => r = w ∧ EP X pins σ Q r s') pl (by omega) (by omega) (by rw [List.size_toArray, ← hl]; exact h1) (by simpa using ew) ⟨rfl, fin⟩) hs
theorem ix_str : IxR X rIxS := by
  intro value slice pins s σ H x y v u Q I rx ry h hs
  obtain ⟨z, i, c, rfl, rfl, hz, he, q⟩ := h
  obtain ⟨t, rfl⟩ := rx
  obtain ⟨t', rfl⟩ := ry
  obtain ⟨j, h1, h2, h3, h4, h5⟩ := atI_get he
  have hl : z.cps.toList.length = z.length := by simp [Str.length]
  rw [hl] at h1 h4 h5
  have hn := line63
  exact tail_any (typeIs_str s z t) slot_str_getitem.lookup (getItem_str (c := c) (by
    have e1 : decide (i < -(2 ^ 63 : Int)) = false := decide_eq_false (by omega)
    have e2 : decide (i ≥ 2 ^ 63) = false := decide_eq_false (by omega)
    rw [e1, e2, Bool.or_false]) (by rw [h1]; simpa using h2) ⟨.str ⟨#[c]⟩, H, I.tok _, ⟨_, rfl⟩, q⟩) hs
/-! ### xs[i] = v, any sign -/
/-- the list's object behind a store -/
theorem mapSeq_set (its : List Value) (n j : Nat) (u : Value) : Obj.mapSeq (·.setIfInBounds j u) { cls := .type "list", data := .seq its.toArray n } = { cls := .type "list", data := .seq (its.set j u).toArray n } := by
  simp [Obj.mapSeq]
theorem Inv.lst {pins : List (Addr × Obj)} {σ : St} {H : Hp} {s : Shared} {p : Addr} {xs : List V} (I : Inv X pins σ H s) (h : H p = some (.lst xs)) :
    ∃ (its : List Value) (n : Nat), Vals xs its ∧ s.heap.get? p = some { cls := .type "list", data := .seq its.toArray n } ∧ xs.length ≤ sizeLine := by
  obtain ⟨z, its, n, r, e⟩ := I.hok p _ h
  exact ⟨its, n, r, e, z⟩
/-- the list at p is written by an update of its object -/
theorem Inv.lstUpd {pins : List (Addr × Obj)} {σ : St} {H : Hp} {s : Shared} {p : Addr} {xs ys : List V} {its its' : List Value} {n n' : Nat} {f : Obj → Obj} (I : Inv X pins σ H s) (h : H p = some (.lst xs))
    (ho : s.heap.get? p = some { cls := .type "list", data := .seq its.toArray n }) (hf : f { cls := .type "list", data := .seq its.toArray n } = { cls := .type "list", data := .seq its'.toArray n' }) (r : Vals ys its') (hz : ys.length ≤ sizeLine) (t : Nat) :
    Inv X pins σ (upd H p (.lst ys)) { s with heap := s.heap.update p f, toks := t } := by
  have e : (s.heap.update p f).get? p = some { cls := .type "list", data := .seq its'.toArray n' } := by
    rw [Heap.get?_update_self f ho (by rw [hf] <;> rfl), hf]
  refine I.write (x := p) (e := p) (by rw [h]; trivial) (.inl rfl) (fun b u hb q => (Heap.get?_update_other _ _ (Ne.symm hb)).trans q) ⟨_, e⟩ ?_
  exact ⟨hz, its', n', r, e⟩
def rSetL : V → V → V → Hp → (Hp → Prop) → Prop := fun o i v H Q => ∃ p xs k j, o = .ref p ∧ i = .int k ∧ H p = some (.lst xs) ∧ ixN xs.length k = some j ∧ Q (upd H p (.lst (xs.set j v)))
theorem set_list : PSet X rSetL := by
  intro pins s σ H o i v ov iv u Q I ro ri rv h
  obtain ⟨p, xs, k, j, rfl, rfl, hp, hj, q⟩ := h
  cases ro
  obtain ⟨t, rfl⟩ := ri
  obtain ⟨its, n, r, ho, hz⟩ := I.lst hp
  obtain ⟨h1, h2, h3, h4⟩ := ixN_seq hj
  have hl := r.length
  have hn := line63
  have I' : Inv X pins σ (upd H p (.lst (xs.set j v))) { s with heap := s.heap.update p (Obj.mapSeq (·.setIfInBounds j u)) } :=
    I.lstUpd hp ho (mapSeq_set its n j u) (r.set rv j) (by rw [List.length_set]; exact hz) s.toks
  by_cases h0 : 0 ≤ k
  · have hk : k.toNat = j := by
      rw [seqIndex_of h0 h4] at h1
      exact Option.some.inj h1
    exact PySem.W.ki_setAt ho h0 (by omega) (by rw [List.size_toArray, ← hl]; exact h4) (by rw [hk]; exact ⟨_, I', q⟩)
  · have hk : (k + (its.toArray.size : Int)).toNat = j := by
      rw [seqIndex_neg (by omega) h3] at h1
      rw [List.size_toArray, ← hl]
      exact Option.some.inj h1
    exact PySem.W.ki_setBack ho (by omega) (by rw [List.size_toArray, ← hl]; exact h3) (by omega) (by rw [hk]; exact ⟨_, I', q⟩)

/-! ### slices -/
theorem slice_bounds (lo hi : Option Int) (n : Nat) : (sliceBounds lo hi none n).1 = ((HT.sIx n 0 lo : Nat) : Int) ∧ (sliceBounds lo hi none n).2.1 = ((HT.sIx n n hi : Nat) : Int) ∧ (sliceBounds lo hi none n).2.2 = 1 := by
  refine ⟨?_, ?_, rfl⟩
  · cases lo with
    | none => simp [sliceBounds, HT.sIx]
    | some i =>
      simp only [sliceBounds, HT.sIx, Option.getD_none, show (1 : Int) > 0 by decide, if_true]
      by_cases h : i < 0
      · simp only [h, if_true] <;> omega
      · simp only [h, if_false] <;> omega
  · cases hi with
    | none => simp [sliceBounds, HT.sIx]
    | some i =>
      simp only [sliceBounds, HT.sIx, Option.getD_none, show (1 : Int) > 0 by decide, if_true]
      by_cases h : i < 0
      · simp only [h, if_true] <;> omega
      · simp only [h, if_false] <;> omega
theorem slicePick_cut (its : List Value) (lo hi : Option Int) : slicePick its.toArray lo hi none = ((its.drop (HT.sIx its.length 0 lo)).take (HT.sIx its.length its.length hi - HT.sIx its.length 0 lo)).toArray := by
  obtain ⟨h1, h2, h3⟩ := slice_bounds lo hi its.toArray.size
  unfold slicePick
  rw [h1, h2, h3]
  simp only [sliceRange_one, pick_run, List.size_toArray] <;> rfl
/-- xs[lo:hi] of a list: a new list -/
def rSlL (K : PySem.W.Frag) : V → Option Int → Option Int → Hp → VK → Prop := fun x lo hi H Q => ∃ a xs, x = .ref a ∧ SqL K H a xs ∧ ∀ p, H p = none → Q (.ref p) (upd H p (.lst (cutV xs lo hi)))
theorem sl_list : SlR X (rSlL X.K) := by
  intro pins s σ H x v vl vu lo hi sl Q I rx hs pl pu h
  obtain ⟨a, xs, rfl, hx, q⟩ := h
  cases rx
  obtain ⟨its, r, ht, hz⟩ := I.list hx
  have hlen := r.length
  refine ⟨"list", _, slot_list_getitem.lookup, ht.isList.typeIs, ?_⟩
  refine wpAny_getItem_list_slice ht.isList hs pl pu .none (by simp) ?_ (by rw [List.size_toArray] <;> omega)
  rw [slicePick_cut, ← hlen]
  refine ⟨.ref s.heap.objs.size, _, I.laid (t' := s.toks) (o := .lst (cutV xs lo hi)) (fun b ob q => Heap.get?_push_of_some _ q) (Nat.le_refl _) ?_, rfl, q _ (I.hok.fresh (Nat.le_refl _))⟩
  exact ⟨Nat.le_trans (cutV_length xs lo hi) hz, _, 0, (r.drop (HT.sIx xs.length 0 lo)).take (HT.sIx xs.length xs.length hi - HT.sIx xs.length 0 lo), Heap.get?_push_size _ rfl⟩

/-! ### in, not in: flat items -/
def flatV : V → Bool
  | .non => true
  | .bl _ => true
  | .int _ => true
  | .str _ => true
  | _ => false
/-- == of flat values -/
def eqV : V → V → Bool
  | .non, .non => true
  | .bl a, .bl b => a == b
  | .bl a, .int b => (if a then 1 else 0) == b
  | .int a, .bl b => a == (if b then 1 else 0)
  | .int a, .int b => a == b
  | .str a, .str b => a == b
  | _, _ => false
theorem eqAt_V {A : Around} {s : Shared} {y x : V} {u v : Value} (ry : RelV y u) (rx : RelV x v) (fy : flatV y = true) (fx : flatV x = true) : SeqAt.EqAt A s u v (eqV y x) := by
  cases y with
  | non =>
    cases ry
    cases x with
    | non => cases rx; exact SeqAt.EqAt.same _
    | bl b => cases rx; exact SeqAt.EqAt.none_bool b
    | int b => obtain ⟨t, rfl⟩ := rx; exact SeqAt.EqAt.none_int b t
    | str b => obtain ⟨t, rfl⟩ := rx; exact SeqAt.EqAt.none_str b t
    | _ => exact absurd (show false = true from fx) Bool.false_ne_true
  | bl a =>
    cases ry
    cases x with
    | non => cases rx; exact SeqAt.EqAt.bool_none a
    | bl b => cases rx; exact SeqAt.EqAt.bool_bool a b
    | int b => obtain ⟨t, rfl⟩ := rx; exact SeqAt.EqAt.bool_int a b t
    | str b => obtain ⟨t, rfl⟩ := rx; exact SeqAt.EqAt.bool_str a b t
    | _ => exact absurd (show false = true from fx) Bool.false_ne_true
  | int a =>
    obtain ⟨t', rfl⟩ := ry
    cases x with
    | non => cases rx; exact SeqAt.EqAt.int_none a t'
    | bl b => cases rx; exact SeqAt.EqAt.int_bool a t' b
    | int b => obtain ⟨t, rfl⟩ := rx; exact SeqAt.EqAt.int_int a t' b t
    | str b => obtain ⟨t, rfl⟩ := rx; exact SeqAt.EqAt.int_str a t' b t
    | _ => exact absurd (show false = true from fx) Bool.false_ne_true
  | str a =>
    obtain ⟨t', rfl⟩ := ry
    cases x with
    | non => cases rx; exact SeqAt.EqAt.str_none a t'
    | bl b => cases rx; exact SeqAt.EqAt.str_bool a t' b
    | int b => obtain ⟨t, rfl⟩ := rx; exact SeqAt.EqAt.str_int a t' b t
    | str b => obtain ⟨t, rfl⟩ := rx; exact SeqAt.EqAt.str_str a t' b t
    | _ => exact absurd (show false = true from fx) Bool.false_ne_true
  | _ => exact absurd (show false = true from fy) Bool.false_ne_true
/-- the items' answers, read off the values (a value's own answer does not lean on its token) -/
def eqU (x : V) (u : Value) : Bool := match u with
  | .none => eqV .non x
  | .bool b => eqV (.bl b) x
  | .int i _ => eqV (.int i) x
  | .str z _ => eqV (.str z) x
  | _ => false
theorem eqU_of {x y : V} {u : Value} (r : RelV y u) (f : flatV y = true) : eqU x u = eqV y x := by
  cases y with
  | non => cases r; rfl
  | bl b => cases r; rfl
  | int i => obtain ⟨t, rfl⟩ := r; rfl
  | str z => obtain ⟨t, rfl⟩ := r; rfl
  | _ => exact absurd (show false = true from f) Bool.false_ne_true
theorem any_eqU {x : V} : ∀ {xs : List V} {us : List Value}, Vals xs us → xs.all flatV = true → us.any (eqU x) = xs.any fun y => eqV y x
  | _, _, .nil, _ => rfl
  | y :: xs, u :: us, .cons r t, f => by
    rw [List.all_cons, Bool.and_eq_true] at f
    rw [List.any_cons, List.any_cons, eqU_of r f.1, any_eqU t f.2]
theorem mem_eqAt {A : Around} {s : Shared} {x : V} {v : Value} (rx : RelV x v) (fx : flatV x = true) : ∀ {xs : List V} {us : List Value}, Vals xs us → xs.all flatV = true → ∀ u ∈ us, SeqAt.EqAt A s u v (eqU x u)
  | _, _, .nil, _ => fun u hu => by cases hu
  | y :: xs, u :: us, .cons r t, f => fun u' hu => by
    rw [List.all_cons, Bool.and_eq_true] at f
    rcases List.mem_cons.mp hu with rfl | hu
    · rw [eqU_of r f.1]; exact eqAt_V r rx f.1 fx
    · exact mem_eqAt rx fx t f.2 u' hu
def inV (x : V) (xs : List V) : Bool := xs.any fun y => eqV y x
/-- x in a list or tuple of flat items -/
def rIn (K : PySem.W.Frag) (neg : Bool) : R2 := fun x y H Q => ∃ p xs, y = .ref p ∧ (SqL K H p xs ∨ SqT K H p xs) ∧ flatV x = true ∧ xs.all flatV = true ∧ Q (.bl (if neg then !inV x xs else inV x xs)) H
theorem op_in_seq : OpR X (compareOp .In) (rIn X.K false) := by
  intro pins s σ H x y v u Q I rx ry h
  obtain ⟨p, xs, rfl, hq, fx, fs, q⟩ := h
  cases ry
  rcases hq with hq | hq
  · obtain ⟨its, r, pl, hz⟩ := I.list hq
    refine SeqAt.in_listAt (eqU x) pl.isList (fun w hw => mem_eqAt rx fx r fs w (by simpa using hw)) ⟨.bl _, H, I, rfl, ?_⟩
    rw [show its.toArray.any (eqU x) = its.any (eqU x) by simp, any_eqU r fs]
    exact q
  · obtain ⟨its, r, pl, hz⟩ := I.tuple hq
    refine SeqAt.in_tupleAt (eqU x) pl (fun w hw => mem_eqAt rx fx r fs w (by simpa using hw)) ⟨.bl _, H, I, rfl, ?_⟩
    rw [show its.toArray.any (eqU x) = its.any (eqU x) by simp, any_eqU r fs]
    exact q
theorem op_notIn_seq : OpR X (compareOp .NotIn) (rIn X.K true) := by
  intro pins s σ H x y v u Q I rx ry h
  obtain ⟨p, xs, rfl, hq, fx, fs, q⟩ := h
  cases ry
  rcases hq with hq | hq
  · obtain ⟨its, r, pl, hz⟩ := I.list hq
    refine SeqAt.notIn_listAt (eqU x) pl.isList (fun w hw => mem_eqAt rx fx r fs w (by simpa using hw)) ⟨.bl _, H, I, rfl, ?_⟩
    rw [show its.toArray.any (eqU x) = its.any (eqU x) by simp, any_eqU r fs]
    exact q
  · obtain ⟨its, r, pl, hz⟩ := I.tuple hq
    refine SeqAt.notIn_tupleAt (eqU x) pl (fun w hw => mem_eqAt rx fx r fs w (by simpa using hw)) ⟨.bl _, H, I, rfl, ?_⟩
    rw [show its.toArray.any (eqU x) = its.any (eqU x) by simp, any_eqU r fs]
    exact q
/-! ### len, list(x), tuple(x) of any list or tuple that is read -/
theorem call_len_seq : CallR X (.builtin "len") (fun xs H Q => ∃ p ys, xs = [.ref p] ∧ (SqL X.K H p ys ∨ SqT X.K H p ys) ∧ Q (.int ys.length) H) := by
  intro pins s σ H xs us Q I r h
  obtain ⟨p, ys, rfl, hq, q⟩ := h
  obtain ⟨u, rfl, rx⟩ := vals1 r
  cases rx
  have hn := line63
  rcases hq with hq | hq
  · obtain ⟨its, r', pl, hz⟩ := I.list hq
    have hlen := r'.length
    exact Calls.call_len_list pl.isList (by simp only [List.size_toArray] <;> omega) ⟨.int ys.length, H, I.tok _, ⟨s.toks + 1, by rw [List.size_toArray, hlen]⟩, q⟩
  · obtain ⟨its, r', pl, hz⟩ := I.tuple hq
    have hlen := r'.length
    exact len_tuple pl (by simp only [List.size_toArray] <;> omega) ⟨.int ys.length, H, I.tok _, ⟨s.toks + 1, by rw [List.size_toArray, hlen]⟩, q⟩
theorem call_len_str : CallR X (.builtin "len") (fun xs H Q => ∃ z, xs = [.str z] ∧ z.length ≤ sizeLine ∧ Q (.int z.length) H) := by
  intro pins s σ H xs us Q I r h
  obtain ⟨z, rfl, hz, q⟩ := h
  obtain ⟨u, rfl, t, rfl⟩ := vals1 r
  have hn := line63
  exact len_str (by omega) ⟨.int z.length, H, I.tok _, ⟨_, rfl⟩, q⟩
theorem CallR.or {f : Value} {r r' : List V → Hp → VK → Prop} (h : CallR X f r) (h' : CallR X f r') : CallR X f (fun xs H Q => r xs H Q ∨ r' xs H Q) := by
  intro pins s σ H xs us Q I rs q
  rcases q with q | q
  · exact h pins s σ H xs us Q I rs q
  · exact h' pins s σ H xs us Q I rs q
theorem call_tuple_of : CallR X (.type "tuple") (fun xs H Q => ∃ p ys, xs = [.ref p] ∧ ((SqL X.K H p ys ∧ ∀ l, H l = none → Q (.ref l) (upd H l (.tup ys))) ∨ (SqT X.K H p ys ∧ Q (.ref p) H))) := by
  intro pins s σ H xs us Q I r h
  obtain ⟨p, ys, rfl, h⟩ := h
  obtain ⟨u, rfl, rx⟩ := vals1 r
  cases rx
  rcases h with ⟨hq, q⟩ | ⟨hq, q⟩
  · obtain ⟨its, r', pl, hz⟩ := I.list hq
    have hlen := r'.length
    refine call_tuple_list pl.isList (fun h' kp => ?_) (by simp only [List.size_toArray] <;> omega)
    have I1 : Inv X pins σ H { s with heap := h' } := I.kept (t' := s.toks) kp
    have I2 : Inv X pins σ (upd H h'.objs.size (.tup ys)) { s with heap := h'.push { cls := .type "tuple", data := .seq its.toArray } } :=
      I1.laid (t' := s.toks) (fun b o e => Heap.get?_push_of_some _ e) (Nat.le_refl _) (show ObjOk X.prog X.w _ _ _ (.tup ys) from ⟨hz, its, r', IsTup.new _ _⟩)
    exact ⟨.ref h'.objs.size, _, I2, rfl, q _ (I1.hok.fresh (Nat.le_refl _))⟩
  · obtain ⟨its, r', pl, hz⟩ := I.tuple hq
    exact call_tuple_same pl ⟨.ref p, H, I, rfl, q⟩

/-! ### the call of a builtin's method: o.m(..) -/
/-- the value is of that builtin type -/
def tyV (K : PySem.W.Frag) (T : String) (x : V) (H : Hp) : Prop := match x with
  | .str _ => T = "str"
  | .int _ => T = "int"
  | .ref p => (T = "list" ∧ ∃ xs, SqL K H p xs) ∨ (T = "tuple" ∧ ∃ o, K.lookup p = some o ∧ o.cls = .type "tuple" ∧ o.dict = none) ∨
      (T = "dict" ∧ ((∃ kvs, H p = some (.dK kvs)) ∨ ∃ kvs, H p = some (.dT kvs))) ∨ (T = "set" ∧ ∃ S n, H p = some (.set S n))
  | _ => False
theorem tyV_is {pins : List (Addr × Obj)} {σ : St} {H : Hp} {s : Shared} {T : String} {x : V} {v : Value} (I : Inv X pins σ H s) (r : RelV x v) (ty : tyV X.K T x H) :
    s.TypeIs v T ∧ ∀ a, v = .ref a → ∃ ob, s.heap.get? a = some ob ∧ ob.dict = none := by
  cases x with
  | str z =>
    obtain ⟨t, rfl⟩ := r
    cases (show T = "str" from ty)
    exact ⟨typeIs_str s z t, fun _ e => nomatch e⟩
  | int i =>
    obtain ⟨t, rfl⟩ := r
    cases (show T = "int" from ty)
    exact ⟨typeIs_int s i t, fun _ e => nomatch e⟩
  | ref p =>
    cases r
    rcases ty with ⟨rfl, xs, hq⟩ | ⟨rfl, o, hk, hc, hd⟩ | ⟨rfl, hk⟩ | ⟨rfl, S, n, hk⟩
    · obtain ⟨its, _, pl, _⟩ := I.list hq
      refine ⟨pl.isList.typeIs, fun a e => ?_⟩
      cases e
      obtain ⟨o, n, e, c, hd, _⟩ := pl
      exact ⟨o, e, hd⟩
    · refine ⟨⟨o, I.kIn p o hk, hc⟩, fun a e => ?_⟩
      cases e
      exact ⟨o, I.kIn _ o hk, hd⟩
    · have z : ∃ o, s.heap.get? p = some o ∧ o.ExactDict := by
        rcases hk with ⟨kvs, hk⟩ | ⟨kvs, hk⟩
        · obtain ⟨_, _, _, _, o, _, _, e, ex, _⟩ := I.hok p _ hk
          exact ⟨o, e, ex⟩
        · obtain ⟨_, _, _, _, o, _, _, e, ex, _⟩ := I.hok p _ hk
          exact ⟨o, e, ex⟩
      obtain ⟨o, e, ex⟩ := z
      refine ⟨⟨o, e, ex.1⟩, fun a e2 => ?_⟩
      cases e2
      exact ⟨o, e, ex.2.1⟩
    · obtain ⟨o, _, _, _, e, ex, _⟩ := I.hok p _ hk
      refine ⟨⟨o, e, ex.1⟩, fun a e2 => ?_⟩
      cases e2
      exact ⟨o, e, ex.2.1⟩
  | _ => exact False.elim ty
def tBM0 (K : PySem.W.Frag) (T : String) (r : V → List V → Hp → VK → Prop) (to : TE) : TE := fun σ H Q => to σ H fun x H1 => tyV K T x H1 ∧ r x [] H1 Q
def tBM (K : PySem.W.Frag) (T : String) (r : V → List V → Hp → VK → Prop) (to : TE) (t : TA) : TE := fun σ H Q => to σ H fun x H1 => tyV K T x H1 ∧ t σ H1 fun xs H2 => r x xs H2 Q
variable {o e : Expr} {es : List Expr} {to : TE} {t : TA} {name : Str} {apos cpos : Pos} {T id : String} {r : V → List V → Hp → VK → Prop}
theorem pe_bm0 (pa : PlainAttrs T) (slot : Slot T name id) (hty : typeOf (.builtin id) = pure (.type "method_descriptor")) (hm : MtR X id r) (ho : PE X o to)
    (hbase : attributeBase o name X.env (eval o X.env) = eval o X.env := by rfl) (hline : (apos.endLine == cpos.line) = true := by rfl) : PE X (.Call (.Attribute o name apos) [] [] cpos) (tBM0 X.K T r to) := by
  intro pins s σ H Q I h
  refine wpAny_Call_method0_late hbase hline (thn (ho pins s σ H _ I h) fun v s1 ⟨x, H1, I1, r1, ty, q1⟩ => ?_)
  obtain ⟨h1, h2⟩ := tyV_is I1 r1 ty
  exact ⟨T, id, pa, slot, hty, h1, h2, Calls.callWith_builtin rfl (PySem.evalArgs_none (hm pins s1 σ H1 x [] v [] Q I1 r1 .nil q1))⟩
theorem pe_bm (pa : PlainAttrs T) (slot : Slot T name id) (hty : typeOf (.builtin id) = pure (.type "method_descriptor")) (hm : MtR X id r) (ho : PE X o to) (ha : PA X (e :: es) t)
    (hbase : attributeBase o name X.env (eval o X.env) = eval o X.env := by rfl)
    (hfew : ((backTo cpos (starEach (e :: es) X.env)).all (fun x => !x.1) && (backToKw cpos (keywordEach [] X.env)).all (fun x => x.1.isSome)
      && decide ((e :: es).length + ([] : List Keyword).length + (if ([] : List Keyword).isEmpty then 0 else 1) < 30)) = true := by rfl)
    (hline : (apos.endLine == cpos.line) = true := by rfl) (hs : starEach (e :: es) X.env = (false, eval e X.env) :: starEach es X.env := by rfl) (hplain : (backTo cpos (starEach es X.env)).any (·.1) = false := by rfl) :
    PE X (.Call (.Attribute o name apos) (e :: es) [] cpos) (tBM X.K T r to t) := by
  intro pins s σ H Q I h
  refine wpAny_Call_method_late hbase hfew hline rfl (thn (ho pins s σ H _ I h) fun v s1 ⟨x, H1, I1, r1, ty, q1⟩ => ?_)
  obtain ⟨h1, h2⟩ := tyV_is I1 r1 ty
  refine ⟨T, id, pa, slot, hty, h1, h2, ?_⟩
  have hA := ha cpos pins s1 σ H1 _ I1 q1
  rw [hs] at hA ⊢
  refine Calls.callWith_builtin (by show (false || (backTo cpos (starEach es X.env)).any (·.1)) = false; rw [hplain] <;> rfl) (Calls.evalArgs_plain ?_)
  exact thn hA fun us s2 ⟨vs, H2, I2, r2, q2⟩ => hm pins s2 σ H2 x vs v us Q I2 r1 r2 q2
/- xs.append(e), list.index on a module's tuple .. are MtR facts of 06m -/
end
end L2

namespace L2
open PySem PySem.Spec PyProof.Rows

def MtM (X : Cx) (id : String) (r : V → List V → Hp → VK → Prop) : Prop :=
  ∀ (pins : List (Addr × Obj)) (s : Shared) (σ : St) (H : Hp) (x : V) (xs : List V) (v : Value) (us : List Value) (Q : VK), Inv X pins σ H s → RelV x v → Vals xs us → r x xs H Q →
    wpAny (model X.prog X.w) X.A (call (.builtin id) (v :: us)) (EP X pins σ Q) X.xe s

/-! ### lists of values -/
theorem Vals.one : ∀ {x : V} {us : List Value}, Vals [x] us → ∃ u, us = [u] ∧ RelV x u
  | _, _, .cons r .nil => ⟨_, rfl, r⟩
theorem Vals.two : ∀ {x y : V} {us : List Value}, Vals [x, y] us → ∃ u v, us = [u, v] ∧ RelV x u ∧ RelV y v
  | _, _, _, .cons r (.cons q .nil) => ⟨_, _, rfl, r, q⟩
theorem Vals.zero : ∀ {us : List Value}, Vals [] us → us = []
  | _, .nil => rfl
theorem Vals.dropLast {xs : List V} {us : List Value} (h : Vals xs us) : Vals xs.dropLast us.dropLast := by
  induction h with
  | nil => exact .nil
  | cons r t ih =>
    cases t with
    | nil => exact .nil
    | cons q t' => exact .cons r ih
theorem Vals.eraseIdx : ∀ {xs : List V} {us : List Value} (i : Nat), Vals xs us → Vals (xs.eraseIdx i) (us.eraseIdx i)
  | _, _, _, .nil => .nil
  | _, _, 0, .cons _ t => t
  | _, _, i + 1, .cons r t => .cons r (Vals.eraseIdx i t)
theorem Vals.reverse {xs : List V} {us : List Value} (h : Vals xs us) : Vals xs.reverse us.reverse := by
  induction h with
  | nil => exact .nil
  | cons r t ih => rw [List.reverse_cons, List.reverse_cons]; exact Vals.append ih (.cons r .nil)
theorem len_erase {α : Type} : ∀ (l : List α) (i : Nat), (l.eraseIdx i).length ≤ l.length
  | [], _ => Nat.le_refl _
  | _ :: _, 0 => Nat.le_succ _
  | _ :: r, i + 1 => Nat.succ_le_succ (len_erase r i)
section
variable {X : Cx} {pins : List (Addr × Obj)} {σ : St} {H : Hp} {s : Shared} {l b : Addr} {xs ys zs : List V}

/-! ### the two steps: a tracked list is rewritten, a new list is laid -/
theorem Inv.lset {its its' : List Value} {n : Nat} {f : Array Value → Array Value} {t' : Nat} (I : Inv X pins σ H s) (hH : H l = some (.lst xs))
    (e : s.heap.get? l = some { cls := .type "list", data := .seq its.toArray n }) (hf : f its.toArray = its'.toArray) (hv : Vals ys its') (hz : ys.length ≤ sizeLine) :
    Inv X pins σ (upd H l (.lst ys)) { s with heap := s.heap.update l (Obj.mapSeq f), toks := t' } := by
  have q := PySem.IsL.update e f
  rw [hf] at q
  refine I.write (x := l) (e := l) (by rw [hH]; exact trivial) (.inl rfl) (fun b' u hb hu => (Heap.get?_update_other s.heap (Obj.mapSeq f) (Ne.symm hb)).trans hu) ⟨_, q⟩ ?_
  exact ⟨hz, its', _, hv, q⟩
theorem Inv.lnew {its : List Value} {t' : Nat} (I : Inv X pins σ H s) (hv : Vals ys its) (hz : ys.length ≤ sizeLine) :
    Inv X pins σ (upd H s.heap.objs.size (.lst ys)) { s with heap := s.heap.push { cls := .type "list", data := .seq its.toArray }, toks := t' } :=
  I.laid (fun _ _ q => Heap.get?_push_of_some _ q) (Nat.le_refl _) ⟨hz, its, 0, hv, Heap.get?_push_size _ rfl⟩
theorem Inv.fresh (I : Inv X pins σ H s) : H s.heap.objs.size = none := I.hok.fresh (Nat.le_refl _)
theorem Inv.lstM (I : Inv X pins σ H s) (hH : H l = some (.lst xs)) : xs.length ≤ sizeLine ∧ ∃ (its : List Value) (n : Nat), Vals xs its ∧ xs.length = its.length ∧ s.heap.get? l = some { cls := .type "list", data := .seq its.toArray n } := by
  obtain ⟨z, its, n, r, e⟩ := I.hok l _ hH
  exact ⟨z, its, n, r, r.length, e⟩

theorem notLongL {n : Nat} (h : n ≤ sizeLine) : Builtin.List.listTooLong n = false := by
  unfold Builtin.List.listTooLong
  exact decide_eq_false (by omega)
end

section
variable {X : Cx}

/-! ### methods -/
def rAppend : V → List V → Hp → VK → Prop := fun x vs H Q => ∃ l xs y, x = .ref l ∧ vs = [y] ∧ H l = some (.lst xs) ∧ xs.length < sizeLine ∧ Q .non (upd H l (.lst (xs ++ [y])))
theorem mt_append : MtM X "list.append" rAppend := by
  intro pins s σ H x vs v us Q I rx rv h
  obtain ⟨l, xs, y, rfl, rfl, hH, hz, q⟩ := h
  cases rx
  obtain ⟨u, rfl, ru⟩ := rv.one
  obtain ⟨z, its, n, r, hl, e⟩ := I.lstM hH
  refine call_meets F.slot_list_append ⟨_, e, rfl⟩ F.entry_list_append (F.args_list_append_2 _ _) (PySem.list_append l its.toArray n u (by rw [List.size_toArray]; omega)) ⟨e, ?_⟩
  refine ⟨.non, _, I.lset (its' := its ++ [u]) hH e (by simp) (r.append (.cons ru .nil)) ?_, rfl, q⟩
  rw [List.length_append, List.length_singleton]
  omega

def rExtend : V → List V → Hp → VK → Prop := fun x vs H Q => ∃ l b xs zs, x = .ref l ∧ vs = [.ref b] ∧ H l = some (.lst xs) ∧ H b = some (.lst zs) ∧ xs.length + zs.length ≤ sizeLine ∧ Q .non (upd H l (.lst (xs ++ zs)))
theorem mt_extend : MtM X "list.extend" rExtend := by
  intro pins s σ H x vs v us Q I rx rv h
  obtain ⟨l, b, xs, zs, rfl, rfl, hH, hB, hz, q⟩ := h
  cases rx
  obtain ⟨u, rfl, ru⟩ := rv.one
  cases ru
  obtain ⟨z, its, n, r, hl, e⟩ := I.lstM hH
  obtain ⟨z2, its2, n2, r2, hl2, e2⟩ := I.lstM hB
  have hsz : its.toArray.size + its2.toArray.size ≤ sizeLine := by rw [List.size_toArray, List.size_toArray]; omega
  have hlong : ¬ (!its.toArray.isEmpty && Builtin.List.listTooLong (its.toArray.size + its2.toArray.size)) = true := by
    rw [notLongL hsz, Bool.and_false]
    exact Bool.false_ne_true
  refine call_meets F.slot_list_extend ⟨_, e, rfl⟩ F.entry_list_extend (F.args_list_extend_2 _ _)
    (AutoSeq1.list_extend_list_list_0 l its.toArray n b its2.toArray n2 hlong (by rw [List.size_toArray]; omega) (by omega)) ⟨e, e2, ?_⟩
  refine ⟨.non, _, I.lset (its' := its ++ its2) hH e (by simp) (r.append r2) ?_, rfl, q⟩
  rw [List.length_append]
  omega

def rPopAt : V → List V → Hp → VK → Prop := fun x vs H Q => ∃ l xs i k y, x = .ref l ∧ vs = [.int i] ∧ H l = some (.lst xs) ∧ -(2 ^ 63) ≤ i ∧ i < 2 ^ 63 ∧ seqIndex? i xs.length = some k ∧ xs[k]? = some y ∧ Q y (upd H l (.lst (xs.eraseIdx k)))
theorem mt_popAt : MtM X "list.pop" rPopAt := by
  intro pins s σ H x vs v us Q I rx rv h
  obtain ⟨l, xs, i, k, y, rfl, rfl, hH, h1, h2, hk, hy, q⟩ := h
  cases rx
  obtain ⟨u, rfl, ru⟩ := rv.one
  obtain ⟨t, rfl⟩ := ru
  obtain ⟨z, its, n, r, hl, e⟩ := I.lstM hH
  obtain ⟨w, hw, rw'⟩ := r.get hy
  refine call_meets F.slot_list_pop ⟨_, e, rfl⟩ F.entry_list_pop (F.args_list_pop_2 _ _)
    (MeetsSeq.list_pop_at l its.toArray n i t k w (fitsIndex_both h1 h2) (by rw [List.size_toArray, ← hl]; exact hk) (by rw [← Array.getElem?_toList]; exact hw) (by rw [List.size_toArray]; omega)) ⟨e, ?_⟩
  refine ⟨y, _, I.lset (its' := its.eraseIdx k) hH e ?_ (r.eraseIdx k) ?_, rw', q⟩
  · show its.toArray.eraseIdxIfInBounds k = (its.eraseIdx k).toArray
    rw [List.eraseIdxIfInBounds_toArray]
  · have := len_erase xs k
    omega

/-! ### list + list, list += list, list * int -/
def rCat : R2 := fun x y H Q => ∃ l b xs zs, x = .ref l ∧ y = .ref b ∧ H l = some (.lst xs) ∧ H b = some (.lst zs) ∧ xs.length + zs.length ≤ sizeLine ∧ ∀ p, H p = none → Q (.ref p) (upd H p (.lst (xs ++ zs)))
theorem op_cat : OpR X (binaryOp .Add) rCat := by
  intro pins s σ H x y v u Q I rx ry h
  obtain ⟨l, b, xs, zs, rfl, rfl, hH, hB, hz, q⟩ := h
  cases rx
  cases ry
  obtain ⟨z, its, n, r, hl, e⟩ := I.lstM hH
  obtain ⟨z2, its2, n2, r2, hl2, e2⟩ := I.lstM hB
  refine PySem.P.add_list e e2 ?_ (by rw [List.size_toArray, List.size_toArray]; omega)
  have ea : its.toArray ++ its2.toArray = (its ++ its2).toArray := by simp
  rw [ea]
  exact ⟨.ref _, _, I.lnew (t' := s.toks) (r.append r2) (by rw [List.length_append]; omega), rfl, q _ I.fresh⟩
/-! ### del xs[i] -/
end

/-! ### xs[a:b] = ys -/
section
variable {prog : Program} {w : World} {A : Around} {E : Value → Shared → Prop} {s : Shared}
end

section
variable {X : Cx}
end
end L2

namespace Att
open PySem PySem.W PySem.Calls PyProof.Rows

/-! ### the script -/
theorem ints_of_wellAll {P : Params} {h : Heap} : ∀ (ns : List Int) (vs : List Value), WellAll P h vs (ns.map WData.int) → IntsAre vs ns := by
  intro ns
  induction ns with
  | nil =>
    intro vs w
    rw [List.map_nil] at w
    cases w
    exact .nil
  | cons n ns ih =>
    intro vs w
    rw [List.map_cons] at w
    cases w with
    | cons a b =>
      cases a
      exact .cons _ _ (ih _ b)

theorem script_of {l : OpenLaw} {n : Nat} (hn : l.most = some n) {P : Params} {h : Heap} {args : List WData} {vals : List Value}
    (hpre : l.row.toRowW.claim.pre args = true) (hwl : WellAll P h vals args) :
    ∃ a vs ns, vals = [Value.ref a] ∧ args = [WData.list (ns.map WData.int)] ∧ h.get? a = some { cls := .type "list", data := .seq vs.toArray } ∧ IntsAre vs ns ∧ ns.length ≤ n := by
  have hsh : WShape.hasAll [] args [.list .int] = true := (pre_splitW hpre).1
  have hc : l.pre.holds [] { args := args } = true := (pre_splitW hpre).2
  obtain ⟨d, r, rfl, h1, h2⟩ := hasAllW_cons hsh
  obtain rfl := hasAllW_nil h2
  obtain ⟨xs, rfl, h3⟩ := hasW_list h1
  obtain ⟨ns, rfl⟩ := items_int h3
  have hlen : ns.length ≤ n := by
    unfold OpenLaw.pre at hc
    have h4 : (WTm.not (.lt (.lit (.int (n : Int))) (.len (.arg 0)))).holds [] { args := [.list (ns.map .int)] } = true := by
      have h4 := (holds_andW hc).1
      rw [hn] at h4
      exact h4
    have h5 := condW_of h4 (w_not (w_lt w_lit (w_len_list (w_arg rfl))))
    rw [List.length_map] at h5
    refine Nat.le_of_not_lt fun q => ?_
    have q' : (n : Int) < ((ns.length : Nat) : Int) := by omega
    first
      | (rw [decide_eq_true q'] at h5; exact absurd h5 (by decide))
      | (simp at h5; omega)
  cases hwl with
  | cons w1 w2 =>
    cases w2
    cases w1 with
    | list ho hall => exact ⟨_, _, ns, rfl, rfl, ho, ints_of_wellAll ns _ hall, hlen⟩

theorem post_true (l : OpenLaw) (args : List WData) : l.row.toRowW.claim.post args (.bool true) args = true :=
  postW_of (r := l.row.toRowW) (X := (true == true))
    (show WShape.has [] (.bool true) .bool = true by first | rfl | decide | simp [WShape.has, WShape.arms, WShape.armsAll])
    (show (WTm.eq .res (.lit (.bool true))).value [] { args := args, res := some (.bool true), after := args } = some (.bool (true == true)) from w_eq_bool (w_res rfl) w_lit) rfl

/-! ### the attachment: holds_open's last premise (the goal 'hc' behind k_head) from a wpAny of the law's body -/
/-- the same from a codeAny of the CALL (for a layer whose function contracts speak of calls) -/
theorem attach_call {l : OpenLaw} {n : Nat} {q : Program} {loose : List Str} {XP : (Str → Option Value) → Heap → Prop} {YP : World → Heap → Prop} {d : DefRec}
    (hn : l.most = some n) (hdf : d.params.defaults = [])
    (call : ∀ (w : World) (s₀ s₁ : Shared) (mg mb : Str → Option Value) (fa : Addr) (o : Obj) (pm cd doc : Value) (a : Addr) (vs : List Value) (ns : List Int),
      Ground q loose [] XP w s₀ mg mb s₁.heap → YP w s₁.heap →
      s₁.heap.get? fa = some o → o.data = .func (docDef d.name d.params d.body d.scope pm cd doc) → s₁.heap.CodeRec cd d.name → mg d.name = some (.ref fa) →
      s₁.heap.get? a = some { cls := .type "list", data := .seq vs.toArray } → IntsAre vs ns → ns.length ≤ n → s₁.gens = #[] →
      codeAny (model l.prog w) callerA (.call (.ref fa) ⟨[.ref a], []⟩) (fun r s' => r = .ok (.ret (.bool true)) ∧ OldK s₁.heap s'.heap ∧ s'.os = s₁.os ∧ AllBare s'.gens) s₁) :
    WalkO q loose XP YP l.row.toRowW d [] (fun f vs => PySem.call f vs) := by
  intro w s₀ s₁ mg mb G Y fa o pm cd doc dV kV ho hd hcd hD hmg hg args vals as hpre hlay hrd hwl hlo
  obtain rfl : dV = .none := Dflts.none hD hdf
  obtain rfl : kV = .none := Dflts.noKw hD
  obtain ⟨a, vs, ns, rfl, rfl, hobj, hints, hlen⟩ := script_of hn hpre hwl
  refine enter_call (codeAny_mono (call w s₀ s₁ mg mb fa o pm cd doc a vs ns G Y ho (fd_plain hd) hcd hmg hobj hints hlen hg) fun r s' hq => ?_)
  obtain ⟨rfl, h2, h3, h4⟩ := hq
  exact ⟨.inl ⟨.bool true, .bool true, [], rfl, fun _ => rfl, .bool true, post_true l _, fun _ => ⟨List.Pairwise.nil, fun _ hm => (nomatch hm)⟩⟩, h2, h3, h4⟩

/-! ### rules over ANY heap (no ledger) from facts about the written part K: the library's own take a ledger (News) for what they write -/
section
variable {prog : Program} {w : World} {A : Around} {E : Value → Shared → Prop} {s : Shared} {K : Frag}

/-! the whole heap as the ledger: makes every rule that writes through a ledger a rule over any heap -/
def ledger (h : Heap) (L d : Addr) : List (Addr × Obj) := (List.range h.objs.size).filterMap fun a => if a = L ∨ a = d then none else (h.get? a).map fun o => (a, o)
end
end Att

namespace L2
open PySem PySem.Spec PyProof.Rows

theorem vals_ints : ∀ {vs : List Value} {ns : List Int}, IntsAre vs ns → Vals (ns.map V.int) vs
  | _, _, .nil => .nil
  | _, _, .cons n t h => .cons ⟨t, rfl⟩ (vals_ints h)

/-- nothing is tracked but the script, known to the object (or it is an object of the module) -/
def Only (H : Hp) : Prop := ∀ b, H b = none ∨ ∃ o xs, H b = some (.frz o (.lst xs))

/-- THE HEAD: the law's promise, at the heap behind the top. F, the promise of the law's def, may use that base is part of the heap (so K.In base, base.Ns mainGlobals mg stand in Mod) -/
theorem law_call {P : Program} {w : World} {K : PySem.W.Frag} {mg mb : Str → Option Value} {CX : CXT} {k : Nat} {fa a : Addr} {fd : FuncData} {x : Str} {sp : Sp} {s₁ : Shared} {vs : List Value} {ns : List Int}
    (KX : K.In s₁.heap) (hns : s₁.heap.Ns mainGlobals mg) (hb : s₁.heap.Ns builtinsNs mb) (hbb : ∀ x : Str, x ≠ "__name__" → mb x = bootBuiltins x) (hlim : s₁.heap.NoLimit) (hg : s₁.gens = #[])
    (ha : s₁.heap.get? a = some { cls := .type "list", data := .seq vs.toArray }) (hi : IntsAre vs ns) (hl : ns.length ≤ sizeLine) (hr : Room k callerA)
    (F : ∀ base : Heap, K.In base → base.Ns mainGlobals mg → FnOk P w K mg base CX k fa fd [x] sp) (hbind : ∀ (s : Shared) (u : Value), BindsTo s fd ⟨[u], []⟩ [(x, u)])
    (hsp : ∀ H : Hp, Only H → SqL K H a (ns.map V.int) → sp [.ref a] H (fun v _ => v = .bl true) fun _ _ _ => False)
    (hCX : ∀ H e s', CX [] H s₁ (fun _ _ _ => False) e s' → False) :
    codeAny (model P w) callerA (.call (.ref fa) ⟨[.ref a], []⟩) (fun r s' => r = .ok (.ret (.bool true)) ∧ OldK s₁.heap s'.heap ∧ s'.os = s₁.os ∧ AllBare s'.gens) s₁ := by
  have rv := vals_ints hi
  have lenV := hi.length
  -- from an abstract heap in which nothing but the script may be tracked
  have core : ∀ H : Hp, Only H → SqL K H a (ns.map V.int) → HOk P w H s₁.heap → (∀ b, H b ≠ none → b = a) → (H a ≠ none → K.lookup a = none) →
      codeAny (model P w) callerA (.call (.ref fa) ⟨[.ref a], []⟩) (fun r s' => r = .ok (.ret (.bool true)) ∧ OldK s₁.heap s'.heap ∧ s'.os = s₁.os ∧ AllBare s'.gens) s₁ := by
    intro H hO hS hok hA hK
    have base_of : ∀ {b : Addr} {o : Obj}, s₁.heap.get? b = some o → H b = none → (hidT s₁.heap H).get? b = some o := fun e n => hidT_get e n
    have noA : ∀ {b : Addr} {o : Obj} {es : Array DictEntry} {ep : Nat}, s₁.heap.get? b = some o → o.data = .dict es ep → H b = none := fun {b o es ep} e d => by
      cases q : H b with
      | none => rfl
      | some u =>
        have e' : b = a := hA b (by rw [q]; simp)
        subst e'
        rw [ha] at e; cases e
        have d' : Data.seq vs.toArray _ = Data.dict es ep := d
        cases d'
    have nsK : ∀ {b : Addr} {m : Str → Option Value}, s₁.heap.Ns b m → (hidT s₁.heap H).Ns b m := fun {b m} ⟨o, es, ep, e, d, r⟩ => ⟨o, es, ep, base_of e (noA e d), d, r⟩
    have hKb : K.In (hidT s₁.heap H) := fun b o e => base_of (KX b o e) (by
      cases q : H b with
      | none => rfl
      | some u =>
        have e' : b = a := hA b (by rw [q]; simp)
        subst e'
        rw [hK (by rw [q]; simp)] at e; cases e)
    have hM : Mod K mg (hidT s₁.heap H) := ⟨hKb, nsK hns, ⟨mb, nsK hb, hbb⟩, let ⟨mc, h1, h2⟩ := hlim; ⟨mc, nsK h1, h2⟩⟩
    have e0 : Env0 P w K mg (hidT s₁.heap H) callerA [] s₁ H := ⟨rfl, hM, fun b o e => of_hidT e, Nat.le_of_eq (hidT_size _ _), trivial, fun b hb => absurd (show b ∈ ([] : List Addr) from hb) (by simp), hok, .of_eq hg⟩
    refine codeAny_mono ((F _ hKb (nsK hns)).run callerA [] s₁ H ⟨[.ref a], []⟩ [.ref a] [.ref a] _ _ hr e0 (hbind s₁ (.ref a)) (.cons rfl .nil) (hsp H hO hS)) fun r s' h => ?_
    cases r with
    | error e => exact (hCX H e s' h).elim
    | ok fl =>
      cases fl with
      | next => exact False.elim h
      | brk => exact False.elim h
      | cont => exact False.elim h
      | ret u =>
        obtain ⟨v, H', os, bare, un, hok', r', q⟩ := h
        have q' : v = .bl true := q
        subst q'
        obtain rfl : u = Value.bool true := r'
        refine ⟨rfl, OldK.of_keep fun b o e => ?_, os, bare⟩
        cases q : H b with
        | none => exact un.keep b o e q (by intro z; exact absurd (show b ∈ ([] : List Addr) from z) (by simp)) (by simp)
        | some u =>
          rcases hO b with z | ⟨ob, xs, z⟩
          · rw [q] at z; cases z
          · have z2 := un.frzs b ob _ z
            obtain ⟨e1, _⟩ := hok b _ z
            obtain ⟨e2, _⟩ := hok' b _ z2
            rw [e] at e1; cases e1
            exact e2
  cases hk : K.lookup a with
  | some o =>
    -- the script is one of the module's own objects
    have e := KX a o hk
    rw [ha] at e
    cases e
    refine core (fun _ => none) (fun _ => .inl rfl) (.inr ⟨_, vs.toArray, _, hk, rfl, rfl, rfl, by rw [List.size_toArray, lenV]; exact hl, by simpa using rv⟩) (fun b u z => by have z' : (none : Option HO) = some u := z; cases z') (fun b z => absurd rfl z) fun z => absurd rfl z
  | none =>
    refine core (fun b => if b = a then some (.frz { cls := .type "list", data := .seq vs.toArray } (.lst (ns.map V.int))) else none) (fun b => ?_) (.inl (.inr ⟨{ cls := .type "list", data := .seq vs.toArray }, if_pos rfl⟩)) (fun b u z => ?_) (fun b z => ?_) fun _ => hk
    · by_cases hb : b = a
      · exact .inr ⟨_, _, if_pos hb⟩
      · exact .inl (if_neg hb)
    · by_cases hb : b = a
      · have z' := (if_pos hb).symm.trans z
        cases z'
        subst hb
        exact ⟨ha, by rw [List.length_map]; exact hl, vs, _, rv, ha⟩
      · have z' := (if_neg hb).symm.trans z
        cases z'
    · by_cases hb : b = a
      · exact hb
      · exact absurd (if_neg hb) z
end L2

namespace L2
open PySem PySem.Spec PyProof.Rows

abbrev KOf {K : PySem.W.Frag} {h : Heap} (_ : K.In h) : PySem.W.Frag := K

/-- the goal that k_head leaves (case hc), from the law's promise. F gives the function object fd (K's own) once, then the promise over every base -/
theorem walk_of {l : PySem.W.OpenLaw} {n k : Nat} {q : Program} {loose : List Str} {XP : (Str → Option Value) → Heap → Prop} {YP : World → Heap → Prop} {d : DefRec} {K : Params → PySem.W.Frag} {CX : World → CXT} {sp : World → Sp} {x : Str}
    (hn : l.most = some n) (hn2 : n ≤ sizeLine) (hdf : d.params.defaults = []) (hr : Room k callerA)
    (hY : ∀ (w : World) (h : Heap), YP w h → (K w.params).In h)
    (F : ∀ (w : World) (mg : Str → Option Value) (fa : Addr) (h : Heap), (K w.params).In h → h.Ns mainGlobals mg → mg d.name = some (.ref fa) →
      ∃ fd : FuncData, (∀ (s : Shared) (u : Value), BindsTo s fd ⟨[u], []⟩ [(x, u)]) ∧
        ∀ base : Heap, (K w.params).In base → base.Ns mainGlobals mg → FnOk l.prog w (K w.params) mg base (CX w) k fa fd [x] (sp w))
    (hsp : ∀ (w : World) (H : Hp) (a : Addr) (ns : List Int), ns.length ≤ n → Only H → SqL (K w.params) H a (ns.map V.int) → sp w [.ref a] H (fun v _ => v = .bl true) fun _ _ _ => False)
    (hCX : ∀ (w : World) (H : Hp) (s : Shared) (e : Value) (s' : Shared), CX w [] H s (fun _ _ _ => False) e s' → False) :
    PySem.W.WalkO q loose XP YP l.row.toRowW d [] (fun f vs => PySem.call f vs) := by
  refine Att.attach_call hn hdf fun w s₀ s₁ mg mb fa o pm cd doc a vs ns G Y ho hd hcd hmg hobj hints hlen hg => ?_
  have KX := hY w _ Y
  obtain ⟨fd, hb, hF⟩ := F w mg fa _ KX G.T.g hmg
  exact law_call KX G.T.g G.T.b G.T.builtins G.T.nolimit hg hobj hints (Nat.le_trans hlen hn2) hr hF hb (fun H hO hS => hsp w H a ns hlen hO hS) fun H e s' => hCX w H s₁ e s'
end L2

/- THE LAST THEOREM (shape; LID, My.* are yours):
   My.Adr: a structure of the addresses that your layer names (classes, functions); My.Txt K t: a structure (Prop) of the equations over K;
   My.txt_mk : {K} {implicit addresses ..} (e1 : nsIn K mainGlobals "law" = some (some (.ref f))) (e2 : K.lookup f = some ⟨oc, od, .func (fnOf "law" "law" params body scope dV kV doc pm an cdv ct), sl⟩) (e3 : codeIn K cdv "law" = true) .. : ∃ t, My.Txt K t

set_option maxRecDepth 100000 in
set_option maxHeartbeats 0 in
theorem PySem.Challenge.cw_LID_holds : PySem.Challenge.rw_LID.Holds := by
  w_on; o_law; k_head; (case hw => w_witness2)
  k_fill
  refine L2.walk_of (l := PySem.Challenge.rw_LID) (n := 63) (k := 40) (x := "script") (CX := fun w => ..) (sp := fun _ => My.sp_law) rfl (by decide) rfl ⟨rfl, by decide, by decide⟩ (fun w h Y => PySem.W.kIn_of Y) ?F ?S ?C
  case F =>
    intro w mg fa h KX G hmg
    have T : ∃ t, My.Txt (L2.KOf KX) t := by
      dsimp only [L2.KOf]                          -- K must stand as «<heap const> w.params» for k_is
      refine' My.txt_mk ?e1 ?e2 ?e3 ..
      (case e1 => PySem.W.k_is)                    -- in the order: a name -> its address -> its object -> its parts
      (case e2 => PySem.W.k_is)
      ..
    obtain ⟨t, T⟩ := T
    have e0 := hmg.symm.trans (PySem.W.mg_of KX G T.law)
    cases e0                                       -- fa is the law's own address
    exact ⟨_, fun s u => .of_eq rfl, fun base kb nb => My.law_fn T kb nb⟩     -- if «.of_eq rfl» comes too early: refine' ⟨_, ?b, fun base kb nb => My.law_fn T kb nb⟩; exact fun s u => .of_eq rfl
  case S => exact fun w H a ns hl hO hS => ..
  case C => exact ..
(the tactic k_is has no namespace: write k_is) -/

/-! SHORT WORDS over the layer: a def of the text, its body, what a loop and a test want. -/
namespace L2
open PySem PySem.Spec PyProof.Rows

/-! ### the text by places -/
def defArgs (s : Stmt) : Arguments := match s with
  | .FunctionDef _ a _ _ _ _ _ _ _ _ => a
  | _ => { posonlyargs := [], args := [], vararg := none, kwonlyargs := [], kw_defaults := [], kwarg := none, defaults := [] }
def defBody (s : Stmt) : List Stmt := match s with
  | .FunctionDef _ _ b _ _ _ _ _ _ _ => b
  | _ => []
def defScope (s : Stmt) : Scope := match s with
  | .FunctionDef _ _ _ _ _ _ sc _ _ _ => sc
  | _ => { kind := .function, names := [], isGenerator := false, isCoroutine := false }

/-! ### no exception leaves a def -/
abbrev CX0 : CXT := fun _ _ _ _ _ _ => False
abbrev E0 : XK := fun _ _ _ => False
theorem pass0 {X : Cx} : Passes CX0 X E0 := fun _ _ _ _ _ _ _ h => h.elim

/-! ### a def (or method) of the text as it stands behind the top -/
structure Fun (K : PySem.W.Frag) (x qual : Str) (st : Stmt) (f : Addr) (fd : FuncData) : Prop where
  ex : ∃ (oc : Value) (od : Option Addr) (kV doc pm : Value) (an : Option Addr) (cdv ct : Value) (osl : Array (Option Value)),
    fd = PySem.W.fnOf x qual (defArgs st) (defBody st) (defScope st) .none kV doc pm an cdv ct ∧ K.lookup f = some ⟨oc, od, .func fd, osl⟩ ∧ PySem.W.codeIn K cdv qual = true
  kp : PySem.W.keepIn K (.ref f) = true
section
variable {P : Program} {w : World} {K : PySem.W.Frag} {mg : Str → Option Value} {base : Heap}
/-- THE RULE for a def: its body as a term of rules, and the reading of that term -/
theorem Fun.ok {x qual : Str} {st : Stmt} {f : Addr} {fd : FuncData} {N ps : List Str} {k : Nat} {sp : Sp} (F : Fun K x qual st f fd) (S : FnScope N ps (defScope st)) (len : ∀ vs H Q E, sp vs H Q E → vs.length = ps.length)
    (hbody : ∀ (cdv : Value) (A : Around) (outer : List Env) (s : Shared) (H : Hp) (vs : List V) (Q : VK) (E : XK), Room k (A.deeper (envOfC qual (defScope st) s.heap.objs.size f cdv)) → sp vs H Q E →
      ∃ t, PSs (cxOf CX0 P w K mg base N qual (defScope st) f cdv A outer s H E).nox (defBody st) t ∧ t { nx := fun _ H' => Q .non H', rt := Q } (start N vs) H) : FnOk P w K mg base CX0 (k + 1) f fd ps sp := by
  obtain ⟨oc, od, kV, doc, pm, an, cdv, ct, osl, rfl, lk, hcd⟩ := F.ex
  refine fn_of lk hcd S len fun A outer s H vs Q E hr hsp => ?_
  obtain ⟨t, h, q⟩ := hbody cdv A outer s H vs Q E hr hsp
  exact ⟨t, h.nox, q⟩
/-- how its arguments bind (no defaults): h is «fun _ _ _ _ _ _ us hl => match us, hl with | [_, _], _ => rfl», one _ a parameter -/
theorem Fun.binds {x qual : Str} {st : Stmt} {f : Addr} {fd : FuncData} {ps : List Str} (F : Fun K x qual st f fd)
    (h : ∀ (kV doc pm : Value) (an : Option Addr) (cdv ct : Value) (us : List Value), us.length = ps.length → bindArgs (PySem.W.fnOf x qual (defArgs st) (defBody st) (defScope st) .none kV doc pm an cdv ct) ⟨us, []⟩ = pure (ps.zip us)) : Binds K fd ps [] := by
  obtain ⟨oc, od, kV, doc, pm, an, cdv, ct, osl, rfl, lk, hcd⟩ := F.ex
  exact .all (h kV doc pm an cdv ct)
theorem fun_mk {x qual : Str} {st : Stmt} {f : Addr} {oc : Value} {od an : Option Addr} {osl : Array (Option Value)} {kV doc pm cdv ct : Value} (l : K.lookup f = some ⟨oc, od, .func (PySem.W.fnOf x qual (defArgs st) (defBody st) (defScope st) .none kV doc pm an cdv ct), osl⟩)
    (c : PySem.W.codeIn K cdv qual = true) (k : PySem.W.keepIn K (.ref f) = true) : Fun K x qual st f (PySem.W.fnOf x qual (defArgs st) (defBody st) (defScope st) .none kV doc pm an cdv ct) := ⟨⟨oc, od, kV, doc, pm, an, cdv, ct, osl, rfl, l, c⟩, k⟩
end
/-! ### expressions in short: the name that stands in the i-th slot -/
section
variable {X : Cx}
theorem pv (i : Nat) {x : Str} {pos : Pos} (hN : X.N[i]? = some x := by rfl) (hv : Vis X.env.scope x := by first | exact Or.inl rfl | exact Or.inr (Or.inl rfl) | exact Or.inr (Or.inr rfl)) (hd : (x == ("__debug__" : Str)) = false := by decide)
    (hcd : (x == ("__classdict__" : Str)) = false := by decide) : PE X (.Name x pos) (tVar i) := pe_var hN hv hd hcd
end

/-! ### tests -/
theorem iteF {A B : Prop} (h : B) : if false = true then A else B := by
  rw [if_neg Bool.false_ne_true]
  exact h
theorem iteT {A B : Prop} (h : A) : if true = true then A else B := by
  rw [if_pos rfl]
  exact h
theorem ite2 {c A B : Prop} [Decidable c] (h1 : c → A) (h2 : ¬ c → B) : if c then A else B := by
  by_cases h : c
  · rw [if_pos h]
    exact h1 h
  · rw [if_neg h]
    exact h2 h
/-! ### heaps -/
/-- all that was tracked is as it was -/
def Same (H H' : Hp) : Prop := ∀ b o, H b = some o → H' b = some o
theorem Same.refl (H : Hp) : Same H H := fun _ _ h => h
theorem Same.trans {H H1 H2 : Hp} (a : Same H H1) (b : Same H1 H2) : Same H H2 := fun c o h => b c o (a c o h)
theorem Same.free {H H' : Hp} (e : Same H H') {l : Addr} (h : H' l = Option.none) : H l = Option.none := by
  cases q : H l with
  | none => rfl
  | some o =>
    rw [e l o q] at h
    cases h
theorem Same.seq {K : PySem.W.Frag} {H H' : Hp} {a : Addr} {xs : List V} (e : Same H H') (h : SqL K H a xs) : SqL K H' a xs := by
  rcases h with (h | ⟨o, h⟩) | h
  · exact .inl (.inl (e _ _ h))
  · exact .inl (.inr ⟨o, e _ _ h⟩)
  · exact .inr h

end L2
namespace L2
open PySem PySem.Spec PyProof.Rows

def clOf (env : Env) : List (Str × NameKind) → List (Str × Addr) → List (Str × Addr)
  | [], acc => acc
  | (n, k) :: r, acc => clOf env r (if k == .free then (match env.cells.lookup n with | some a => (n, a) :: acc | none => acc) else acc)
theorem closureFor_loop {env : Env} : ∀ (names : List (Str × NameKind)) (acc : List (Str × Addr)), (∀ y ∈ names, y.2 = .free → ∃ c, env.cells.lookup y.1 = some c) →
    (forIn names acc fun (x : Str × NameKind) (cs : List (Str × Addr)) => (if (x.2 == NameKind.free) = true then do let a ← cellOf env x.1; pure (ForInStep.yield ((x.1, a) :: cs)) else pure (ForInStep.yield cs) : Sem (ForInStep (List (Str × Addr))))) = pure (clOf env names acc)
  | [], acc, _ => rfl
  | (n, k) :: r, acc, h => by
    rw [List.forIn_cons]
    have hr : ∀ y ∈ r, y.2 = .free → ∃ c, env.cells.lookup y.1 = some c := fun y hy => h y (List.mem_cons_of_mem _ hy)
    cases hk : (k == NameKind.free) with
    | false =>
      have e1 : clOf env ((n, k) :: r) acc = clOf env r acc := by
        show clOf env r (if (k == NameKind.free) = true then (match env.cells.lookup n with | some a => (n, a) :: acc | none => acc) else acc) = _
        rw [hk, if_neg Bool.false_ne_true]
      rw [e1, ← closureFor_loop r acc hr]
      simp only [hk, Bool.false_eq_true, if_false, pure_bind]
    | true =>
      obtain ⟨c, hc⟩ := h (n, k) List.mem_cons_self (by simpa using hk)
      have e1 : clOf env ((n, k) :: r) acc = clOf env r ((n, c) :: acc) := by
        have hc' : env.cells.lookup n = some c := hc
        show clOf env r (if (k == NameKind.free) = true then (match env.cells.lookup n with | some a => (n, a) :: acc | none => acc) else acc) = _
        rw [hk, hc', if_pos rfl]
      have e2 : cellOf env n = pure c := by
        have hc' : env.cells.lookup n = some c := hc
        unfold cellOf
        rw [hc']
      rw [e1, ← closureFor_loop r ((n, c) :: acc) hr]
      simp only [hk, if_true, e2, pure_bind]
theorem closureFor_cl {scope : Scope} {env : Env} (h : ∀ y ∈ scope.names, y.2 = .free → ∃ c, env.cells.lookup y.1 = some c) : closureFor scope env = pure (clOf env scope.names []) := by
  have e := closureFor_loop scope.names [] h
  simp only [closureFor]
  rw [e]
  rfl
theorem clOf_from {env : Env} {x : Str} {c : Addr} : ∀ (names : List (Str × NameKind)) (acc : List (Str × Addr)), (∀ y d, acc.lookup y = some d → env.cells.lookup y = some d) → (clOf env names acc).lookup x = some c → env.cells.lookup x = some c
  | [], acc, ha, h => ha x c h
  | (n, k) :: r, acc, ha, h => by
    refine clOf_from r _ (fun y d q => ?_) h
    by_cases hk : (k == NameKind.free) = true
    · rw [if_pos hk] at q
      cases e : env.cells.lookup n with
      | none => rw [e] at q; exact ha y d q
      | some a =>
        rw [e] at q
        have q' : List.lookup y ((n, a) :: acc) = some d := q
        rw [List.lookup_cons] at q'
        cases hy : (y == n) with
        | true =>
          rw [hy] at q'
          have : y = n := by simpa using hy
          subst this
          rw [e]; exact q'
        | false => rw [hy] at q'; exact ha y d q'
    · rw [if_neg hk] at q; exact ha y d q
theorem clOf_acc {env : Env} {x : Str} : ∀ (names : List (Str × NameKind)) (acc : List (Str × Addr)), (∃ c, acc.lookup x = some c) → ∃ c, (clOf env names acc).lookup x = some c
  | [], acc, h => h
  | (n, k) :: r, acc, ⟨c, hc⟩ => by
    refine clOf_acc r _ ?_
    by_cases hk : (k == NameKind.free) = true
    · rw [if_pos hk]
      cases e : env.cells.lookup n with
      | none => exact ⟨c, hc⟩
      | some a =>
        show ∃ c, List.lookup x ((n, a) :: acc) = some c
        rw [List.lookup_cons]
        cases hy : (x == n) with
        | true => exact ⟨a, rfl⟩
        | false => exact ⟨c, hc⟩
    · rw [if_neg hk]; exact ⟨c, hc⟩
theorem clOf_has {env : Env} {x : Str} : ∀ (names : List (Str × NameKind)) (acc : List (Str × Addr)), (∀ y ∈ names, y.2 = .free → ∃ c, env.cells.lookup y.1 = some c) → names.lookup x = some .free → ∃ c, (clOf env names acc).lookup x = some c
  | [], acc, _, h => by simp at h
  | (n, k) :: r, acc, hf, h => by
    have hr : ∀ y ∈ r, y.2 = .free → ∃ c, env.cells.lookup y.1 = some c := fun y hy => hf y (List.mem_cons_of_mem _ hy)
    rw [List.lookup_cons] at h
    cases hy : (x == n) with
    | true =>
      rw [hy] at h
      have hk : k = .free := Option.some.inj h
      subst hk
      have hx : x = n := by simpa using hy
      subst hx
      obtain ⟨c, hc⟩ := hf (x, .free) List.mem_cons_self rfl
      have hc' : env.cells.lookup x = some c := hc
      refine clOf_acc r _ ⟨c, ?_⟩
      rw [if_pos (show (NameKind.free == NameKind.free) = true by decide), hc']
      show List.lookup x ((x, c) :: acc) = some c
      rw [List.lookup_cons]
      simp
    | false =>
      rw [hy] at h
      exact clOf_has r _ hr h

theorem relabel_free {env : Env} : ∀ {names : List (Str × NameKind)} {x : Str}, names.lookup x = some .free →
    ((names.map fun (n, k) => if (k == NameKind.free && env.scope.kind == .function && env.kindOf n == some .cell) then (n, NameKind.cell) else (n, k)).lookup x = some .cell ∨
     (names.map fun (n, k) => if (k == NameKind.free && env.scope.kind == .function && env.kindOf n == some .cell) then (n, NameKind.cell) else (n, k)).lookup x = some .free)
  | [], _, h => by simp at h
  | (n, k) :: r, x, h => by
    have ih := @relabel_free env r x
    show (List.lookup x ((if (k == NameKind.free && env.scope.kind == .function && env.kindOf n == some .cell) = true then (n, NameKind.cell) else (n, k)) :: _) = _ ∨ List.lookup x ((if (k == NameKind.free && env.scope.kind == .function && env.kindOf n == some .cell) = true then (n, NameKind.cell) else (n, k)) :: _) = _)
    cases hx : x == n with
    | true =>
      simp only [List.lookup_cons, hx] at h
      cases h
      by_cases hc : ((NameKind.free == NameKind.free) && env.scope.kind == .function && env.kindOf n == some .cell) = true
      · rw [if_pos hc]; simp [List.lookup_cons, hx]
      · rw [if_neg hc]; simp [List.lookup_cons, hx]
    | false =>
      simp only [List.lookup_cons, hx] at h
      by_cases hc : (k == NameKind.free && env.scope.kind == .function && env.kindOf n == some .cell) = true
      · rw [if_pos hc]; simp only [List.lookup_cons, hx]; exact ih h
      · rw [if_neg hc]; simp only [List.lookup_cons, hx]; exact ih h
theorem relabel_back {env : Env} : ∀ {names : List (Str × NameKind)} {x : Str}, (∀ y ∈ names, y.2 ≠ .cell) →
    ((names.map fun (n, k) => if (k == NameKind.free && env.scope.kind == .function && env.kindOf n == some .cell) then (n, NameKind.cell) else (n, k)).lookup x = some .cell ∨
     (names.map fun (n, k) => if (k == NameKind.free && env.scope.kind == .function && env.kindOf n == some .cell) then (n, NameKind.cell) else (n, k)).lookup x = some .free) → names.lookup x = some .free
  | [], _, _, h => by simp at h
  | (n, k) :: r, x, hn, h => by
    have ih := @relabel_back env r x (fun y hy => hn y (List.mem_cons_of_mem _ hy))
    have hk := hn (n, k) List.mem_cons_self
    have h' : (List.lookup x ((if (k == NameKind.free && env.scope.kind == .function && env.kindOf n == some .cell) = true then (n, NameKind.cell) else (n, k)) :: (r.map fun (n, k) => if (k == NameKind.free && env.scope.kind == .function && env.kindOf n == some .cell) then (n, NameKind.cell) else (n, k))) = some .cell ∨ List.lookup x ((if (k == NameKind.free && env.scope.kind == .function && env.kindOf n == some .cell) = true then (n, NameKind.cell) else (n, k)) :: (r.map fun (n, k) => if (k == NameKind.free && env.scope.kind == .function && env.kindOf n == some .cell) then (n, NameKind.cell) else (n, k))) = some .free) := h
    cases hx : x == n with
    | true =>
      rw [List.lookup_cons, hx]
      by_cases hc : (k == NameKind.free && env.scope.kind == .function && env.kindOf n == some .cell) = true
      · have : (k == NameKind.free) = true := by
          rw [Bool.and_eq_true, Bool.and_eq_true] at hc; exact hc.1.1
        have hk' : k = .free := by simpa using this
        rw [hk']
      · rw [if_neg hc] at h'
        simp only [List.lookup_cons, hx] at h'
        rcases h' with h' | h'
        · exact absurd (Option.some.inj h') hk
        · exact h'
    | false =>
      rw [List.lookup_cons, hx]
      by_cases hc : (k == NameKind.free && env.scope.kind == .function && env.kindOf n == some .cell) = true
      · rw [if_pos hc] at h'; simp only [List.lookup_cons, hx] at h'; exact ih h'
      · rw [if_neg hc] at h'; simp only [List.lookup_cons, hx] at h'; exact ih h'

/-! ### the loop of a comprehension, any target -/
abbrev noE : Value → Shared → Prop := fun _ _ => False
theorem compLoop_gen {prog : Program} {w : World} {A : Around} {R : Result → Shared → Prop} {s : Shared} {elt target iter : Expr} {ifs : List Expr} {scope : Scope} {pos : Pos} {it acc : Value} {env : Env} (I : Nat → Shared → Prop)
    (turn : ∀ n s, I n s → wpAny (model prog w) A (pyNext it) (fun r s₁ => match r with
      | none => R (.ok .next) s₁
      | some v => wpAny (model prog w) A (letOwnedTupleGo target it v) (fun _ s₁' => wpAny (model prog w) A (assign target env v) (fun _ s₂ =>
          wpAny (model prog w) A (forIn ifs true fun c r => if r = true then do let ok ← isTrue c env (eval c env); pure (ForInStep.yield ok) else pure (ForInStep.yield r)) (fun ok s₃ =>
            if ok = true then wpAny (model prog w) A (eval elt env) (fun x s₄ =>
              wpAny (model prog w) A (call (.builtin "list.append") [acc, x]) (fun _ s₅ => ∃ m, m < n ∧ I m s₅) noE s₄) noE s₃
            else ∃ m, m < n ∧ I m s₃) noE s₂) noE s₁') noE s₁) noE s)
    (n : Nat) (h : I n s) : codeAny (model prog w) A (.compLoop (.ListComp elt [⟨target, iter, ifs, 0⟩] scope pos) 0 it acc env) R s := by
  refine codeAny_loop rfl I (fun n s hI => ?_) n h
  show wpAny _ A ((compTurn (.ListComp elt [⟨target, iter, ifs, 0⟩] scope pos) 0 it acc env).onRaise (fun x => do noteFrame x env; theTreesLotGoes x)) _ _ s
  refine wpAny_noted ?_
  rw [compTurn_list]
  have no : ∀ {F : Value → Shared → Prop} (e : Value) (s' : Shared), noE e s' → F e s' := fun _ _ h => h.elim
  refine wpAny_bind (wpAny_standAt (wpAny_bind (wpAny_mono (turn n s hI) (fun r s₁ h₁ => ?_) no)))
  cases r with
  | none => exact wpAny_pure h₁
  | some v =>
    refine wpAny_bind (wpAny_mono h₁ (fun _ s₁' h₁' => ?_) no)
    refine wpAny_bind (wpAny_mono h₁' (fun _ s₂ h₂ => wpAny_bind (wpAny_mono h₂ (fun ok s₃ h₃ => ?_) no)) no)
    cases ok with
    | false => exact wpAny_pure ⟨rfl, h₃⟩
    | true =>
      exact wpAny_bind (wpAny_bind (wpAny_mono h₃ (fun x s₄ h₄ => wpAny_bind (wpAny_mono h₄ (fun _ s₅ h₅ => wpAny_pure (wpAny_pure ⟨rfl, h₅⟩)) no)) no))

/-! ### the context of a comprehension's block -/
/-- C: its own names' dict; Nc: its names (targets first, then those of the def around); s, H: ahead of it; fp: the iterator's records -/
def cxComp (X : Cx) (scope : Scope) (C : Addr) (Nc : List Str) (s : Shared) (H : Hp) (fp : List Addr) : Cx where
  prog := X.prog
  w := X.w
  K := X.K
  mg := X.mg
  base := X.base
  A := X.A
  N := Nc
  s₀ := s
  H₀ := H
  env := compEnvC scope (clOf X.env scope.names []) C X.env
  outer := X.stack
  stack := X.stack
  ex := fp
  fn := fun _ => false
  calm := X.calm
  pn := []
  xe := noE
/-- where the block's names stand in the def around: none for its own -/
def IxOk (X : Cx) (scope : Scope) : List Str → List (Option Nat) → Prop
  | [], [] => True
  | _ :: ys, none :: os => IxOk X scope ys os
  | y :: ys, some j :: os => (X.N[j]? = some y ∧ scope.names.lookup y = some .free ∧ (X.env.kindOf y = some .cell ∨ X.env.kindOf y = some .free)) ∧ IxOk X scope ys os
  | _, _ => False
def subSt (σ : St) (ix : List (Option Nat)) : St := ix.map fun o => match o with | none => none | some j => (σ[j]?).getD none
def Wk : St → St → Prop
  | [], [] => True
  | none :: a, _ :: b => Wk a b
  | some v :: a, w :: b => w = some v ∧ Wk a b
  | _, _ => False
theorem Wk.len : ∀ {a b : St}, Wk a b → a.length = b.length
  | [], [], _ => rfl
  | none :: a, _ :: b, h => congrArg (· + 1) (Wk.len (a := a) (b := b) h)
  | some _ :: a, _ :: b, h => congrArg (· + 1) (Wk.len (a := a) (b := b) h.2)
theorem Wk.get : ∀ {a b : St} {i : Nat} {v : V}, Wk a b → a[i]? = some (some v) → b[i]? = some (some v)
  | [], [], i, v, _, h => by simp at h
  | none :: a, x :: b, 0, v, _, h => by simp at h
  | none :: a, x :: b, i + 1, v, k, h => by
    have := Wk.get (a := a) (b := b) (i := i) (v := v) k (by simpa using h)
    simpa using this
  | some y :: a, x :: b, 0, v, k, h => by
    have e : y = v := by simpa using h
    subst e
    simp [k.1]
  | some y :: a, x :: b, i + 1, v, k, h => by
    have := Wk.get (a := a) (b := b) (i := i) (v := v) k.2 (by simpa using h)
    simpa using this
theorem IxOk.len {X : Cx} {scope : Scope} : ∀ {N : List Str} {ix : List (Option Nat)}, IxOk X scope N ix → ix.length = N.length
  | [], [], _ => rfl
  | _ :: ys, none :: os, h => congrArg (· + 1) (IxOk.len (N := ys) (ix := os) h)
  | _ :: ys, some _ :: os, h => congrArg (· + 1) (IxOk.len (N := ys) (ix := os) h.2)
theorem IxOk.get {X : Cx} {scope : Scope} : ∀ {N : List Str} {ix : List (Option Nat)} {i j : Nat}, IxOk X scope N ix → ix[i]? = some (some j) → ∃ y, N[i]? = some y ∧ X.N[j]? = some y ∧ scope.names.lookup y = some .free ∧ (X.env.kindOf y = some .cell ∨ X.env.kindOf y = some .free)
  | [], [], i, j, _, h => by simp at h
  | y :: ys, none :: os, 0, j, _, h => by simp at h
  | y :: ys, none :: os, i + 1, j, k, h => by
    obtain ⟨z, h1, h2⟩ := IxOk.get (N := ys) (ix := os) (i := i) (j := j) k (by simpa using h)
    exact ⟨z, by simpa using h1, h2⟩
  | y :: ys, some j' :: os, 0, j, k, h => by
    have e : j' = j := by simpa using h
    subst e
    exact ⟨y, by simp, k.1⟩
  | y :: ys, some j' :: os, i + 1, j, k, h => by
    obtain ⟨z, h1, h2⟩ := IxOk.get (N := ys) (ix := os) (i := i) (j := j) k.2 (by simpa using h)
    exact ⟨z, by simpa using h1, h2⟩
theorem subSt_get {σ : St} {ix : List (Option Nat)} {i : Nat} {v : V} (h : (subSt σ ix)[i]? = some (some v)) : ∃ j, ix[i]? = some (some j) ∧ σ[j]? = some (some v) := by
  unfold subSt at h
  rw [List.getElem?_map] at h
  cases e : ix[i]? with
  | none => rw [e] at h; cases h
  | some o =>
    rw [e] at h
    cases o with
    | none => cases h
    | some j =>
      refine ⟨j, rfl, ?_⟩
      have h' : some ((σ[j]?).getD none) = some (some v) := h
      cases q : σ[j]? with
      | none => rw [q] at h'; cases h'
      | some z => rw [q] at h'; cases h'; rfl
end L2
namespace L2
open PySem PySem.Spec PyProof.Rows

theorem comp_start {X : Cx} {pins : List (Addr × Obj)} {σ : St} {H : Hp} {s : Shared} (I : Inv X pins σ H s) {scope : Scope} {Nc : List Str} {ix : List (Option Nat)} (hix : IxOk X scope Nc ix) (hcell : ∀ y ∈ scope.names, y.2 ≠ .cell)
    (hkind : scope.kind = .function) (hfr : ∀ y ∈ scope.names, y.2 = .free → X.env.kindOf y.1 = some .cell ∨ X.env.kindOf y.1 = some .free) {fp : List Addr} (hf : ∀ b ∈ fp, FpOk X pins H b) (hfo : ∀ b ∈ fp, ∃ o, s.heap.get? b = some o)
    {C : Addr} {h' : Heap} {t' : Nat} {m0 : Str → Option Value} (hC : s.heap.objs.size ≤ C) (hns : h'.Ns C m0) (k : ∀ b o, s.heap.get? b = some o → h'.get? b = some o) :
    Inv (cxComp X scope C Nc s H fp) [] (subSt σ ix) H { s with heap := h', toks := t' } := by
  have hfc : ∀ y ∈ scope.names, y.2 = .free → ∃ c, X.env.cells.lookup y.1 = some c := fun y hy e => I.ok.has y.1 (hfr y hy e)
  have from_ : ∀ {x : Str} {c : Addr}, (clOf X.env scope.names []).lookup x = some c → X.env.cells.lookup x = some c := fun {x c} e => clOf_from scope.names [] (fun y d q => by simp at q) e
  refine ⟨⟨I.ok.mod, hkind, I.ok.glob, I.ok.blt, hC, fun x y c h1 h2 => I.ok.inj x y c (from_ h1) (from_ h2), fun x hx => ?_, fun x c h => ?_, I.ok.hd, I.ok.frames, .inl rfl, fun b hb => ?_, I.bs, Nat.le_trans I.ok.bsz I.sz, fun b o e hb => ?_, fun b hb hs => ?_, I.stack, I.stkFree⟩,
    rfl, I.bare, Un.kept k, ⟨m0, hns, fun i x v h1 h2 h3 => ?_⟩, fun x c e => ?_, I.hok.fresh hC, fun x c e => I.freeC x c (from_ e), fun p hp => absurd (show p ∈ ([] : List (Addr × Obj)) from hp) (by simp), I.hok.kept k, ?_⟩
  · have hx' : scope.names.lookup x = some .free := relabel_back hcell hx
    exact clOf_has scope.names [] hfc hx'
  · exact absurd (show false = true from h) (by decide)
  · refine ⟨?_, fun x c e => (hf b hb).2.2.2.2.1 x c (from_ e)⟩
    obtain ⟨o, ho⟩ := hfo b hb
    exact Nat.ne_of_lt (Nat.lt_of_lt_of_le (Heap.lt_size ho) hC)
  · rcases (hf b hb).2.2.2.1 with z | z
    · exact I.ok.noex b o e z
    · exact absurd (Nat.lt_of_lt_of_le (Heap.lt_size e) (Nat.le_trans I.ok.bsz z)) (Nat.lt_irrefl _)
  · rcases List.mem_cons.mp (I.stkSub b hs) with z | z
    · exact (hf b hb).2.1 z
    · exact (hf b hb).2.2.1 z
  · obtain ⟨j, e1, e2⟩ := subSt_get h2
    obtain ⟨y, y1, y2, y3, y4⟩ := hix.get e1
    have h1' : Nc[i]? = some x := h1
    rw [y1] at h1'
    cases h1'
    obtain ⟨m, hn, hl⟩ := I.loc
    have hv : Vis X.env.scope x := by
      rcases y4 with z | z
      · exact .inr (.inl z)
      · exact .inr (.inr z)
    obtain ⟨u, r, l⟩ := hl j x v y2 e2 hv
    refine ⟨u, r, .inr ⟨relabel_free y3, ?_⟩⟩
    rcases l with ⟨l, _⟩ | ⟨_, c, hc, q⟩
    · rcases y4 with z | z
      · rw [z] at l; cases l
      · rw [z] at l; cases l
    · obtain ⟨c', hc'⟩ := clOf_has scope.names [] hfc y3
      have e := from_ hc'
      rw [hc] at e
      cases e
      obtain ⟨o, ho, hd⟩ := q
      exact ⟨c, hc', o, k _ _ ho, hd⟩
  · obtain ⟨v, o, ho, hd⟩ := I.cell x c (from_ e)
    exact ⟨v, o, k _ _ ho, hd⟩
  · show (subSt σ ix).length = Nc.length
    unfold subSt
    rw [List.length_map]
    exact hix.len

theorem comp_exit {X : Cx} {pins pins' : List (Addr × Obj)} {σ σ' : St} {H H' : Hp} {s s' : Shared} (I : Inv X pins σ H s) {scope : Scope} {Nc : List Str} {fp : List Addr} {C D : Addr} (J : Inv (cxComp X scope C Nc s H fp) pins' σ' H' s')
    (hf : ∀ b ∈ fp, FpOk X pins H b) (hD : s.heap.objs.size ≤ D) (hC : s.heap.objs.size ≤ C) (hDC : D ≠ C) {its : List Value} {n : Nat} {acc : List V} (eD : s'.heap.get? D = some { cls := .type "list", data := .seq its.toArray n }) (r : Vals acc its)
    (hz : acc.length ≤ sizeLine) (nD : H' D = none) {oC : Obj} (eC : s'.heap.get? C = some oC) (dC : ∀ v, oC.data ≠ .cell v) : Inv X (pins ++ [(C, oC)]) σ (upd H' D (.lst acc)) s' := by
  have lt : ∀ b o, s.heap.get? b = some o → b ≠ D := fun b o e => Nat.ne_of_lt (Nat.lt_of_lt_of_le (Heap.lt_size e) hD)
  have U : Un (frs X.stack) fp H H' s.heap s'.heap := J.base
  have U' : Un (frs X.stack) fp H (upd H' D (.lst acc)) s.heap s'.heap :=
    ⟨U.keep, U.slot, fun b o e n hx => by rw [upd_ne (lt b o e)]; exact U.free b o e n hx, U.there, fun b xs e => by rw [upd_ne (ne_of_none (U.tups b xs e) nD)]; exact U.tups b xs e,
      fun b o u e => by rw [upd_ne (ne_of_none (U.frzs b o u e) nD)]; exact U.frzs b o u e, fun b ps e => by
        obtain ⟨more, q⟩ := U.tbls b ps e
        exact ⟨more, by rw [upd_ne (ne_of_none q nD)]; exact q⟩⟩
  have hok : HOk X.prog X.w (upd H' D (.lst acc)) s'.heap := fun b u e => by
    by_cases hb : b = D
    · subst hb
      rw [upd_same] at e; cases e
      exact ⟨hz, its, n, r, eD⟩
    · rw [upd_ne hb] at e
      exact (J.hok b u e).stay (fun c v _ q => q) (fun c q => by rw [upd_ne (ne_of_none q nD)]; exact q) fun c xs q => by rw [upd_ne (ne_of_none q nD)]; exact q
  have I' : Inv X pins σ (upd H' D (.lst acc)) s' := I.call' (ch := fp) J.os U' hok J.bare fun b hb => by
    obtain ⟨_, h1, _, h2, h3, h4⟩ := hf b hb
    exact ⟨h2, h1, h3, h4⟩
  refine I'.pins_of fun p hp => ?_
  rcases List.mem_append.mp hp with z | z
  · exact I'.pin p (List.mem_append_right _ z)
  · have e : p = (C, oC) := List.mem_singleton.mp z
    subst e
    refine ⟨eC, ?_, Nat.ne_of_gt (Nat.lt_of_lt_of_le I.lt hC), I.nofs hC, dC⟩
    rw [upd_ne (Ne.symm hDC)]
    exact J.free

/-- the tests of a comprehension -/
def PF (Y : Cx) (ifs : List Expr) (tc : TT) : Prop :=
  ∀ (pins : List (Addr × Obj)) (s : Shared) (σ : St) (H : Hp) (Q : Bool → Hp → Prop), Inv Y pins σ H s → tc σ H Q →
    wpAny (model Y.prog Y.w) Y.A (forIn ifs true fun c r => if r = true then do let ok ← isTrue c Y.env (eval c Y.env); pure (ForInStep.yield ok) else pure (ForInStep.yield r)) (TP Y pins σ Q) Y.xe s
def tYes : TT := fun _ H Q => Q true H
theorem pf_nil {Y : Cx} : PF Y [] tYes := fun _ _ _ H _ I h => wpAny_tests_nil ⟨H, I, h⟩
theorem pf_one {Y : Cx} {c : Expr} {tc : TT} (h : PT Y c tc) : PF Y [c] tc := fun pins s σ H Q I hw => wpAny_tests_one (h pins s σ H Q I hw)

/-- what a comprehension wants: W the invariant by the turn, a measure, what is made so far -/
def CompW (J : It) (σc : St) (g : TG) (tc : TT) (te : TE) (Q : VK) (H1 : Hp) : Prop :=
  ∃ W : Nat → Nat → List V → Hp → Prop, (∃ m, W 0 m [] H1) ∧ ∀ i m acc H, W i m acc H → acc.length < sizeLine ∧
  ((J.stop i H ∧ ∀ D, H D = none → Q (.ref D) (upd H D (.lst acc))) ∨
   (J.go i H ∧ ∀ x H', J.yld i H x H' → g x σc H' fun σ2 H2 => Wk σc σ2 ∧ tc σ2 H2 fun b H3 => if b = true then te σ2 H3 fun v H4 => ∃ m', m' < m ∧ W (i + 1) m' (acc ++ [v]) H4 else ∃ m', m' < m ∧ W (i + 1) m' acc H3))
def tComp (wi : TI) (ix : List (Option Nat)) (g : TG) (tc : TT) (te : TE) : TE := fun σ H Q => wi σ H fun J H1 => CompW J (subSt σ ix) g tc te Q H1

theorem comp_core {X : Cx} {tg iter elt : Expr} {ifs : List Expr} {scope : Scope} {pos : Pos} {wi : TI} {g : TG} {tc : TT} {te : TE} {Nc : List Str} {ix : List (Option Nat)} (hi : PI X tg iter wi) (hcalm : X.calm = true) (hix : IxOk X scope Nc ix)
    (hcell : ∀ y ∈ scope.names, y.2 ≠ .cell) (hkind : scope.kind = .function) (hfr : ∀ y ∈ scope.names, y.2 = .free → X.env.kindOf y.1 = some .cell ∨ X.env.kindOf y.1 = some .free)
    (hG : ∀ C s H fp, PG (cxComp X scope C Nc s H fp) tg g) (hT : ∀ C s H fp, PF (cxComp X scope C Nc s H fp) ifs tc) (hE : ∀ C s H fp, PE (cxComp X scope C Nc s H fp) elt te)
    {pins : List (Addr × Obj)} {s : Shared} {σ : St} {H : Hp} {Q : VK} (I : Inv X pins σ H s) (h : tComp wi ix g tc te σ H Q) {RR : Value → Addr → Result → Shared → Prop}
    (hRR : ∀ (D C : Addr) (oC : Obj) (m : Str → Option Value) (H' : Hp) (s' : Shared), s'.heap.get? C = some oC → s'.heap.Ns C m → FpOk X pins H' C → Inv X (pins ++ [(C, oC)]) σ H' s' → Q (.ref D) H' → RR (.ref D) C (.ok .next) s') :
    wpAny (model X.prog X.w) X.A (eval iter X.env) (fun v s1 => wpAny (model X.prog X.w) X.A (pyIter v) (fun it s2 => wpAny (model X.prog X.w) X.A (newList []) (fun acc s3 =>
      wpAny (model X.prog X.w) X.A (newFunctionEnv scope X.env.globals (clOf X.env scope.names []) [] X.env.qual none .none (some X.env)) (fun cenv s4 =>
        codeAny (model X.prog X.w) X.A (.compStart (.ListComp elt [⟨tg, iter, ifs, 0⟩] scope pos) 0 it acc { cenv with scope := relabel scope X.env }) (RR acc cenv.locals) s4) X.xe s3) X.xe s2) X.xe s1) X.xe s := by
  refine thn (hi pins s σ H _ I h) fun v s1 h1 => thn h1 fun itv s2 h2 => ?_
  obtain ⟨it, fp, tn, J, H2, e, I2, T, st2, f2, W, ⟨m0, w0⟩, turn⟩ := h2
  subst e
  refine wpAny_newObj_type (wpAny_newFunctionEnv hcell (by intro y hy; simp at hy) (fun h₁ hns₁ hsb₁ => ?_) hkind)
  dsimp only at hns₁ hsb₁ ⊢
  generalize hH2 : s2.heap.push { cls := .type "list", dict := none, data := .seq ([] : List Value).toArray } = P2 at hns₁ hsb₁ ⊢
  have hC : P2.objs.size = s2.heap.objs.size + 1 := by rw [← hH2, Heap.size_push]
  have hDC : s2.heap.objs.size ≠ P2.objs.size := by rw [hC]; exact Nat.ne_of_lt (Nat.lt_succ_self _)
  have hCle : s2.heap.objs.size ≤ P2.objs.size := by rw [hC]; exact Nat.le_succ _
  have neC : ∀ b, b < s2.heap.objs.size → b ≠ P2.objs.size := fun b hb => by rw [hC]; exact Nat.ne_of_lt (Nat.lt_succ_of_lt hb)
  have old : ∀ b o, s2.heap.get? b = some o → h₁.get? b = some o := fun b o e => hsb₁.extBut b o (neC b (Heap.lt_size e)) (Heap.get?_push_of_some _ (hH2 ▸ Heap.get?_push_of_some _ e))
  have hacc : h₁.get? s2.heap.objs.size = some { cls := .type "list", data := .seq ([] : List Value).toArray } := hsb₁.extBut _ _ hDC (Heap.get?_push_of_some _ (hH2 ▸ Heap.get?_push_size _ rfl))
  have st₁ : tn 0 h₁ := T.keep 0 _ _ st2 fun b _ o e => old b o e
  have hfo : ∀ b ∈ fp, ∃ o, s2.heap.get? b = some o := fun b hb => let ⟨o, e, _⟩ := T.obj 0 _ st2 b hb; ⟨o, e⟩
  have fpD : ∀ b ∈ fp, s2.heap.objs.size ≠ b := fun b hb => let ⟨o, e⟩ := hfo b hb; Nat.ne_of_gt (Heap.lt_size e)
  have IY := comp_start I2 hix hcell hkind hfr f2 hfo (t' := s2.toks + ([] : List (Str × Value)).length) hCle hns₁ old
  have notS : ∀ b, s2.heap.objs.size ≤ b → b ∉ frs X.stack := fun b hb hs => by
    rcases List.mem_cons.mp (I2.stkSub b hs) with z | z
    · exact absurd (Nat.lt_of_lt_of_le I2.lt hb) (by rw [z]; exact Nat.lt_irrefl _)
    · exact I2.nofs hb z
  have from_ : ∀ {x : Str} {c : Addr}, (clOf X.env scope.names []).lookup x = some c → X.env.cells.lookup x = some c := fun {x c} e => clOf_from scope.names [] (fun y d q => by simp at q) e
  have cellD : ∀ x c, (clOf X.env scope.names []).lookup x = some c → c ≠ s2.heap.objs.size := fun x c e z => by
    obtain ⟨v, q⟩ := I2.cell x c (from_ e)
    exact absurd (q.lt) (by rw [z]; exact Nat.lt_irrefl _)
  have fY : ∀ {pl : List (Addr × Obj)} {H' : Hp}, (∀ p ∈ pl, p.1 = s2.heap.objs.size) → (∀ b ∈ fp, H' b = none) → ∀ b ∈ fp, FpOk (cxComp X scope P2.objs.size Nc s2 H2 fp) pl H' b := fun {pl H'} hpl hn b hb => by
    refine ⟨hn b hb, ?_, ?_, .inl hb, fun x c e => (f2 b hb).2.2.2.2.1 x c (from_ e), fun p hp => ?_⟩
    · obtain ⟨o, e⟩ := hfo b hb
      exact neC b (Heap.lt_size e)
    · intro hs
      rcases List.mem_cons.mp (I2.stkSub b hs) with z | z
      · exact (f2 b hb).2.1 z
      · exact (f2 b hb).2.2.1 z
    · rw [hpl p hp]
      exact fpD b hb
  have loop : ∀ s₃ : Shared, s₃ = { s2 with heap := h₁, toks := s2.toks + ([] : List (Str × Value)).length } →
      codeAny (model X.prog X.w) X.A (.compLoop (.ListComp elt [⟨tg, iter, ifs, 0⟩] scope pos) 0 (.ref it) (.ref s2.heap.objs.size) (compEnvC scope (clOf X.env scope.names []) P2.objs.size X.env)) (RR (.ref s2.heap.objs.size) P2.objs.size) s₃ := by
    rintro s₃ rfl
    refine compLoop_gen (fun n s' => ∃ i acc its nn H', Inv (cxComp X scope P2.objs.size Nc s2 H2 fp) [] (subSt σ ix) H' s' ∧ tn i s'.heap ∧ (∀ b ∈ fp, H' b = none) ∧
      s'.heap.get? s2.heap.objs.size = some { cls := .type "list", data := .seq (its : List Value).toArray nn } ∧ Vals acc its ∧ H' s2.heap.objs.size = none ∧ W i n acc H') ?_ m0
      ⟨0, [], [], 0, H2, IY, st₁, fun b hb => (f2 b hb).1, hacc, .nil, I2.hok.fresh (Nat.le_refl _), w0⟩
    rintro n s3 ⟨i, acc, its, nn, H3, I3, st3, fr3, eD, rv, nD, w3⟩
    obtain ⟨hz, alt⟩ := turn i n acc H3 w3
    have IP : Inv (cxComp X scope P2.objs.size Nc s2 H2 fp) [(s2.heap.objs.size, { cls := .type "list", data := .seq its.toArray nn })] (subSt σ ix) H3 s3 := I3.pins_of fun p hp => by
      have e : p = (s2.heap.objs.size, _) := List.mem_singleton.mp hp
      subst e
      refine ⟨eD, nD, hDC, notS _ (Nat.le_refl _), fun v z => ?_⟩
      have z' : Data.seq its.toArray nn = Data.cell v := z
      cases z'
    have hpl : ∀ p ∈ [(s2.heap.objs.size, ({ cls := .type "list", data := .seq its.toArray nn } : Obj))], p.1 = s2.heap.objs.size := fun p hp => by
      have e : p = (s2.heap.objs.size, _) := List.mem_singleton.mp hp
      rw [e]
    rcases alt with ⟨stop, fin⟩ | ⟨go, step⟩
    · refine thn (T.done (cxComp X scope P2.objs.size Nc s2 H2 fp) rfl rfl rfl hcalm i _ s3 _ H3 noE IP (fY hpl fr3) st3 stop) fun r s4 ⟨hr, I4⟩ => ?_
      subst hr
      obtain ⟨m, hn, _⟩ := id I4.loc
      obtain ⟨oC, es, ep, eC, dC, _⟩ := id hn
      have eD4 := (I4.pin (s2.heap.objs.size, _) (List.mem_append_right _ (List.mem_singleton.mpr rfl))).1
      have fin' := fin _ nD
      refine hRR _ _ oC m _ s4 eC hn ?_ (comp_exit I2 I4 f2 (Nat.le_refl _) hCle hDC eD4 rv (Nat.le_of_lt hz) nD eC fun v z => ?_) fin'
      · refine I2.fpOk hCle ?_
        rw [upd_ne (Ne.symm hDC)]
        exact I4.free
      · rw [dC] at z; cases z
    · refine thn (T.item (cxComp X scope P2.objs.size Nc s2 H2 fp) rfl rfl rfl hcalm i _ s3 _ H3 noE IP (fY hpl fr3) st3 go) fun r s4 ⟨u, hr, h4⟩ => ?_
      subst hr
      refine thn h4 fun _ s5 ⟨x, H5, I5, r5, y5, st5, fr5⟩ => ?_
      have I5' := I5.pinned (fY hpl fr5) (T.obj _ _ st5)
      refine thn (hG _ s2 H2 fp _ s5 _ H5 x u _ I5' r5 (step x H5 y5)) fun _ s6 ⟨σ6, H6, I6, wk, q6⟩ => ?_
      refine thn (hT _ s2 H2 fp _ s6 σ6 H6 _ I6 q6) fun b s7 ⟨H7, I7, q7⟩ => ?_
      have again : ∀ {H9 : Hp} {s9 : Shared} {m' : Nat}, Inv (cxComp X scope P2.objs.size Nc s2 H2 fp) ([(s2.heap.objs.size, ({ cls := .type "list", data := .seq its.toArray nn } : Obj))] ++ pinsAt fp s5.heap) σ6 H9 s9 →
          (s9.heap.get? s2.heap.objs.size = some { cls := .type "list", data := .seq its.toArray nn } ∧ H9 s2.heap.objs.size = none) ∧ tn (i + 1) s9.heap ∧ (∀ b ∈ fp, H9 b = none) ∧ Inv (cxComp X scope P2.objs.size Nc s2 H2 fp) [] (subSt σ ix) H9 s9 := fun {H9 s9 m'} I9 => by
        have pD := I9.pin (s2.heap.objs.size, _) (List.mem_append_right _ (List.mem_append_left _ (List.mem_singleton.mpr rfl)))
        refine ⟨⟨pD.1, pD.2.1⟩, T.keep _ _ _ st5 fun b hb o e => (I9.pin (b, o) (List.mem_append_right _ (List.mem_append_right _ (mem_pinsAt hb e)))).1, fun b hb => ?_, ?_⟩
        · obtain ⟨o, e, d⟩ := T.obj _ _ st5 b hb
          exact (I9.pin (b, o) (List.mem_append_right _ (List.mem_append_right _ (mem_pinsAt hb e)))).2.1
        · exact (I9.weak wk.len fun i v e => wk.get e).pins_of fun p hp => absurd hp (by simp)
      cases b with
      | false =>
        rw [if_neg Bool.false_ne_true] at q7 ⊢
        obtain ⟨m', hm, w7⟩ := q7
        obtain ⟨⟨e7, n7⟩, t7, f7, J7⟩ := again (m' := 0) I7
        exact ⟨m', hm, i + 1, acc, its, nn, H7, J7, t7, f7, e7, rv, n7, w7⟩
      | true =>
        rw [if_pos rfl] at q7 ⊢
        refine thn (hE _ s2 H2 fp _ s7 σ6 H7 _ I7 q7) fun y s8 ⟨v, H8, I8, r8, m', hm, w8⟩ => ?_
        obtain ⟨⟨e8, n8⟩, t8, f8, J8⟩ := again (m' := 0) I8
        refine wpAny_list_append_plain (items := its.toArray) ⟨nn, e8⟩ (fun h9 hl9 hs9 => ?_) (by rw [List.size_toArray, ← rv.length]; exact Nat.le_of_lt hz)
        obtain ⟨n9, e9⟩ := hl9
        refine ⟨m', hm, i + 1, acc ++ [v], its ++ [y], n9, H8, J8.turned (t' := s8.toks) (fun b o hb e => (hs9.2 b hb).trans e) n8 hDC (.inr (Nat.le_refl _)) cellD (fun p hp => absurd hp (by simp [cxComp])), ?_, f8, ?_, rv.append (.cons r8 .nil), n8, w8⟩
        · exact T.keep _ _ _ t8 fun b hb o e => (hs9.2 b (Ne.symm (fpD b hb))).trans e
        · simpa using e9
  exact codeAny_compStart_list (loop _ rfl) (T.self _ 0 _ _ _ st₁ (loop _ rfl))

/-- [elt for tg in iter if ..] -/
theorem pe_comp {X : Cx} {tg iter elt : Expr} {ifs : List Expr} {scope : Scope} {pos : Pos} {wi : TI} {g : TG} {tc : TT} {te : TE} (Nc : List Str) (ix : List (Option Nat)) (hi : PI X tg iter wi) (hcalm : X.calm = true) (hix : IxOk X scope Nc ix)
    (hcell : ∀ y ∈ scope.names, y.2 ≠ .cell) (hkind : scope.kind = .function) (hfr : ∀ y ∈ scope.names, y.2 = .free → X.env.kindOf y.1 = some .cell ∨ X.env.kindOf y.1 = some .free)
    (hnames : ∀ x ∈ scope.names, x.2 = .local → scope.names.lookup x.1 = some .local)
    (hG : ∀ C s H fp, PG (cxComp X scope C Nc s H fp) tg g) (hT : ∀ C s H fp, PF (cxComp X scope C Nc s H fp) ifs tc) (hE : ∀ C s H fp, PE (cxComp X scope C Nc s H fp) elt te)
    (hs : ∀ x, foldedSetIterable iter X.env x = pure x := by intro _; rfl) : PE X (.ListComp elt [⟨tg, iter, ifs, 0⟩] scope pos) (tComp wi ix g tc te) := by
  intro pins s σ H Q I h
  rw [eval_ListComp]
  have hfc : ∀ y ∈ scope.names, y.2 = .free → ∃ c, X.env.cells.lookup y.1 = some c := fun y hy e => I.ok.has y.1 (hfr y hy e)
  refine wpAny_comprehension_free (use := none) rfl hs (closureFor_cl hfc) hkind hnames (comp_core hi hcalm hix hcell hkind hfr hG hT hE I h (RR := fun acc C => compPost (model X.prog X.w) X.A X.xe none (EP X pins σ Q) acc C) ?_)
  intro D C oC m H' s' eC hn fC I' q
  refine ⟨m, hn, fun h' hs' => ⟨.ref D, H', ?_, rfl, q⟩⟩
  exact I'.unpinned.turned (t' := s'.toks) (fun b o hb e => (hs'.2 b hb).trans e) fC.1 fC.2.1 fC.2.2.2.1 fC.2.2.2.2.1 fC.2.2.2.2.2
/-- x = [elt for tg in iter if ..] -/
theorem ps_setC {X : Cx} {i : Nat} {x : Str} {tg iter elt : Expr} {ifs : List Expr} {scope : Scope} {pos spos pos' : Pos} {wi : TI} {g : TG} {tc : TT} {te : TE} (Nc : List Str) (ix : List (Option Nat)) (hN : X.N.Nodup) (hxi : X.N[i]? = some x) (hx : Loc X.env.scope x)
    (hsw : swapsWith (.ListComp elt [⟨tg, iter, ifs, 0⟩] scope pos) (some (.Name x pos')) spos.line X.env = pure true) (hi : PI X tg iter wi) (hcalm : X.calm = true) (hix : IxOk X scope Nc ix)
    (hcell : ∀ y ∈ scope.names, y.2 ≠ .cell) (hkind : scope.kind = .function) (hfr : ∀ y ∈ scope.names, y.2 = .free → X.env.kindOf y.1 = some .cell ∨ X.env.kindOf y.1 = some .free)
    (hnames : ∀ x ∈ scope.names, x.2 = .local → scope.names.lookup x.1 = some .local)
    (hG : ∀ C s H fp, PG (cxComp X scope C Nc s H fp) tg g) (hT : ∀ C s H fp, PF (cxComp X scope C Nc s H fp) ifs tc) (hE : ∀ C s H fp, PE (cxComp X scope C Nc s H fp) elt te)
    (hs : ∀ x, foldedSetIterable iter X.env x = pure x := by intro _; rfl) (hf : X.fn x = true ∨ X.env.scope.names.lookup x = some .local := by first | exact .inl rfl | exact .inr rfl | assumption) :
    PS X (.Assign [.Name x pos'] (.ListComp elt [⟨tg, iter, ifs, 0⟩] scope pos) spos) (tAsg (tComp wi ix g tc te) (gName i)) := by
  intro pins s σ H E I h
  have hfc : ∀ y ∈ scope.names, y.2 = .free → ∃ c, X.env.cells.lookup y.1 = some c := fun y hy e => I.ok.has y.1 (hfr y hy e)
  rw [exec_Assign_Name_used _ _ _ _ hsw]
  refine wpAny_bind (wpAny_standAt (wpAny_bind ?_))
  show wpAny _ X.A (do let _ ← comprehension (.ListComp elt [⟨tg, iter, ifs, 0⟩] scope pos) scope X.env _ (newList []) false (eval iter X.env) (some (assign (.Name x pos') X.env))) _ _ s
  refine wpAny_bind (wpAny_mono (wpAny_comprehension_free (use := some (assign (.Name x pos') X.env)) (Q := fun _ s' => SP X pins E .next s') rfl hs (closureFor_cl hfc) hkind hnames
    (comp_core hi hcalm hix hcell hkind hfr hG hT hE I h (RR := fun acc C => compPost (model X.prog X.w) X.A X.xe (some (assign (.Name x pos') X.env)) (fun _ s' => SP X pins E .next s') acc C) ?_)) (fun _ s' hq => wpAny_pure (wpAny_pure hq)) fun _ _ e => e)
  intro D C oC m H' s' eC hn fC I' q
  show wpAny _ X.A (assign (.Name x pos') X.env (.ref D)) _ _ _
  refine wpAny_assign_Name (store_ok I' hN hxi hx (show RelV (.ref D) _ from rfl) (fun s'' I'' => ?_) hf)
  have pC := I''.pin (C, oC) (List.mem_append_right _ (List.mem_append_right _ (List.mem_singleton.mpr rfl)))
  refine ⟨m, ?_, fun h' hs' => ?_⟩
  · obtain ⟨o, es, ep, e, r⟩ := hn
    rw [eC] at e; cases e
    exact ⟨oC, es, ep, pC.1, r⟩
  · refine ⟨_, H', I''.unpinned.turned (t' := s''.toks) (fun b o hb e => (hs'.2 b hb).trans e) fC.1 fC.2.1 fC.2.2.2.1 fC.2.2.2.2.1 fC.2.2.2.2.2, q⟩
end L2
namespace L2
open PySem PySem.Spec PyProof.Rows
/-! ### texts as lists of codes -/
def S (l : List Nat) : Str := ⟨l.toArray⟩
theorem S_list (l : List Nat) : (S l).cps.toList = l := by simp [S]
theorem S_len (l : List Nat) : (S l).length = l.length := by simp [S, Str.length]
theorem S_size (l : List Nat) : (S l).cps.size = l.length := by simp [S]
theorem S_inj {a b : List Nat} (h : S a = S b) : a = b := by
  have := congrArg (fun x : Str => x.cps.toList) h
  simpa [S] using this
theorem S_app (a b : List Nat) : S a ++ S b = S (a ++ b) := by
  apply Str.ext'
  apply Array.toList_inj.mp
  simp [S, Str.cps_append]
theorem dec_S {a b : List Nat} : decide (V.str (S a) = V.str (S b)) = decide (a = b) := by
  by_cases h : a = b
  · subst h; simp
  · rw [decide_eq_false h, decide_eq_false]
    intro q
    exact h (S_inj (V.str.inj q))
/-- a part of a list by a slice's bounds -/
def cut {α : Type} (xs : List α) (lo hi : Option Int) : List α := (xs.drop (HT.sIx xs.length 0 lo)).take (HT.sIx xs.length xs.length hi - HT.sIx xs.length 0 lo)
theorem clip_sIx (n d : Nat) (v : Int) : max 0 (min (if v < 0 then v + (n : Int) else v) (n : Int)) = ((HT.sIx n d (some v) : Nat) : Int) := by
  show _ = (((if v < 0 then (v + (n : Int)).toNat else min v.toNat n) : Nat) : Int)
  by_cases hv : v < 0
  · simp only [if_pos hv]; omega
  · simp only [if_neg hv]; omega
theorem indices_sIx (lo hi : Option Int) (n : Nat) : Builtin.Str.strSliceIndices lo hi 1 n = (List.range (HT.sIx n n hi - HT.sIx n 0 lo)).map (HT.sIx n 0 lo + ·) := by
  have h1 : (1 : Int) > 0 := by decide
  rw [← sliceRange_one]
  unfold Builtin.Str.strSliceIndices
  simp only [h1, if_true]
  congr 1
  · cases lo with
    | none => rfl
    | some v => exact clip_sIx n 0 v
  · cases hi with
    | none => rfl
    | some v => exact clip_sIx n n v
theorem slice_S (l : List Nat) (lo hi : Option Int) : Txt.slice (S l) lo hi = S (cut l lo hi) := by
  have hx : ((Builtin.Str.strSliceIndices lo hi 1 (S l).length).filterMap ((S l).cps[·]?)) = cut l lo hi := by
    rw [S_len, indices_sIx, pick_run, S_list]
    rfl
  have hlen : (Builtin.Str.strSliceIndices lo hi 1 (S l).length).length = HT.sIx l.length l.length hi - HT.sIx l.length 0 lo := by
    rw [S_len, indices_sIx, List.length_map, List.length_range]
  unfold Txt.slice
  by_cases hc : ((1 : Int) == 1 && (Builtin.Str.strSliceIndices lo hi 1 (S l).length).length == (S l).length) = true
  · rw [if_pos hc]
    rw [hlen, S_len] at hc
    have e : HT.sIx l.length l.length hi - HT.sIx l.length 0 lo = l.length := by simpa using hc
    have h2 := HT.sIx_le l.length l.length (Nat.le_refl _) hi
    have e0 : HT.sIx l.length 0 lo = 0 ∨ l.length = 0 := by omega
    unfold cut
    rw [e]
    rcases e0 with z | z
    · rw [z]; simp
    · have : l = [] := List.eq_nil_of_length_eq_zero z
      subst this
      simp
  · rw [if_neg hc]
    rw [hx]
    rfl

section
variable {X : Cx}
theorem pe_S {x : Str} {j pos} (l : List Nat) (h : x = S l) : PE X (.Constant (.str x) j pos) (tC (.str (S l))) := by
  subst h
  exact pe_str
def rAddS : R2 := fun x y H Q => ∃ a b, x = .str (S a) ∧ y = .str (S b) ∧ a.length + b.length ≤ sizeLine ∧ Q (.str (S (a ++ b))) H
theorem op_addS : OpR X (binaryOp .Add) rAddS := by
  intro pins s σ H x y v u Q I rx ry h
  obtain ⟨a, b, rfl, rfl, hz, q⟩ := h
  exact op_add_str pins s σ H _ _ v u Q I rx ry ⟨S a, S b, rfl, rfl, by rw [S_len, S_len]; exact hz, by rw [S_app]; exact q⟩
def rIxS' : R2 := fun x y H Q => ∃ l i c, x = .str (S l) ∧ y = .int i ∧ l.length ≤ sizeLine ∧ atI l i = some c ∧ Q (.str (S [c])) H
theorem ix_S : IxR X rIxS' := by
  intro value slice pins s σ H x y v u Q I rx ry h hs
  obtain ⟨l, i, c, rfl, rfl, hz, he, q⟩ := h
  exact ix_str value slice pins s σ H _ _ v u Q I rx ry ⟨S l, i, c, rfl, rfl, by rw [S_len]; exact hz, by rw [S_list]; exact he, q⟩ hs
def rSlS : V → Option Int → Option Int → Hp → VK → Prop := fun x lo hi H Q => ∃ l, x = .str (S l) ∧ l.length ≤ sizeLine ∧ Q (.str (S (cut l lo hi))) H
theorem sl_S : SlR X rSlS := by
  intro pins s σ H x v vl vu lo hi sl Q I rx hs pl pu h
  obtain ⟨l, rfl, hz, q⟩ := h
  obtain ⟨t, rfl⟩ := rx
  refine ⟨"str", _, F.slot_str_getitem.lookup, typeIs_str _ _ _, ?_⟩
  have key : ∀ (a b : Option (Int × Tok)), vl = partValue a → vu = partValue b → a.map (·.1) = lo → b.map (·.1) = hi → wpAny (model X.prog X.w) X.A (getItem (.str (S l) t) (.ref sl)) (EP X pins σ Q) X.xe s := by
    rintro a b rfl rfl rfl rfl
    obtain ⟨o, e, c, d⟩ := hs
    refine wpAny_getItem_str_slice (l := a) (u := b) (st := none) ⟨o, e, c, d⟩ rfl (post_val_or_str ⟨?_, fun t' k => ?_⟩)
    · exact Nat.le_trans (Txt.slice_le (S l) _ _) (by rw [S_len]; exact hz)
    · exact ⟨.str (S (cut l _ _)), H, I.tok _, ⟨t', congrArg (fun z => Value.str z t') (slice_S l _ _)⟩, q⟩
  cases pl with
  | none =>
    cases pu with
    | none => exact key none none rfl rfl rfl rfl
    | int i ti => exact key none (some (i, ti)) rfl rfl rfl rfl
  | int i ti =>
    cases pu with
    | none => exact key (some (i, ti)) none rfl rfl rfl rfl
    | int j tj => exact key (some (i, ti)) (some (j, tj)) rfl rfl rfl rfl
theorem call_lenS : CallR X (.builtin "len") (fun xs H Q => ∃ l, xs = [.str (S l)] ∧ l.length ≤ sizeLine ∧ Q (.int l.length) H) := by
  intro pins s σ H xs us Q I r h
  obtain ⟨l, rfl, hz, q⟩ := h
  exact call_len_str pins s σ H _ us Q I r ⟨S l, rfl, by rw [S_len]; exact hz, by rw [S_len]; exact q⟩
/-- list(text) -/
def sgs (l : List Nat) : List V := l.map fun c => V.str (S [c])
theorem vals_signs {l : List Nat} : ∀ {acc : List Value} , acc.length = l.length → (∀ j v, acc[j]? = some v → SignAt (S l) j v) → Vals (sgs l) acc := by
  induction l with
  | nil => intro acc h _; have : acc = [] := List.eq_nil_of_length_eq_zero h; subst this; exact .nil
  | cons c l ih =>
    intro acc h k
    cases acc with
    | nil => cases h
    | cons a acc =>
      refine .cons ?_ (ih (by simpa using h) fun j v e => ?_)
      · obtain ⟨c', u, e1, e2⟩ := k 0 a rfl
        have : c = c' := by simpa [S] using e1
        subst this
        exact ⟨u, e2⟩
      · obtain ⟨c', u, e1, e2⟩ := k (j + 1) v (by simpa using e)
        exact ⟨c', u, by simpa [S] using e1, e2⟩
theorem call_listS (hc : X.calm = true) : CallR X (.type "list") (fun xs H Q => ∃ l, xs = [.str (S l)] ∧ l.length ≤ sizeLine ∧ ∀ p, H p = none → Q (.ref p) (upd H p (.lst (sgs l)))) := by
  intro pins s σ H xs us Q I r h
  obtain ⟨l, rfl, hz, q⟩ := h
  obtain ⟨u, rfl, t, rfl⟩ := vals1 r
  refine call_list_str (I.ok.hd hc) (S l) t (fun h' tk acc' c' hk e hacc => ?_) (by rw [S_size]; exact hz)
  obtain ⟨h1, h2⟩ := hacc
  rw [S_size] at h1
  refine ⟨.ref s.heap.objs.size, _, I.laid (t' := tk) (o := .lst (sgs l)) hk (Nat.le_refl _) ?_, rfl, q _ I.fresh⟩
  exact ⟨by unfold sgs; rw [List.length_map]; exact hz, acc'.toList, c', vals_signs (by simpa using h1) (fun j v e => h2 j v (by simpa using e)), by simpa using e⟩
/-- one sign in a text -/
def rInS : R2 := fun x y H Q => ∃ c l, x = .str (S [c]) ∧ y = .str (S l) ∧ Q (.bl (decide (c ∈ l))) H
theorem op_inS : OpR X (compareOp .In) rInS := by
  intro pins s σ H x y v u Q I rx ry h
  obtain ⟨c, l, rfl, rfl, q⟩ := h
  refine op_in_str pins s σ H _ _ v u Q I rx ry ⟨S [c], S l, rfl, rfl, ?_⟩
  have e := StrLaws.found_one (S l) c
  rw [S_list] at e
  rw [show (S [c]) = (⟨#[c]⟩ : Str) from rfl, e]
  exact q
end
end L2
namespace L2
open PySem PySem.Spec PyProof.Rows
/-! ### the first place of a sign -/
theorem occ_stays (s sub : Str) (hi : Nat) : ∀ (l : List Nat) (st : Array Nat × Nat), 1 ≤ st.fst.size → (forIn l st (StrLaws.occBody s sub hi 1)).run.fst = st.fst
  | [], st, h => rfl
  | a :: l, st, h => by
    rw [List.forIn_cons]
    unfold StrLaws.occBody
    rw [if_neg (fun z => absurd z.1.1.1 (Nat.not_lt.mpr h))]
    exact occ_stays s sub hi l _ h
theorem occ_first (s sub : Str) (hi : Nat) : ∀ (l : List Nat) (free : Nat), (∀ i ∈ l, free ≤ i) →
    (forIn l ((#[] : Array Nat), free) (StrLaws.occBody s sub hi 1)).run.fst.toList = (l.find? fun i => decide (i + sub.length ≤ hi) && Builtin.Str.subAt s sub i).toList
  | [], free, _ => rfl
  | a :: l, free, hf => by
    rw [List.forIn_cons, List.find?_cons]
    unfold StrLaws.occBody
    have ha : free ≤ a := hf a List.mem_cons_self
    by_cases hc : a + sub.length ≤ hi ∧ Builtin.Str.subAt s sub a = true
    · rw [if_pos ⟨⟨⟨by simp, ha⟩, hc.1⟩, hc.2⟩]
      have : (decide (a + sub.length ≤ hi) && Builtin.Str.subAt s sub a) = true := by simp [hc]
      rw [this]
      show (forIn l (#[].push a, a + sub.length) (StrLaws.occBody s sub hi 1)).run.fst.toList = _
      rw [occ_stays s sub hi l _ (by simp)]
      rfl
    · rw [if_neg (fun z => hc ⟨z.1.2, z.2⟩)]
      have : (decide (a + sub.length ≤ hi) && Builtin.Str.subAt s sub a) = false := by
        cases h1 : decide (a + sub.length ≤ hi) with
        | false => rfl
        | true =>
          cases h2 : Builtin.Str.subAt s sub a with
          | false => rfl
          | true => exact absurd ⟨of_decide_eq_true h1, h2⟩ hc
      rw [this]
      exact occ_first s sub hi l free fun i hi' => hf i (List.mem_cons_of_mem _ hi')
theorem subAt_one (l : List Nat) (c i : Nat) : Builtin.Str.subAt (S l) (S [c]) i = (l[i]? == some c) := by
  unfold Builtin.Str.subAt
  rw [S_len]
  show ((S l).cps.extract i (i + 1) == #[c]) = _
  have e : ((S l).cps.extract i (i + 1)) = ((l.drop i).take 1).toArray := by
    apply Array.toList_inj.mp
    simp [S, List.take_drop]
  rw [e]
  by_cases h : i < l.length
  · have e2 : (l.drop i).take 1 = [l[i]] := by
      rw [List.drop_eq_getElem_cons h]; rfl
    rw [e2, List.getElem?_eq_getElem h]
    by_cases hc : l[i] = c
    · rw [hc]; simp
    · have h1 : ([l[i]].toArray == #[c]) = false := by
        rw [beq_eq_false_iff_ne]
        intro z
        apply hc
        have := congrArg Array.toList z
        simpa using this
      have h2 : (some l[i] == some c) = false := by simpa using hc
      rw [h1, h2]
  · have e2 : (l.drop i).take 1 = [] := by rw [List.drop_eq_nil_of_le (by omega)]; rfl
    rw [e2, List.getElem?_eq_none (by omega)]
    rfl
theorem find_idx (l : List Nat) (c : Nat) : ∀ (k n : Nat), k + n = l.length + 1 → ((List.range' k n).find? fun i => decide (i + 1 ≤ l.length) && (l[i]? == some c)) = if c ∈ l.drop k then some (k + (l.drop k).idxOf c) else none
  | k, 0, h => by
    have : l.drop k = [] := List.drop_eq_nil_of_le (by omega)
    rw [this]; simp
  | k, n + 1, h => by
    rw [List.range'_succ, List.find?_cons]
    by_cases hk : k < l.length
    · have e : l.drop k = l[k] :: l.drop (k + 1) := List.drop_eq_getElem_cons hk
      rw [List.getElem?_eq_getElem hk, e]
      by_cases hc : l[k] = c
      · have : (decide (k + 1 ≤ l.length) && (some l[k] == some c)) = true := by simp [hc]; omega
        rw [this, if_pos (by simp [hc])]
        simp [hc]
      · have : (decide (k + 1 ≤ l.length) && (some l[k] == some c)) = false := by simp [hc]
        rw [this, find_idx l c (k + 1) n (by omega)]
        have hc' : ¬ c = l[k] := fun z => hc z.symm
        by_cases hm : c ∈ l.drop (k + 1)
        · rw [if_pos hm, if_pos (List.mem_cons_of_mem _ hm), List.idxOf_cons]
          have : (l[k] == c) = false := by simpa using hc
          rw [this]
          show some (k + 1 + List.idxOf c (List.drop (k + 1) l)) = some (k + (List.idxOf c (List.drop (k + 1) l) + 1))
          congr 1
          omega
        · rw [if_neg hm, if_neg (by intro z; rcases List.mem_cons.mp z with z | z; exact hc' z; exact hm z)]
    · have : l.drop k = [] := List.drop_eq_nil_of_le (by omega)
      have e1 : (decide (k + 1 ≤ l.length) && (l[k]? == some c)) = false := by
        rw [decide_eq_false (by omega)]; rfl
      have e2 : l.drop (k + 1) = [] := List.drop_eq_nil_of_le (by omega)
      rw [e1, find_idx l c (k + 1) n (by omega), this, e2]
      simp
theorem occ_S (l : List Nat) (c : Nat) : Builtin.Str.occurrences (S l) (S [c]) 0 (S l).length 1 = if c ∈ l then [l.idxOf c] else [] := by
  rw [StrLaws.occ_eq, occ_first _ _ _ _ 0 fun _ _ => Nat.zero_le _]
  have e : (fun i => decide (i + (S [c]).length ≤ (S l).length) && Builtin.Str.subAt (S l) (S [c]) i) = fun i => decide (i + 1 ≤ l.length) && (l[i]? == some c) := by
    funext i
    rw [subAt_one, S_len, S_len]
    rfl
  rw [e, S_len, Nat.sub_zero, find_idx l c 0 (l.length + 1) (by omega), List.drop_zero]
  by_cases h : c ∈ l
  · rw [if_pos h, if_pos h, Nat.zero_add]; rfl
  · rw [if_neg h, if_neg h]; rfl

section
variable {X : Cx}
def rIndexS : V → List V → Hp → VK → Prop := fun x vs H Q => ∃ l c, x = .str (S l) ∧ vs = [.str (S [c])] ∧ c ∈ l ∧ Q (.int (l.idxOf c : Nat)) H
theorem mt_indexS : MtR X "str.index" rIndexS := by
  intro pins s σ H x xs v us Q I rx rv h
  obtain ⟨l, c, rfl, rfl, hc, q⟩ := h
  obtain ⟨t, rfl⟩ := rx
  obtain ⟨u, rfl, t', rfl⟩ := vals1 rv
  exact SC.index (i := l.idxOf c) (rest := []) (by rw [occ_S, if_pos hc]) ⟨.int (l.idxOf c : Nat), H, I.tok _, ⟨_, rfl⟩, q⟩
def rFindS : V → List V → Hp → VK → Prop := fun x vs H Q => ∃ l c, x = .str (S l) ∧ vs = [.str (S [c])] ∧ Q (.int (if c ∈ l then (l.idxOf c : Nat) else -1)) H
theorem mt_findS : MtR X "str.find" rFindS := by
  intro pins s σ H x xs v us Q I rx rv h
  obtain ⟨l, c, rfl, rfl, q⟩ := h
  obtain ⟨t, rfl⟩ := rx
  obtain ⟨u, rfl, t', rfl⟩ := vals1 rv
  refine SC.find ⟨.int _, H, I.tok _, ⟨_, rfl⟩, ?_⟩
  have e : Txt.find (S l) (S [c]) = (if c ∈ l then ((l.idxOf c : Nat) : Int) else -1) := by
    unfold Txt.find
    rw [occ_S]
    by_cases h : c ∈ l
    · rw [if_pos h, if_pos h]
    · rw [if_neg h, if_neg h]
  rw [e]
  exact q
/-- one ASCII sign: islower, isupper, upper, lower -/
def rLowS (f : Nat → Bool) : V → List V → Hp → VK → Prop := fun x vs H Q => ∃ c, x = .str (S [c]) ∧ vs = [] ∧ c < 128 ∧ Q (.bl (f c)) H
def rUpS (f : Nat → Nat) : V → List V → Hp → VK → Prop := fun x vs H Q => ∃ c, x = .str (S [c]) ∧ vs = [] ∧ c < 128 ∧ Q (.str (S [f c])) H
def isLow (c : Nat) : Bool := decide (97 ≤ c) && decide (c ≤ 122)
theorem low_all : ∀ c, c < 128 → Txt.islower ⟨#[c]⟩ = isLow c := by decide +kernel
theorem mt_islower : MtR X "str.islower" (rLowS isLow) := by
  intro pins s σ H x xs v us Q I rx rv h
  obtain ⟨c, rfl, rfl, hc, q⟩ := h
  obtain ⟨t, rfl⟩ := rx
  have e : us = [] := by cases rv; rfl
  subst e
  exact SC.islower ⟨.bl (isLow c), H, I, congrArg Value.bool (low_all c hc), q⟩
theorem upper_one {c : Nat} (hc : c < 128) : Txt.upper (S [c]) = S [up1 c] := by
  rw [upper_ascii (by intro d hd; rw [S_list] at hd; simp at hd; omega)]
  simp [S]
theorem lower_one {c : Nat} (hc : c < 128) : Txt.lower (S [c]) = S [lo1 c] := by
  rw [lower_ascii (by intro d hd; rw [S_list] at hd; simp at hd; omega)]
  simp [S]
theorem fits1 (c : Nat) : Builtin.Str.tooLong (S [c]).length = false := by
  rw [S_len]
  show Builtin.Str.tooLong 1 = false
  decide
theorem mt_upper : MtR X "str.upper" (rUpS up1) := by
  intro pins s σ H x xs v us Q I rx rv h
  obtain ⟨c, rfl, rfl, hc, q⟩ := h
  obtain ⟨t, rfl⟩ := rx
  have e : us = [] := by cases rv; rfl
  subst e
  exact SC.upper (by rw [upper_one hc]; exact fits1 _) ⟨.str (S [up1 c]), H, I.tok _, ⟨_, congrArg (fun z => Value.str z _) (upper_one hc)⟩, q⟩
theorem mt_lower : MtR X "str.lower" (rUpS lo1) := by
  intro pins s σ H x xs v us Q I rx rv h
  obtain ⟨c, rfl, rfl, hc, q⟩ := h
  obtain ⟨t, rfl⟩ := rx
  have e : us = [] := by cases rv; rfl
  subst e
  exact SC.lower (by rw [lower_one hc]; exact fits1 _) ⟨.str (S [lo1 c]), H, I.tok _, ⟨_, congrArg (fun z => Value.str z _) (lower_one hc)⟩, q⟩
/-! ### ''.join(list of texts) -/
theorem glue_S : ∀ (ls : List (List Nat)) (a : Array Nat), (ls.map S).foldl (fun acc p => acc ++ (S []).cps ++ p.cps) a = a ++ ls.flatten.toArray
  | [], a => by simp
  | l :: ls, a => by
    rw [List.map_cons, List.foldl_cons, glue_S ls]
    simp [S]
theorem join_S (ls : List (List Nat)) : Txt.join (S []) (ls.map S) = S ls.flatten := by
  unfold Txt.join Builtin.Str.glued
  cases ls with
  | nil => rfl
  | cons l ls =>
    show Str.mk ((List.map S ls).foldl (fun acc p => acc ++ (S []).cps ++ p.cps) (S l).cps) = _
    rw [glue_S]
    simp [S]
theorem strsAre_of : ∀ {ls : List (List Nat)} {us : List Value}, Vals (ls.map fun l => V.str (S l)) us → StrsAre us (ls.map S)
  | [], us, r => by cases r; exact .nil
  | l :: ls, us, r => by
    cases r with
    | cons r1 r2 =>
      obtain ⟨t, rfl⟩ := r1
      exact .cons _ t (strsAre_of r2)
def rJoinS (K : PySem.W.Frag) : V → List V → Hp → VK → Prop := fun x vs H Q => ∃ (p : Addr) (ls : List (List Nat)), x = .str (S []) ∧ vs = [.ref p] ∧ SqL K H p (ls.map fun l => V.str (S l)) ∧ (ls.map List.length).sum ≤ 16777216 ∧ Q (.str (S ls.flatten)) H
theorem mt_joinS : MtR X "str.join" (rJoinS X.K) := by
  intro pins s σ H x xs v us Q I rx rv h
  obtain ⟨p, ls, rfl, rfl, hq, hz, q⟩ := h
  obtain ⟨t, rfl⟩ := rx
  obtain ⟨u, rfl, ru⟩ := vals1 rv
  cases ru
  obtain ⟨its, r, pl, _⟩ := I.list hq
  have e : (S []).length = 0 := rfl
  refine join_list pl.isList (by simpa using strsAre_of r) ?_ fun t' k => ?_
  · rw [e, Nat.mul_zero, Nat.add_zero, List.map_map]
    have e2 : (Str.length ∘ S) = List.length := by funext l; exact S_len l
    have e3 : ((fun x : Str => x.length) ∘ S) = List.length := by funext l; exact S_len l
    first | (rw [e2]; exact hz) | (rw [e3]; exact hz)
  · exact ⟨.str (S ls.flatten), H, I.tok _, ⟨t', congrArg (fun z => Value.str z t') (join_S ls)⟩, q⟩
/-! ### isinstance(x, str) -/
/-! ### all(list of truths) -/
theorem call_allB (hc : X.calm = true) : CallR X (.builtin "all") (fun xs H Q => ∃ (p : Addr) (bs : List Bool), xs = [.ref p] ∧ SqL X.K H p (bs.map V.bl) ∧ Q (.bl (bs.all id)) H) := by
  intro pins s σ H xs us Q I r h
  obtain ⟨p, bs, rfl, hq, q⟩ := h
  obtain ⟨u, rfl, ru⟩ := vals1 r
  cases ru
  obtain ⟨its, rv, pl, hz⟩ := I.list hq
  have hlen : its.length = bs.length := by rw [← rv.length, List.length_map]
  have hp : p < s.heap.objs.size := by
    obtain ⟨o, n, e, _⟩ := pl
    exact Heap.lt_size e
  refine call_all_walk (wpAny_pyIter_list pl.isList ?_)
  refine ⟨s.heap.objs.size, _, _, _, _, _, fun i => (bs[i]?).getD true, rfl, Walks.list (A := X.A.in1) (I.ok.hd hc) s.heap.objs.size p (Nat.ne_of_lt hp) its.toArray, ⟨⟨_, Heap.get?_push_size _ rfl, rfl, rfl⟩, ?_⟩, fun i v s' Q' E' hP hQ => ?_, fun h' tk hk => ?_⟩
  · obtain ⟨o, ho, hr⟩ := pl.isList
    exact ⟨o, Heap.get?_push_of_some _ ho, hr⟩
  · have hP' : its[i]? = some v := by simpa using hP
    have hi : i < bs.length := by rw [← hlen]; exact (List.getElem?_eq_some_iff.mp hP').1
    have hb : (bs.map V.bl)[i]? = some (V.bl bs[i]) := by rw [List.getElem?_map, List.getElem?_eq_getElem hi]; rfl
    obtain ⟨u, hu, ru⟩ := rv.get hb
    rw [hP'] at hu; cases hu
    cases (show v = Value.bool bs[i] from ru)
    have e : (bs[i]?).getD true = bs[i] := by rw [List.getElem?_eq_getElem hi]; rfl
    have hQ' : Q' ((bs[i]?).getD true) s' := hQ
    rw [e] at hQ'
    exact wpAny_pure hQ'
  · have e : ((List.range its.toArray.size).all fun i => (bs[i]?).getD true) = bs.all id := by
      rw [List.size_toArray, hlen]
      clear hq rv hlen q
      rw [Bool.eq_iff_iff, List.all_eq_true, List.all_eq_true]
      constructor
      · intro h b hb
        obtain ⟨i, hi, e⟩ := List.getElem_of_mem hb
        have := h i (List.mem_range.mpr hi)
        rw [List.getElem?_eq_getElem hi, e] at this
        exact this
      · intro h i hi
        have hi' := List.mem_range.mp hi
        rw [List.getElem?_eq_getElem hi']
        exact h _ (List.getElem_mem hi')
    have I1 : Inv X pins σ H { s with heap := h', toks := tk } := by
      have I0 : Inv X pins σ H { s with heap := s.heap.push { cls := .type "list_iterator", data := .fields #[.ref p, .int 0 0] } } := I.kept (t' := s.toks) fun b o e => Heap.get?_push_of_some _ e
      have f := I.fpOk (H' := H) (b := s.heap.objs.size) (Nat.le_refl _) I.fresh
      have J := I0.turned (h' := h') (t' := tk) (it := s.heap.objs.size) (fun b o hb e => hk b o (by simpa using hb) e) f.1 f.2.1 f.2.2.2.1 f.2.2.2.2.1 f.2.2.2.2.2
      exact J
    exact ⟨.bl (bs.all id), H, I1, by rw [e]; rfl, q⟩
end
end L2
namespace L2.F2
open PySem PySem.Spec PyProof.Rows
theorem owner_rev : Manifest.owners.lookup (String.ofList ['d', 'e', 's', 'r', 'e', 'v', 'e', 'r'].reverse) = some Manifest.sig_reversed := by kernel_rfl
theorem slot_rev_next : Slot "reversed" "__next__" "reversed.__next__" :=
  .of (owner := "reversed") (n := "__next__") (by rw [typeLookup_type, builtinLookup_eq_fast]; kernel_rfl) (by decide +kernel) (by decide +kernel) (by decide +kernel)
    (by first | exact .inl (by decide +kernel) | exact .inr (by decide +kernel)) (by rw [isSubtype_type]; kernel_rfl)
theorem entry_rev_next : entryFor table "reversed.__next__" = some Builtin.«reversed.__next__» := entryFor_of_tree (by kernel_rfl)
theorem args_rev_next_1 (a : Value) : argsOk "reversed.__next__" ⟨[a], []⟩ := by
  unfold argsOk; rw [signature?_of (id := "reversed.__next__") (n := ['_', '_', 't', 'x', 'e', 'n', '_', '_']) (o := ['d', 'e', 's', 'r', 'e', 'v', 'e', 'r']) (by kernel_rfl) owner_rev]; kernel_rfl
theorem slot_rev_iter : Slot "reversed" "__iter__" "reversed.__iter__" :=
  .of (owner := "reversed") (n := "__iter__") (by rw [typeLookup_type, builtinLookup_eq_fast]; kernel_rfl) (by decide +kernel) (by decide +kernel) (by decide +kernel)
    (by first | exact .inl (by decide +kernel) | exact .inr (by decide +kernel)) (by rw [isSubtype_type]; kernel_rfl)
theorem args_rev_iter_1 (a : Value) : argsOk "reversed.__iter__" ⟨[a], []⟩ := by
  unfold argsOk; rw [signature?_of (id := "reversed.__iter__") (n := ['_', '_', 'r', 'e', 't', 'i', '_', '_']) (o := ['d', 'e', 's', 'r', 'e', 'v', 'e', 'r']) (by kernel_rfl) owner_rev]; kernel_rfl
theorem entry_rev_iter : entryFor table "reversed.__iter__" = some Builtin.«dict_keyiterator.__iter__» :=
  entryFor_alias (id' := "dict_keyiterator.__iter__") (by kernel_rfl) (by first | rfl | decide +kernel | (unfold String.splitOn; simp +decide [String.splitOnAux])) (by decide +kernel) (by kernel_rfl)
theorem slot_rev_init : Slot "reversed" "__init__" "object.__init__" :=
  .of (owner := "object") (n := "__init__") (by rw [typeLookup_type, builtinLookup_eq_fast]; kernel_rfl) (by decide +kernel) (by decide +kernel) (by decide +kernel)
    (by first | exact .inl (by decide +kernel) | exact .inr (by decide +kernel)) (by rw [isSubtype_type]; kernel_rfl)
theorem called_rev : TypeCalled "reversed" "reversed.__new__" "object.__init__" :=
  ⟨by decide +kernel, by decide +kernel, ⟨_, _, F.mro_reversed⟩, F.made_reversed, by decide +kernel, by rw [isSubtype_type]; kernel_rfl, slot_rev_init⟩
theorem str_no_rev : typeLookup (.type "str") "__reversed__" = pure none := by rw [typeLookup_type, builtinLookup_eq_fast]; kernel_rfl
end L2.F2
namespace L2
open PySem PySem.Spec PyProof.Rows
theorem meets_rev_newS (x : Str) (t : Tok) (hz : x.length ≤ sizeLine) : Meets (Builtin.«reversed.__new__» ⟨[.type "reversed", .str x t], []⟩) (fun _ R s => ∀ tk, R (.ok (.ret (.ref s.heap.objs.size))) { s with heap := s.heap.push { cls := .type "reversed", data := .fields #[.str x t, rawInt ((x.length : Int) - 1)] }, toks := tk }) := by
  refine Meets.of_wp fun prog w A R s h => ?_
  unfold Builtin.«reversed.__new__»
  refine wpAny_bind (wpAny_of_eq (newClass_reversed _) ?_)
  try dsimp only
  refine wpAny_bind (wpAny_of_eq (a := ()) (by first | rfl | kernel_rfl) ?_)
  refine wpAny_bind (wpAny_of_eq (a := ()) (by first | rfl | kernel_rfl) ?_)
  try dsimp only
  refine wpAny_bind (wpAny_specialOf (typeIs_str s x t) F2.str_no_rev ?_)
  try dsimp only
  refine wpAny_bind (wpAny_of_eq (a := true) (by first | rfl | kernel_rfl) ?_)
  rw [if_neg (by decide)]
  have hn := line63
  refine wpAny_bind (len_str (by omega) ?_)
  refine wpAny_bind (wpAny_of_eq (a := some (x.length : Int)) (by first | rfl | kernel_rfl) ?_)
  show wpAny _ _ (Builtin.SmallTypes.newRecord (Value.type "reversed") [Value.str x t, rawInt ((x.length : Int) - 1)] >>= _) _ _ _
  refine wpAny_bind ?_
  unfold Builtin.SmallTypes.newRecord
  refine wpAny_newObj_type ?_ (by size_fits)
  exact wpAny_pure ⟨_, rfl, h _⟩
section
variable {prog : Program} {w : World} {A : Around} {E : Value → Shared → Prop} {s : Shared}
theorem call_reversedS {x : Str} {t : Tok} {Q : Value → Shared → Prop} (hz : x.length ≤ sizeLine) (h : ∀ tk, Q (.ref s.heap.objs.size) { s with heap := s.heap.push { cls := .type "reversed", data := .fields #[.str x t, rawInt ((x.length : Int) - 1)] }, toks := tk }) :
    wpAny (model prog w) A (call (.type "reversed") [.str x t]) Q E s :=
  callType_new F2.called_rev (by decide +kernel) (F.typeCall_reversed_1 _) (F.newCall_reversed_1 _) (fun obj => by unfold argsOk; kernel_rfl) F.entry_reversed_new (meets_rev_newS x t hz)
    fun tk => ⟨⟨_, Heap.get?_push_size _ rfl, rfl⟩, h tk⟩
/-- the iterator at it: i is the next place -/
def IsRevS (h : Heap) (it : Addr) (x : Str) (t : Tok) (i : Int) : Prop := ∃ o, h.get? it = some o ∧ o.cls = .type "reversed" ∧ o.data = .fields #[.str x t, rawInt i]
theorem IsRevS.typeIs {it : Addr} {x : Str} {t : Tok} {i : Int} (h : IsRevS s.heap it x t i) : s.TypeIs (.ref it) "reversed" := let ⟨o, ho, hc, _⟩ := h; ⟨o, ho, hc⟩
theorem pyIter_rev {it : Addr} {x : Str} {t : Tok} {i : Int} {Q : Value → Shared → Prop} (hit : IsRevS s.heap it x t i) (h : Q (.ref it) s) : wpAny (model prog w) A (pyIter (.ref it)) Q E s := by
  refine wpAny_pyIter_slot hit.typeIs F2.slot_rev_iter (wpAny_call_entry F2.slot_rev_iter hit.typeIs F2.entry_rev_iter ?_ (F2.args_rev_iter_1 _))
  show wpAny _ _ (ret (.ref it)) _ _ s
  exact wpAny_pure ⟨_, rfl, "reversed", _, hit.typeIs, F2.slot_rev_next.lookup, h⟩
theorem pyNext_rev_item {it : Addr} {x : Str} {t : Tok} {i c : Nat} {Q : Option Value → Shared → Prop} (hit : IsRevS s.heap it x t (i : Int)) (hx : x.cps[i]? = some c) (hz : x.length ≤ sizeLine)
    (hQ : ∀ h' tk u, IsRevS h' it x t ((i : Int) - 1) → Heap.SameBut it s.heap h' → Q (some (.str ⟨#[c]⟩ u)) { s with heap := h', toks := tk }) : wpAny (model prog w) A (pyNext (.ref it)) Q E s := by
  obtain ⟨o, ho, hc, hd⟩ := id hit
  have hn := line63
  have hi : i < x.length := (Array.getElem?_eq_some_iff.mp hx).1
  unfold pyNext
  refine wpAny_bind (wpAny_attempt (wpAny_callSpecial?_slot (name := Str.ofString "__next__") hit.typeIs F2.slot_rev_next
    (wpAny_call_entry F2.slot_rev_next hit.typeIs F2.entry_rev_next ?_ (F2.args_rev_next_1 _))))
  unfold Builtin.«reversed.__next__»
  refine wpAny_bind (wpAny_of_eq (a := (Value.ref it, [])) rfl ?_)
  try dsimp only
  refine wpAny_bind (wpAny_field ho hd (x := .str x t) rfl ?_)
  refine wpAny_bind (wpAny_field ho hd (x := rawInt (i : Int)) rfl ?_)
  show wpAny _ _ (if (i : Int) < 0 then _ else _) _ _ s
  rw [if_neg (by omega)]
  refine wpAny_bind (wpAny_specialOf (typeIs_str s x t) F.slot_str_getitem.lookup ?_)
  show wpAny _ _ (if (some (Value.builtin _)).isNone = true then _ else _) _ _ s
  rw [if_neg (by decide)]
  refine wpAny_bind (wpAny_mkInt ?_)
  refine wpAny_bind (wpAny_attempt (getItem_str (c := c) (by
    have e1 : decide ((i : Int) < -(2 ^ 63 : Int)) = false := decide_eq_false (by omega)
    have e2 : decide ((i : Int) ≥ 2 ^ 63) = false := decide_eq_false (by omega)
    rw [e1, e2, Bool.or_false]) (by rw [seqIndex_of (by omega) (by omega), Int.toNat_natCast]; exact hx) ?_))
  show wpAny _ _ (field (Value.ref it) 1 >>= _) _ _ _
  refine wpAny_bind (wpAny_field ho hd (x := rawInt (i : Int)) rfl ?_)
  show wpAny _ _ (setField (Value.ref it) 1 (rawInt ((i : Int) - 1)) >>= _) _ _ _
  refine wpAny_bind (wpAny_setField ho hd (by simp) ?_)
  refine wpAny_pure ⟨_, rfl, wpAny_pure (hQ _ _ _ ?_ (Heap.SameBut.update ..))⟩
  exact ⟨_, Heap.get?_update_self _ ho (Obj.isFreed_of_fields (Obj.data_mapFields hd _)), (Obj.cls_mapFields ..).trans hc, by
    rw [Obj.data_mapFields hd]; simp⟩
theorem pyNext_rev_end {it : Addr} {x : Str} {t : Tok} {Q : Option Value → Shared → Prop} (hh : A.handled = none) (hit : IsRevS s.heap it x t (-1))
    (hQ : ∀ h', Heap.ExtBut it s.heap h' → Q none { s with heap := h' }) : wpAny (model prog w) A (pyNext (.ref it)) Q E s := by
  obtain ⟨o, ho, hc, hd⟩ := id hit
  unfold pyNext
  refine wpAny_bind (wpAny_attempt (wpAny_callSpecial?_slot (name := Str.ofString "__next__") hit.typeIs F2.slot_rev_next
    (wpAny_call_entry F2.slot_rev_next hit.typeIs F2.entry_rev_next ?_ (F2.args_rev_next_1 _))))
  unfold Builtin.«reversed.__next__»
  refine wpAny_bind (wpAny_of_eq (a := (Value.ref it, [])) rfl ?_)
  try dsimp only
  refine wpAny_bind (wpAny_field ho hd (x := .str x t) rfl ?_)
  refine wpAny_bind (wpAny_field ho hd (x := rawInt (-1)) rfl ?_)
  show wpAny _ _ (if (-1 : Int) < 0 then _ else _) _ _ s
  rw [if_pos (by decide)]
  refine wpAny_bind (wpAny_rule ?_)
  refine wpAny_bind ?_
  show wpAny _ _ (setField (Value.ref it) 1 (rawInt (-1)) >>= fun _ => setField (Value.ref it) 0 .none) _ _ _
  refine wpAny_bind (wpAny_setField ho hd (by simp) ?_)
  refine wpAny_setField (Heap.get?_update_self _ ho (Obj.isFreed_of_fields (Obj.data_mapFields hd _))) (Obj.data_mapFields hd _) (by simp) ?_
  first
  | show wpAny _ _ (newExc (.type "StopIteration") [] >>= _) _ _ _
  | (refine wpAny_bind ?_; show wpAny _ _ (newExc (.type "StopIteration") [] >>= _) _ _ _)
  refine wpAny_bind ?_
  simp only [newExc, newTuple]
  refine wpAny_bind (wpAny_newObj_type ?_ (by size_fits))
  refine wpAny_bind (m := firstArgMember _ _) (wpAny_of_eq (a := Value.none) (by first | rfl | (simp only [firstArgMember]; rfl)) ?_)
  refine wpAny_newObj_type ?_ (by size_fits)
  simp only [raiseNew]
  refine wpAny_bind (wpAny_handled ?_)
  first | rw [show A.in1.handled = none from hh] | rw [hh]
  refine wpAny_bind (wpAny_pure (wpAny_throw ?_))
  refine wpAny_bind (wpAny_isInstance (T := "StopIteration") (b := true) ⟨_, Heap.get?_push_size _ rfl, rfl⟩ isSubtype_stop ?_)
  refine wpAny_pure (hQ _ fun b ob hb e => ?_)
  refine Heap.get?_push_of_some _ (Heap.get?_push_of_some _ ?_)
  exact (Heap.get?_update_other _ _ (Ne.symm hb)).trans ((Heap.get?_update_other _ _ (Ne.symm hb)).trans e)
end
/-! ### fixed items -/
def Itx (xs : List V) : It := ⟨fun i _ => i < xs.length, fun i H x H' => H' = H ∧ xs[i]? = some x, fun i _ => xs.length ≤ i⟩
theorem sgs_get {l : List Nat} {i : Nat} {x : V} (h : (sgs l)[i]? = some x) : ∃ c, l[i]? = some c ∧ x = .str (S [c]) := by
  unfold sgs at h
  rw [List.getElem?_map] at h
  cases e : l[i]? with
  | none => rw [e] at h; cases h
  | some c => rw [e] at h; cases h; exact ⟨c, rfl, rfl⟩
theorem sgs_len (l : List Nat) : (sgs l).length = l.length := by unfold sgs; rw [List.length_map]
theorem turn_rev {P : Program} {w : World} {K : PySem.W.Frag} {tg : Expr} (it : Addr) (l : List Nat) (t : Tok) (hz : l.length ≤ sizeLine) : Turn P w K tg (Itx (sgs l).reverse) [it] it (fun i h => i ≤ l.length ∧ IsRevS h it (S l) t ((l.length : Int) - 1 - (i : Int))) where
  mem := by simp
  obj := fun i h st b hb => by
    have e : b = it := by simpa using hb
    subst e
    obtain ⟨_, o, e, c, d⟩ := st
    exact ⟨o, e, fun v z => by rw [d] at z; cases z⟩
  keep := fun i h h' st k => let ⟨q, o, e, r⟩ := st; ⟨q, o, k it (by simp) o e, r⟩
  item := by
    intro X hP hw hK hc i pins s σ H E I hf st hg
    subst hP hw hK
    have hg' : i < l.length := by have : i < (sgs l).reverse.length := hg; rwa [List.length_reverse, sgs_len] at this
    obtain ⟨f0, f1, f2, f3, f4, f5⟩ := hf it (by simp)
    obtain ⟨_, st⟩ := st
    have e : (l.length : Int) - 1 - (i : Int) = ((l.length - 1 - i : Nat) : Int) := by omega
    rw [e] at st
    have hlt : l.length - 1 - i < l.length := by omega
    refine pyNext_rev_item (c := l[l.length - 1 - i]) st (by simp [S, hlt]) (by rw [S_len]; exact hz) fun h' tk u st' sb => ?_
    have I1 : Inv X pins σ H { s with heap := h', toks := tk } := I.turned (fun b o hb e => (sb.2 b hb).trans e) f0 f1 f3 f4 f5
    obtain ⟨o, e1, cc, d⟩ := id st'
    refine ⟨_, rfl, go_of (s := { s with heap := h', toks := tk }) e1 cc d (by decide) ⟨.str (S [l[l.length - 1 - i]]), H, I1, ⟨u, rfl⟩, ⟨rfl, ?_⟩, ⟨hg', ?_⟩, fun b hb => (hf b hb).1⟩⟩
    · rw [List.getElem?_reverse (by rw [sgs_len]; exact hg'), sgs_len]
      unfold sgs
      rw [List.getElem?_map, List.getElem?_eq_getElem hlt]
      rfl
    · have e2 : (l.length : Int) - 1 - ((i + 1 : Nat) : Int) = ((l.length - 1 - i : Nat) : Int) - 1 := by omega
      rw [e2]
      exact st'
  done := by
    intro X hP hw hK hc i pins s σ H E I hf st hg
    subst hP hw hK
    obtain ⟨f0, f1, f2, f3, f4, f5⟩ := hf it (by simp)
    have hg' : l.length ≤ i := by have : (sgs l).reverse.length ≤ i := hg; rwa [List.length_reverse, sgs_len] at this
    obtain ⟨hi, st⟩ := st
    have e : (l.length : Int) - 1 - (i : Int) = -1 := by omega
    rw [e] at st
    exact pyNext_rev_end (I.ok.hd hc) st fun h' eb => ⟨rfl, I.turned (t' := s.toks) (fun b o hb e => eb b o hb e) f0 f1 f3 f4 f5⟩
  self := fun _ _ _ _ _ st h => pyIter_rev st.2 h
section
variable {X : Cx} {tg : Expr}
def iRev (ta : TA) : TI := fun σ H R => ta σ H fun vs H1 => ∃ l, vs = [.str (S l)] ∧ l.length ≤ sizeLine ∧ R (Itx (sgs l).reverse) H1
theorem pi_rev {a : Expr} {ta : TA} {p pos : Pos} (hg : Gl X "reversed") (hm : X.mg "reversed" = none) (ha : PA X [a] ta) (hs : starEach [a] X.env = [(false, eval a X.env)] := by rfl) : PI X tg (.Call (.Name "reversed" p) [a] [] pos) (iRev ta) := by
  intro pins s σ H R I h
  refine Call_ (ld_blt I hg hm boot_reversed (PyProof.Rows.callWith_type1 (thn (ha pos pins s σ H _ I h) fun us s1 ⟨vs, H1, I1, r1, q1⟩ => ?_) hs rfl))
  obtain ⟨l, rfl, hz, q⟩ := q1
  obtain ⟨u, rfl, t, rfl⟩ := vals1 r1
  refine call_reversedS (by rw [S_len]; exact hz) fun tk => ?_
  have hit : IsRevS (s1.heap.push { cls := .type "reversed", data := .fields #[.str (S l) t, rawInt (((S l).length : Int) - 1)] }) s1.heap.objs.size (S l) t (((S l).length : Int) - 1) := ⟨_, Heap.get?_push_size _ rfl, rfl, rfl⟩
  refine pyIter_rev hit ?_
  refine ⟨s1.heap.objs.size, [s1.heap.objs.size], _, _, H1, rfl, I1.kept (t' := tk) fun b o e => Heap.get?_push_of_some _ e, turn_rev _ l t hz, ⟨Nat.zero_le _, ?_⟩, fun b hb => ?_, q⟩
  · have e : (l.length : Int) - 1 - ((0 : Nat) : Int) = ((S l).length : Int) - 1 := by rw [S_len]; simp
    rw [e]
    exact hit
  · have e : b = s1.heap.objs.size := by simpa using hb
    subst e
    exact I1.fpOk (Nat.le_refl _) (I1.hok.fresh (Nat.le_refl _))
end
/-! ### loops and comprehensions over fixed items -/
theorem comp_by {J : It} {n : Nat} {xs : Nat → V → Prop} {σc : St} {g : TG} {tc : TT} {te : TE} {Q : VK} {H1 : Hp} (Pv : Nat → List V → Hp → Prop) (hn : n < sizeLine) (hgo : ∀ i acc H, i < n → Pv i acc H → J.go i H) (hstop : ∀ acc H, Pv n acc H → J.stop n H)
    (hy : ∀ i acc H x H', i < n → Pv i acc H → J.yld i H x H' → H' = H ∧ xs i x) (h0 : Pv 0 [] H1)
    (hs : ∀ (i : Nat) (x : V) (acc : List V) (H : Hp) (Nx : List V → Hp → Prop), i < n → xs i x → acc.length ≤ i → Pv i acc H → (∀ acc' H', acc'.length ≤ i + 1 → Pv (i + 1) acc' H' → Nx acc' H') →
      g x σc H fun σ2 H2 => Wk σc σ2 ∧ tc σ2 H2 fun b H3 => if b = true then te σ2 H3 fun v H4 => Nx (acc ++ [v]) H4 else Nx acc H3)
    (hd : ∀ acc H D, acc.length ≤ n → Pv n acc H → H D = none → Q (.ref D) (upd H D (.lst acc))) : CompW J σc g tc te Q H1 := by
  refine ⟨fun i m acc H => m = n - i ∧ i ≤ n ∧ acc.length ≤ i ∧ Pv i acc H, ⟨n, by simp, Nat.zero_le _, Nat.le_refl _, h0⟩, ?_⟩
  rintro i m acc H ⟨rfl, hi, hl, p⟩
  refine ⟨by omega, ?_⟩
  by_cases hlt : i < n
  · refine .inr ⟨hgo i acc H hlt p, fun x H' y => ?_⟩
    obtain ⟨rfl, y2⟩ := hy i acc H x H' hlt p y
    exact hs i x acc _ (fun acc' H' => ∃ m', m' < n - i ∧ (m' = n - (i + 1) ∧ i + 1 ≤ n ∧ acc'.length ≤ i + 1 ∧ Pv (i + 1) acc' H')) hlt y2 hl p fun acc' H' h1 h2 => ⟨n - (i + 1), by omega, rfl, hlt, h1, h2⟩
  · have e : i = n := by omega
    subst e
    exact .inl ⟨hstop acc H p, fun D hD => hd acc H D hl p hD⟩
theorem comp_fix {xs : List V} {σc : St} {g : TG} {tc : TT} {te : TE} {Q : VK} {H1 : Hp} (Pv : Nat → List V → Hp → Prop) (hn : xs.length < sizeLine) (h0 : Pv 0 [] H1)
    (hs : ∀ (i : Nat) (x : V) (acc : List V) (H : Hp) (Nx : List V → Hp → Prop), i < xs.length → xs[i]? = some x → acc.length ≤ i → Pv i acc H → (∀ acc' H', acc'.length ≤ i + 1 → Pv (i + 1) acc' H' → Nx acc' H') →
      g x σc H fun σ2 H2 => Wk σc σ2 ∧ tc σ2 H2 fun b H3 => if b = true then te σ2 H3 fun v H4 => Nx (acc ++ [v]) H4 else Nx acc H3)
    (hd : ∀ acc H D, acc.length ≤ xs.length → Pv xs.length acc H → H D = none → Q (.ref D) (upd H D (.lst acc))) : CompW (Itx xs) σc g tc te Q H1 :=
  comp_by (xs := fun i x => xs[i]? = some x) Pv hn (fun i _ _ h _ => h) (fun _ _ _ => Nat.le_refl _) (fun i _ H x H' _ _ y => y) h0 hs hd
theorem comp_rng {lo : Int} {n : Nat} {σc : St} {g : TG} {tc : TT} {te : TE} {Q : VK} {H1 : Hp} (Pv : Nat → List V → Hp → Prop) (hn : n < sizeLine) (h0 : Pv 0 [] H1)
    (hs : ∀ (i : Nat) (acc : List V) (H : Hp) (Nx : List V → Hp → Prop), i < n → acc.length ≤ i → Pv i acc H → (∀ acc' H', acc'.length ≤ i + 1 → Pv (i + 1) acc' H' → Nx acc' H') →
      g (.int (lo + i)) σc H fun σ2 H2 => Wk σc σ2 ∧ tc σ2 H2 fun b H3 => if b = true then te σ2 H3 fun v H4 => Nx (acc ++ [v]) H4 else Nx acc H3)
    (hd : ∀ acc H D, acc.length ≤ n → Pv n acc H → H D = none → Q (.ref D) (upd H D (.lst acc))) : CompW (Itr lo n) σc g tc te Q H1 :=
  comp_by (xs := fun i x => x = .int (lo + i)) Pv hn (fun i _ _ h _ => h) (fun _ _ _ => Nat.le_refl _) (fun i _ H x H' _ _ y => y) h0 (fun i x acc H Nx h1 h2 => by subst h2; exact hs i acc H Nx h1) hd
theorem comp_list {K : PySem.W.Frag} {a : Addr} {xs : List V} {σc : St} {g : TG} {tc : TT} {te : TE} {Q : VK} {H1 : Hp} (Pv : Nat → List V → Hp → Prop) (hn : xs.length < sizeLine) (hl : ∀ i acc H, Pv i acc H → SqL K H a xs) (h0 : Pv 0 [] H1)
    (hs : ∀ (i : Nat) (x : V) (acc : List V) (H : Hp) (Nx : List V → Hp → Prop), i < xs.length → xs[i]? = some x → acc.length ≤ i → Pv i acc H → (∀ acc' H', acc'.length ≤ i + 1 → Pv (i + 1) acc' H' → Nx acc' H') →
      g x σc H fun σ2 H2 => Wk σc σ2 ∧ tc σ2 H2 fun b H3 => if b = true then te σ2 H3 fun v H4 => Nx (acc ++ [v]) H4 else Nx acc H3)
    (hd : ∀ acc H D, acc.length ≤ xs.length → Pv xs.length acc H → H D = none → Q (.ref D) (upd H D (.lst acc))) : CompW (Itl K a) σc g tc te Q H1 :=
  comp_by (xs := fun i x => xs[i]? = some x) Pv hn (fun i acc H h p => ⟨xs, xs[i], hl i acc H p, by simp [h]⟩) (fun acc H p => ⟨xs, hl _ acc H p, Nat.le_refl _⟩) (fun i acc H x H' h p y => ⟨y.1, y.2 xs (hl i acc H p)⟩) h0 hs hd

/-! ### while, its measure within the word -/
def tWhileN (c : TT) (tb : TS) : TS := fun D σ H => ∃ W : Nat → St → Hp → Prop, (∃ m, W m σ H) ∧ ∀ m σ H, W m σ H →
  c σ H fun b H1 => if b = true then tb { D with nx := fun σ' H' => ∃ m', m' < m ∧ W m' σ' H', ct := fun σ' H' => ∃ m', m' < m ∧ W m' σ' H', bk := D.nx } σ H1 else D.nx σ H1
theorem ps_whileN {X : Cx} {c : Expr} {body : List Stmt} {tc : TT} {tb : TS} {pos : Pos} (hp : PassesOwn (model X.prog X.w) X.A X.env X.xe) (hc : PT X c tc) (hb : PSs X body tb) : PS X (.While c body [] pos) (tWhileN tc tb) := by
  intro pins s σ H D I h
  obtain ⟨W, ⟨m0, w0⟩, turn⟩ := h
  refine wpAny_While (codeAny_whileLoop (fun n s' => ∃ σ' H', Inv X pins σ' H' s' ∧ W n σ' H') ?_ m0 ⟨σ, H, I, w0⟩)
  rintro n s1 ⟨σ1, H1, I1, w1⟩
  refine wpAny_passesOwn hp (thn (hc pins s1 σ1 H1 _ I1 (turn n σ1 H1 w1)) fun b s2 ⟨H2, I2, q2⟩ => ?_)
  cases b with
  | true =>
    rw [if_pos rfl] at q2 ⊢
    refine wpAny_passesOwn hp (thn (hb pins s2 σ1 H2 _ I2 q2) fun f s3 q3 => ?_)
    cases f with
    | next =>
      obtain ⟨σ3, H3, I3, m', hm, w3⟩ := q3
      exact ⟨m', hm, σ3, H3, I3, w3⟩
    | cont =>
      obtain ⟨σ3, H3, I3, m', hm, w3⟩ := q3
      exact ⟨m', hm, σ3, H3, I3, w3⟩
    | brk => exact q3
    | ret v => exact q3
  | false =>
    rw [if_neg Bool.false_ne_true] at q2 ⊢
    exact wpAny_execs_nil ⟨σ1, H2, I2, q2⟩

/-! ### the comprehension's rule with its checks reckoned -/
def compOk (X : Cx) (scope : Scope) : Bool := (scope.names.all fun y => y.2 != .cell) && (scope.kind == .function) && (scope.names.all fun y => y.2 != .free || X.env.kindOf y.1 == some .cell || X.env.kindOf y.1 == some .free) && (scope.names.all fun y => y.2 != .local || scope.names.lookup y.1 == some .local)
theorem compOk_parts {X : Cx} {scope : Scope} (h : compOk X scope = true) : (∀ y ∈ scope.names, y.2 ≠ .cell) ∧ scope.kind = .function ∧ (∀ y ∈ scope.names, y.2 = .free → X.env.kindOf y.1 = some .cell ∨ X.env.kindOf y.1 = some .free) ∧ (∀ x ∈ scope.names, x.2 = .local → scope.names.lookup x.1 = some .local) := by
  unfold compOk at h
  simp only [Bool.and_eq_true] at h
  obtain ⟨⟨⟨h1, h2⟩, h3⟩, h4⟩ := h
  refine ⟨fun y hy e => ?_, by simpa using h2, fun y hy e => ?_, fun y hy e => ?_⟩
  · have := List.all_eq_true.mp h1 y hy
    rw [e] at this; simp at this
  · have := List.all_eq_true.mp h3 y hy
    rw [e] at this
    simpa using this
  · have := List.all_eq_true.mp h4 y hy
    rw [e] at this
    simpa using this
theorem pe_compB {X : Cx} {tg iter elt : Expr} {ifs : List Expr} {scope : Scope} {pos : Pos} {wi : TI} {g : TG} {tc : TT} {te : TE} (Nc : List Str) (ix : List (Option Nat)) (hi : PI X tg iter wi) (hix : IxOk X scope Nc ix)
    (hG : ∀ C s H fp, PG (cxComp X scope C Nc s H fp) tg g) (hT : ∀ C s H fp, PF (cxComp X scope C Nc s H fp) ifs tc) (hE : ∀ C s H fp, PE (cxComp X scope C Nc s H fp) elt te) (hok : compOk X scope = true := by rfl) (hcalm : X.calm = true := by rfl)
    (hs : ∀ x, foldedSetIterable iter X.env x = pure x := by intro _; rfl) : PE X (.ListComp elt [⟨tg, iter, ifs, 0⟩] scope pos) (tComp wi ix g tc te) :=
  let ⟨h1, h2, h3, h4⟩ := compOk_parts hok
  pe_comp Nc ix hi hcalm hix h1 h2 h3 h4 hG hT hE hs
theorem ps_setCB {X : Cx} {i : Nat} {x : Str} {tg iter elt : Expr} {ifs : List Expr} {scope : Scope} {pos spos pos' : Pos} {wi : TI} {g : TG} {tc : TT} {te : TE} (Nc : List Str) (ix : List (Option Nat)) (hN : X.N.Nodup) (hxi : X.N[i]? = some x) (hx : Loc X.env.scope x)
    (hi : PI X tg iter wi) (hix : IxOk X scope Nc ix)
    (hG : ∀ C s H fp, PG (cxComp X scope C Nc s H fp) tg g) (hT : ∀ C s H fp, PF (cxComp X scope C Nc s H fp) ifs tc) (hE : ∀ C s H fp, PE (cxComp X scope C Nc s H fp) elt te)
    (hsw : swapsWith (.ListComp elt [⟨tg, iter, ifs, 0⟩] scope pos) (some (.Name x pos')) spos.line X.env = pure true := by rfl) (hok : compOk X scope = true := by rfl) (hcalm : X.calm = true := by rfl)
    (hs : ∀ x, foldedSetIterable iter X.env x = pure x := by intro _; rfl) (hf : X.fn x = true ∨ X.env.scope.names.lookup x = some .local := by first | exact .inl rfl | exact .inr rfl | assumption) :
    PS X (.Assign [.Name x pos'] (.ListComp elt [⟨tg, iter, ifs, 0⟩] scope pos) spos) (tAsg (tComp wi ix g tc te) (gName i)) :=
  let ⟨h1, h2, h3, h4⟩ := compOk_parts hok
  ps_setC Nc ix hN hxi hx hsw hi hcalm hix h1 h2 h3 h4 hG hT hE hs hf

/-! ### comparisons of ints, of texts -/
section
variable {X : Cx}
def rEqS : R2 := fun x y H Q => ∃ a b, x = .str (S a) ∧ y = .str (S b) ∧ Q (.bl (decide (a = b))) H
def rNeS : R2 := fun x y H Q => ∃ a b, x = .str (S a) ∧ y = .str (S b) ∧ Q (.bl (!decide (a = b))) H
theorem op_eqS : OpR X (compareOp .Eq) rEqS := by
  intro pins s σ H x y v u Q I rx ry h
  obtain ⟨a, b, rfl, rfl, q⟩ := h
  exact op_eq pins s σ H _ _ v u Q I rx ry ⟨rfl, by rw [dec_S]; exact q⟩
theorem op_neS : OpR X (compareOp .NotEq) rNeS := by
  intro pins s σ H x y v u Q I rx ry h
  obtain ⟨a, b, rfl, rfl, q⟩ := h
  exact op_ne pins s σ H _ _ v u Q I rx ry ⟨rfl, by rw [dec_S]; exact q⟩
theorem dec_I {i j : Int} : decide (V.int i = V.int j) = decide (i = j) := by
  by_cases h : i = j
  · subst h; simp
  · rw [decide_eq_false h, decide_eq_false]
    intro q
    exact h (V.int.inj q)
theorem dec_B {i j : Bool} : decide (V.bl i = V.bl j) = decide (i = j) := by
  by_cases h : i = j
  · subst h; simp
  · rw [decide_eq_false h, decide_eq_false]
    intro q
    exact h (V.bl.inj q)
theorem op_eqI : OpR X (compareOp .Eq) (rI0 fun i j => .bl (decide (i = j))) := by
  intro pins s σ H x y v u Q I rx ry h
  obtain ⟨a, b, rfl, rfl, q⟩ := h
  exact op_eq pins s σ H _ _ v u Q I rx ry ⟨rfl, by rw [dec_I]; exact q⟩
def rB0 (g : Bool → Bool → V) : R2 := fun x y H Q => ∃ i j, x = .bl i ∧ y = .bl j ∧ Q (g i j) H
theorem op_eqB : OpR X (compareOp .Eq) (rB0 fun i j => .bl (decide (i = j))) := by
  intro pins s σ H x y v u Q I rx ry h
  obtain ⟨a, b, rfl, rfl, q⟩ := h
  exact op_eq pins s σ H _ _ v u Q I rx ry ⟨rfl, by rw [dec_B]; exact q⟩
theorem op_neB : OpR X (compareOp .NotEq) (rB0 fun i j => .bl (!decide (i = j))) := by
  intro pins s σ H x y v u Q I rx ry h
  obtain ⟨a, b, rfl, rfl, q⟩ := h
  exact op_ne pins s σ H _ _ v u Q I rx ry ⟨rfl, by rw [dec_B]; exact q⟩
end
end L2
namespace L2
open PySem PySem.Spec PyProof.Rows
/-! ### the rules with the text's written part named -/
section
variable {X : Cx} {tg : Expr}
theorem ix_listK (K : PySem.W.Frag) (h : X.K = K) : IxR X (rIxL K) := by subst h; exact ix_list
theorem ix_tupK (K : PySem.W.Frag) (h : X.K = K) : IxR X (rIxT K) := by subst h; exact ix_tup
def rLenL (K : PySem.W.Frag) : List V → Hp → VK → Prop := fun xs H Q => ∃ p ys, xs = [.ref p] ∧ (SqL K H p ys ∨ SqT K H p ys) ∧ Q (.int ys.length) H
theorem call_len_seqK (K : PySem.W.Frag) (h : X.K = K) : CallR X (.builtin "len") (rLenL K) := by subst h; exact call_len_seq
theorem mt_joinK (K : PySem.W.Frag) (h : X.K = K) : MtR X "str.join" (rJoinS K) := by subst h; exact mt_joinS
def rAllB (K : PySem.W.Frag) : List V → Hp → VK → Prop := fun xs H Q => ∃ (p : Addr) (bs : List Bool), xs = [.ref p] ∧ SqL K H p (bs.map V.bl) ∧ Q (.bl (bs.all id)) H
theorem call_allK (K : PySem.W.Frag) (h : X.K = K) (hc : X.calm = true) : CallR X (.builtin "all") (rAllB K) := by subst h; exact call_allB hc
theorem sl_listK (K : PySem.W.Frag) (h : X.K = K) : SlR X (rSlL K) := by subst h; exact sl_list
theorem pi_listK (K : PySem.W.Frag) (h : X.K = K) {l : Expr} {tl : TE} (hl : PE X l tl) : PI X tg l (iList K tl) := by subst h; exact pi_list hl
theorem pi_tupK (K : PySem.W.Frag) (h : X.K = K) {l : Expr} {tl : TE} (hl : PE X l tl) : PI X tg l (iTup K tl) := by subst h; exact pi_tup hl
end
section
variable {X : Cx} {o e : Expr} {es : List Expr} {to : TE} {t : TA} {name : Str} {apos cpos : Pos} {T id : String} {r : V → List V → Hp → VK → Prop}
theorem pe_bm0K (K : PySem.W.Frag) (hK : X.K = K) (pa : PlainAttrs T) (slot : Slot T name id) (hty : typeOf (.builtin id) = pure (.type "method_descriptor")) (hm : MtR X id r) (ho : PE X o to)
    (hbase : attributeBase o name X.env (eval o X.env) = eval o X.env := by rfl) (hline : (apos.endLine == cpos.line) = true := by rfl) : PE X (.Call (.Attribute o name apos) [] [] cpos) (tBM0 K T r to) := by
  subst hK
  exact pe_bm0 pa slot hty hm ho hbase hline
theorem pe_bmK (K : PySem.W.Frag) (hK : X.K = K) (pa : PlainAttrs T) (slot : Slot T name id) (hty : typeOf (.builtin id) = pure (.type "method_descriptor")) (hm : MtR X id r) (ho : PE X o to) (ha : PA X (e :: es) t)
    (hbase : attributeBase o name X.env (eval o X.env) = eval o X.env := by rfl)
    (hfew : ((backTo cpos (starEach (e :: es) X.env)).all (fun x => !x.1) && (backToKw cpos (keywordEach [] X.env)).all (fun x => x.1.isSome)
      && decide ((e :: es).length + ([] : List Keyword).length + (if ([] : List Keyword).isEmpty then 0 else 1) < 30)) = true := by rfl)
    (hline : (apos.endLine == cpos.line) = true := by rfl) (hs : starEach (e :: es) X.env = (false, eval e X.env) :: starEach es X.env := by rfl) (hplain : (backTo cpos (starEach es X.env)).any (·.1) = false := by rfl) :
    PE X (.Call (.Attribute o name apos) (e :: es) [] cpos) (tBM K T r to t) := by
  subst hK
  exact pe_bm pa slot hty hm ho ha hbase hfew hline hs hplain
end
end L2
namespace L2
open PySem PySem.Spec PyProof.Rows
/-! ### nested data -/
mutual
inductive RdD (K : PySem.W.Frag) (H : Hp) : V → PyData → Prop
  | non : RdD K H .non .none
  | bl (b : Bool) : RdD K H (.bl b) (.bool b)
  | int (i : Int) : RdD K H (.int i) (.int i)
  | str (x : Str) : RdD K H (.str x) (.str x)
  | lst {a : Addr} {xs : List V} {ds : List PyData} (h : SqL K H a xs) (r : RdDs K H xs ds) : RdD K H (.ref a) (.list ds)
  | tup {a : Addr} {xs : List V} {ds : List PyData} (h : SqT K H a xs) (r : RdDs K H xs ds) : RdD K H (.ref a) (.tuple ds)
inductive RdDs (K : PySem.W.Frag) (H : Hp) : List V → List PyData → Prop
  | nil : RdDs K H [] []
  | cons {x : V} {xs : List V} {d : PyData} {ds : List PyData} (h : RdD K H x d) (r : RdDs K H xs ds) : RdDs K H (x :: xs) (d :: ds)
end
section
variable {X : Cx} {pins : List (Addr × Obj)} {σ : St} {H : Hp} {s : Shared}
mutual
theorem RdD.reads (I : Inv X pins σ H s) : ∀ {x : V} {d : PyData} {u : Value}, RdD X.K H x d → RelV x u → ∃ as, Reads s.heap u d as
  | _, _, u, .non, r => by cases (show u = Value.none from r); exact ⟨_, .none⟩
  | _, _, u, .bl b, r => by cases (show u = Value.bool b from r); exact ⟨_, .bool b⟩
  | _, _, u, .int i, r => by obtain ⟨t, rfl⟩ := r; exact ⟨_, .int i t⟩
  | _, _, u, .str x, r => by obtain ⟨t, rfl⟩ := r; exact ⟨_, .str x t⟩
  | _, _, u, .lst (a := a) h q, r => by
    cases (show u = Value.ref a from r)
    obtain ⟨its, rv, pl, _⟩ := I.list h
    obtain ⟨as, ra⟩ := RdDs.reads I q rv
    obtain ⟨o, ho, hc, n, hd⟩ := pl.isList
    exact ⟨_, .list ho hc hd (by simpa using ra)⟩
  | _, _, u, .tup (a := a) h q, r => by
    cases (show u = Value.ref a from r)
    obtain ⟨its, rv, pl, _⟩ := I.tuple h
    obtain ⟨as, ra⟩ := RdDs.reads I q rv
    obtain ⟨o, ho, hc, n, hd⟩ := pl
    exact ⟨_, .tuple ho hc hd (by simpa using ra)⟩
theorem RdDs.reads (I : Inv X pins σ H s) : ∀ {xs : List V} {ds : List PyData} {us : List Value}, RdDs X.K H xs ds → Vals xs us → ∃ as, ReadsAll s.heap us ds as
  | _, _, us, .nil, r => by cases r; exact ⟨_, .nil⟩
  | _, _, us, .cons h q, r => by
    cases r with
    | cons r1 r2 =>
      obtain ⟨as, ra⟩ := RdD.reads I h r1
      obtain ⟨bs, rb⟩ := RdDs.reads I q r2
      exact ⟨_, .cons ra rb⟩
end
mutual
theorem RdD.noDict {K : PySem.W.Frag} : ∀ {x : V} {d : PyData}, RdD K H x d → d.hasDict = false
  | _, _, .non => rfl
  | _, _, .bl b => rfl
  | _, _, .int i => rfl
  | _, _, .str x => rfl
  | _, _, .lst h q => by show PyData.hasDictAll _ = false; exact RdDs.noDict q
  | _, _, .tup h q => by show PyData.hasDictAll _ = false; exact RdDs.noDict q
theorem RdDs.noDict {K : PySem.W.Frag} : ∀ {xs : List V} {ds : List PyData}, RdDs K H xs ds → PyData.hasDictAll ds = false
  | _, _, .nil => rfl
  | _, _, .cons h q => by
    show (PyData.hasDict _ || PyData.hasDictAll _) = false
    rw [RdD.noDict h, RdDs.noDict q]; rfl
end
end
section
variable {X : Cx}
def rNeD (K : PySem.W.Frag) : R2 := fun x y H Q => ∃ dx dy, RdD K H x dx ∧ RdD K H y dy ∧ (dx.canLay0 = true ∧ dy.canLay0 = true) ∧ dx.depth ≤ 60 ∧ Q (.bl (!PyData.eqv dx dy)) H
theorem op_neD {k : Nat} (K : PySem.W.Frag) (h : X.K = K) (hr : Room k X.A) : OpR X (compareOp .NotEq) (rNeD K) := by
  subst h
  intro pins s σ H x y v u Q I rx ry h
  obtain ⟨dx, dy, h1, h2, ⟨h3, h4⟩, h5, q⟩ := h
  obtain ⟨as, ra⟩ := h1.reads I rx
  obtain ⟨bs, rb⟩ := h2.reads I ry
  have hu := hr.units
  exact SeqAt.compareNe_reads ra rb h3 h4 (by omega) ⟨.bl _, H, I, rfl, q⟩
/-- a, b = .. -/
theorem pg_tupK (K : PySem.W.Frag) (h : X.K = K) {es : List Expr} {k : Nat} {t : TGs} {n : Nat} {pos : Pos} (hc : X.calm = true) (hs : PGs X es t)
    (hn : (assignEach es X.env).length = n := by rfl) (hst : (assignEach es X.env).findIdx? (·.1) = none := by rfl) : PG X (.Tuple es k pos) (gTup K n t) := by
  subst h
  exact pg_tup hc hs hn hst
end
end L2
namespace L2
open PySem PySem.Spec PyProof.Rows
section
variable {X : Cx}
theorem op_inK (K : PySem.W.Frag) (h : X.K = K) : OpR X (compareOp .In) (rIn K false) := by subst h; exact op_in_seq
theorem op_ninK (K : PySem.W.Frag) (h : X.K = K) : OpR X (compareOp .NotIn) (rIn K true) := by subst h; exact op_notIn_seq
/-! ### small data, and their texts -/
/-- of depth at most k, of weight at most n -/
structure SmD (k n : Nat) (d : PyData) : Prop where
  lv : d.leavesShort 13 = true
  sh : d.showable = true
  ly : d.canLay0 = true
  dp : d.depth ≤ k
  wt : d.weight ≤ n
structure SmDs (k n : Nat) (ds : List PyData) : Prop where
  lv : PyData.leavesShortAll 13 ds = true
  sh : PyData.showableAll ds = true
  ly : PyData.canLayAll0 ds = true
  dp : PyData.depthAll ds ≤ k
  wt : PyData.weightAll ds ≤ n
theorem SmD.str {k n : Nat} {l : List Nat} (h : ∀ c ∈ l, c < 128) (hn : l.length ≤ n) : SmD k n (.str (S l)) := by
  refine ⟨?_, rfl, ?_, Nat.zero_le _, by show (S l).cps.size ≤ n; rw [S_size]; exact hn⟩
  · show ((S l).cps.toList.all fun c => decide (c < 16 ^ 8)) = true
    rw [S_list, List.all_eq_true]
    intro c hc
    have := h c hc
    exact decide_eq_true (by omega)
  · show PyData.strOk (S l) = true
    unfold PyData.strOk
    rw [Array.all_eq_true_iff_forall_mem]
    intro c hc
    have : c ∈ l := by simpa [S] using hc
    have := h c this
    simp; omega
theorem SmD.bl {k n : Nat} (b : Bool) : SmD k n (.bool b) := ⟨rfl, rfl, rfl, Nat.zero_le _, Nat.zero_le _⟩
theorem SmD.non {k n : Nat} : SmD k n .none := ⟨rfl, rfl, rfl, Nat.zero_le _, Nat.zero_le _⟩
theorem SmD.int {k n : Nat} {i : Int} (h : i.natAbs < 10 ^ 12) (hn : 40 ≤ n) : SmD k n (.int i) := by
  have hl : i.natAbs.log2 < 40 := by
    by_cases z : i.natAbs = 0
    · rw [z]; decide
    · rw [Nat.log2_lt z]
      exact Nat.lt_trans h (by decide)
  refine ⟨?_, ?_, rfl, Nat.zero_le _, ?_⟩
  · show decide ((PyData.shown (.int i)).length ≤ 13) = true
    exact decide_eq_true (PyData.shown_int_le h)
  · show decide (i.natAbs.log2 < 1920) = true
    exact decide_eq_true (by omega)
  · show (if i == 0 then 0 else i.natAbs.log2 + 1) ≤ n
    split <;> omega
theorem SmDs.nil {k n : Nat} : SmDs k n [] := ⟨rfl, rfl, rfl, Nat.zero_le _, Nat.zero_le _⟩
theorem SmDs.cons {k a b n : Nat} {x : PyData} {xs : List PyData} (h : SmD k a x) (t : SmDs k b xs) (hn : a + 1 + b ≤ n) : SmDs k n (x :: xs) := by
  refine ⟨?_, ?_, ?_, ?_, ?_⟩
  · show (PyData.leavesShort 13 x && PyData.leavesShortAll 13 xs) = true; rw [h.lv, t.lv]; rfl
  · show (PyData.showable x && PyData.showableAll xs) = true; rw [h.sh, t.sh]; rfl
  · show (PyData.canLay0 x && PyData.canLayAll0 xs) = true; rw [h.ly, t.ly]; rfl
  · show max (PyData.depth x) (PyData.depthAll xs) ≤ k; exact Nat.max_le.mpr ⟨h.dp, t.dp⟩
  · show PyData.weight x + 1 + PyData.weightAll xs ≤ n
    have := h.wt; have := t.wt; omega
theorem SmDs.all {k a : Nat} : ∀ {xs : List PyData} {n : Nat}, (∀ x ∈ xs, SmD k a x) → (a + 1) * xs.length ≤ n → SmDs k n xs
  | [], _, _, _ => .nil
  | x :: xs, n, h, hn => .cons (b := (a + 1) * xs.length) (h x List.mem_cons_self) (SmDs.all (fun y hy => h y (List.mem_cons_of_mem _ hy)) (Nat.le_refl _)) (by rw [List.length_cons, Nat.mul_succ] at hn; omega)
theorem SmD.lst {k n : Nat} {ds : List PyData} (h : SmDs k n ds) : SmD (k + 1) n (.list ds) := ⟨h.lv, h.sh, h.ly, Nat.succ_le_succ h.dp, h.wt⟩
theorem SmD.tup {k n : Nat} {ds : List PyData} (h : SmDs k n ds) : SmD (k + 1) n (.tuple ds) := ⟨h.lv, h.sh, h.ly, Nat.succ_le_succ h.dp, h.wt⟩
theorem SmD.fits {k n : Nat} {d : PyData} (h : SmD k n d) (hn : n ≤ 2 ^ 20) : d.shown.length ≤ sizeLine := PyData.shown_fits (by decide) (by decide) h.lv (Nat.le_trans h.wt hn)
end
end L2
namespace L2
open PySem PySem.Spec PyProof.Rows
/-! ### a text so many times -/
def reps (n : Nat) (l : List Nat) : List Nat := (List.replicate n l).flatten
end L2
namespace L2
open PySem PySem.Spec PyProof.Rows
section
variable {X : Cx}
theorem op_isB : OpR X (compareOp .Is) (fun x y H Q => ∃ c d, x = .bl c ∧ y = .bl d ∧ Q (.bl (c == d)) H) := by
  intro pins s σ H x y v u Q I rx ry h
  obtain ⟨c, d, rfl, rfl, q⟩ := h
  cases rx
  cases ry
  exact is_bool ⟨.bl _, H, I, rfl, q⟩
end
end L2
namespace L2
open PySem PySem.Spec PyProof.Rows
section
variable {X : Cx} {pins : List (Addr × Obj)} {σ : St} {H : Hp} {s : Shared} {h' : Heap}
/-- some records of ours have turned, and a new object is laid -/
theorem Inv.turnLaid {t' : Nat} {ch : List Addr} {T : Addr} {ob : HO} (I : Inv X pins σ H s) (k : ∀ b o, b ∉ ch → s.heap.get? b = some o → h'.get? b = some o) (hf : ∀ b ∈ ch, FpOk X pins H b)
    (hT : s.heap.objs.size ≤ T) (new : ObjOk X.prog X.w (upd H T ob) h' T ob) : Inv X pins σ (upd H T ob) { s with heap := h', toks := t' } := by
  have hn := I.hok.fresh hT
  have nit : ∀ b u, H b = some u → b ∉ ch := fun b u e z => by rw [(hf b z).1] at e; cases e
  have neT : ∀ b o, s.heap.get? b = some o → b ≠ T := fun b o e z => absurd (Nat.lt_of_lt_of_le (Heap.lt_size e) hT) (by rw [z]; exact Nat.lt_irrefl _)
  refine I.step (g' := s.gens) (d' := s.drawn) (ch := ch) (fun b hb => ?_) (fun b o _ _ hc e _ => k b o hc e) (fun b o _ _ hc e _ => ⟨o.slots, k b o hc e⟩) (fun b o _ e n => by rw [upd_ne (neT b o e)]; exact n)
    (fun b o hc e => ⟨o, k b o hc e⟩) (fun b xs e => by rw [upd_ne (ne_of_none e hn)]; exact e) (fun b o u e => by rw [upd_ne (ne_of_none e hn)]; exact e) (fun b ps e => ⟨#[], by rw [upd_ne (ne_of_none e hn), e]; simp⟩) (fun m hm => ?_) (fun b u e => ?_) I.bare
  · obtain ⟨_, h2, _, h4, h5, h6⟩ := hf b hb
    exact ⟨h4, h2, h5, h6⟩
  · obtain ⟨o, es, ep, ho, r⟩ := hm
    exact ⟨o, es, ep, k _ o (fun z => (hf _ z).2.1 rfl) ho, r⟩
  · by_cases hb : b = T
    · subst hb; rw [upd_same] at e; cases e; exact new
    · rw [upd_ne hb] at e
      refine (I.hok b u e).stay (fun c v hc q => k c v ?_ q) (fun c q => by rw [upd_ne (ne_of_none q hn)]; exact q) fun c xs q => by rw [upd_ne (ne_of_none q hn)]; exact q
      rcases hc with z | z
      · rw [z]; exact nit b u e
      · exact nit c _ z
theorem Inv.turnedL {t' : Nat} {ch : List Addr} (I : Inv X pins σ H s) (k : ∀ b o, b ∉ ch → s.heap.get? b = some o → h'.get? b = some o) (hf : ∀ b ∈ ch, FpOk X pins H b) : Inv X pins σ H { s with heap := h', toks := t' } := by
  have nit : ∀ b u, H b = some u → b ∉ ch := fun b u e z => by rw [(hf b z).1] at e; cases e
  refine I.step (g' := s.gens) (d' := s.drawn) (ch := ch) (fun b hb => ?_) (fun b o _ _ hc e _ => k b o hc e) (fun b o _ _ hc e _ => ⟨o.slots, k b o hc e⟩) (fun b o _ e n => n)
    (fun b o hc e => ⟨o, k b o hc e⟩) (fun b xs e => e) (fun b o u e => e) (fun b ps e => ⟨#[], by rw [e]; simp⟩) (fun m hm => ?_) (fun b u e => ?_) I.bare
  · obtain ⟨_, h2, _, h4, h5, h6⟩ := hf b hb
    exact ⟨h4, h2, h5, h6⟩
  · obtain ⟨o, es, ep, ho, r⟩ := hm
    exact ⟨o, es, ep, k _ o (fun z => (hf _ z).2.1 rfl) ho, r⟩
  · refine (I.hok b u e).stay (fun c v hc q => k c v ?_ q) (fun c q => q) fun c xs q => q
    rcases hc with z | z
    · rw [z]; exact nit b u e
    · exact nit c _ z
end
/-! ### enumerate of a text -/
/-! ### sorted -/
section
variable {X : Cx}
end
end L2
namespace L2
open PySem PySem.Spec PyProof.Rows
section
variable {prog : Program} {w : World} {A : Around} {E : Value → Shared → Prop} {s : Shared}
/-! ### enumerate of a tuple, of a list -/
/-- a tuple's iterator, asked by nextOf: one more -/
theorem nextT_item {it tp : Addr} {j : Nat} {xs : Array Value} {y : Value} {Q : Value → Shared → Prop} (hi : s.heap.IsTupleIter it tp j) (ht : s.heap.IsTuple tp xs) (hy : xs[j]? = some y)
    (q : ∀ h2, h2.IsTupleIter it tp (j + 1) → Heap.SameBut it s.heap h2 → Q y { s with heap := h2 }) : wpAny (model prog w) A (Builtin.SmallTypes.nextOf (.ref it)) Q E s := by
  obtain ⟨oi, eo, ec, ed⟩ := id hi
  obtain ⟨ot, et, _, nt, dt⟩ := ht
  unfold Builtin.SmallTypes.nextOf
  refine wpAny_bind (wpAny_callSpecial?_slot (name := Str.ofString "__next__") hi.typeIs F.slot_tuple_iterator_next (wpAny_call_entry F.slot_tuple_iterator_next hi.typeIs F.entry_tuple_iterator_next ?_ (F.args_tuple_iterator_next_1 _)))
  refine wpAny_bind (m := field (.ref it) 0) (wpAny_field eo ed (x := .ref tp) rfl ?_)
  show wpAny (model prog w) _ (if (Value.ref tp == Value.none) = true then _ else _) _ E s
  rw [if_neg (show ¬ (Value.ref tp == Value.none) = true from Bool.false_ne_true)]
  refine wpAny_bind (m := field (.ref it) 1) (wpAny_field eo ed (x := .int j 0) rfl ?_)
  refine wpAny_bind (m := seqItems? (.ref tp)) (wpAny_seqItems et dt ?_)
  simp only [Int.toNat_natCast, hy]
  refine wpAny_bind (wpAny_setField eo ed (by simp) (wpAny_pure ⟨y, rfl, wpAny_pure (q _ ⟨_, Heap.get?_update_self _ eo (Obj.isFreed_of_fields (Obj.data_mapFields ed _)), (Obj.cls_mapFields ..).trans ec, by rw [Obj.data_mapFields ed]; simp [rawInt]⟩ (Heap.SameBut.update ..))⟩))
theorem nextT_end {it tp : Addr} {j : Nat} {xs : Array Value} {Q : Value → Shared → Prop} (hh : A.handled = none) (hi : s.heap.IsTupleIter it tp j) (ht : s.heap.IsTuple tp xs) (hy : xs[j]? = none)
    (q : ∀ h2 e, Heap.ExtBut it s.heap h2 → (∃ o, h2.get? e = some o ∧ o.cls = .type "StopIteration") → E (.ref e) { s with heap := h2 }) : wpAny (model prog w) A (Builtin.SmallTypes.nextOf (.ref it)) Q E s := by
  obtain ⟨oi, eo, ec, ed⟩ := id hi
  obtain ⟨ot, et, _, nt, dt⟩ := ht
  unfold Builtin.SmallTypes.nextOf
  refine wpAny_bind (wpAny_callSpecial?_slot (name := Str.ofString "__next__") hi.typeIs F.slot_tuple_iterator_next (wpAny_call_entry F.slot_tuple_iterator_next hi.typeIs F.entry_tuple_iterator_next ?_ (F.args_tuple_iterator_next_1 _)))
  refine wpAny_bind (m := field (.ref it) 0) (wpAny_field eo ed (x := .ref tp) rfl ?_)
  show wpAny (model prog w) _ (if (Value.ref tp == Value.none) = true then _ else _) _ E s
  rw [if_neg (show ¬ (Value.ref tp == Value.none) = true from Bool.false_ne_true)]
  refine wpAny_bind (m := field (.ref it) 1) (wpAny_field eo ed (x := .int j 0) rfl ?_)
  refine wpAny_bind (m := seqItems? (.ref tp)) (wpAny_seqItems et dt ?_)
  simp only [Int.toNat_natCast, hy]
  refine wpAny_bind (wpAny_rule (wpAny_bind (wpAny_setField eo ed (by simp) ?_)))
  refine wpAny_bind (m := newExc (.type "StopIteration") []) ?_
  simp only [newExc, newTuple]
  refine wpAny_bind (wpAny_newObj_type (wpAny_bind (m := firstArgMember _ _) (wpAny_of_eq (a := Value.none) (by first | rfl | (simp only [firstArgMember]; rfl)) (wpAny_newObj_type ?_ (by size_fits)))) (by size_fits))
  simp only [raiseNew]
  refine wpAny_bind (wpAny_handled ?_); first | rw [show A.in1.handled = none from hh] | rw [hh]
  exact wpAny_bind (wpAny_pure (wpAny_throw (q _ _ (((Heap.SameBut.update ..).extBut.push _).push _) ⟨_, Heap.get?_push_size _ rfl, rfl⟩)))
theorem draws_tuple (hh : A.handled = none) (it tp : Addr) (ne : tp ≠ it) (xs : Array Value) :
    Draws prog w A it [it, tp] xs.size (fun i v => xs[i]? = some v) (fun i h => h.IsTupleIter it tp i ∧ h.IsTuple tp xs) where
  live := fun _ _ z => let ⟨o, e, _⟩ := z.1; ⟨o, e⟩
  frame := fun _ _ _ z k => by
    obtain ⟨⟨o, e, r⟩, o2, e2, r2⟩ := z
    exact ⟨⟨o, k it (by simp) o e, r⟩, o2, k tp (by simp) o2 e2, r2⟩
  item := fun i s Q E hi z q => nextT_item z.1 z.2 (y := xs[i]) (by simp [hi]) fun h2 z2 sb => q _ h2 s.toks (by simp [hi]) ⟨z2, z.2.extBut sb.extBut ne⟩ sb
  done := fun s Q E z q => nextT_end hh z.1 z.2 (by simp) q
theorem meets_enumT (l : Addr) (items : Array Value) (n : Nat) (dct : Option Addr) (sl : Array (Option Value)) :
    Meets (Builtin.«enumerate.__new__» ⟨[.type "enumerate", .ref l], []⟩) (fun _ R s => s.heap.get? l = some { cls := .type "tuple", dict := dct, data := .seq items n, slots := sl } ∧
      R (.ok (.ret (.ref (s.heap.push { cls := .type "tuple_iterator", data := .fields #[.ref l, .int 0 0] }).objs.size)))
        { s with heap := (s.heap.push { cls := .type "tuple_iterator", data := .fields #[.ref l, .int 0 0] }).push { cls := .type "enumerate", data := .fields #[.none, .bool false, .ref s.heap.objs.size, rawInt 0, .none, .none] } }) :=
  .of_wp fun prog w A R s h => by
    obtain ⟨hp, g, d, tk, os⟩ := s; obtain ⟨hl, q⟩ := h; have hsub := sub_enumerate
    have hT : Heap.IsTuple (Shared.heap ⟨hp, g, d, tk, os⟩) l items := ⟨_, hl, rfl, n, rfl⟩
    wp_walk using AutoSeq1.wpAny_loadPart' hl
    refine wpAny_stack_any fun st => wpAny_pure ?_
    split
    · rename_i c _ _ _ _ _
      cases (c == Value.type "enumerate") <;> (wp_walk using AutoSeq1.wpAny_loadPart' hl, wpAny_pyIter_tuple hT; exact ⟨_, rfl, q⟩)
    · wp_walk using AutoSeq1.wpAny_loadPart' hl, wpAny_pyIter_tuple hT
      exact ⟨_, rfl, q⟩
theorem call_enumT {l : Addr} {items : Array Value} {Q : Value → Shared → Prop} (hL : s.heap.IsTuple l items)
    (h : ∀ h', IsEnum h' (s.heap.objs.size + 1) s.heap.objs.size 0 .none → h'.IsTupleIter s.heap.objs.size l 0 → (∀ b o, s.heap.get? b = some o → h'.get? b = some o) → Q (.ref (s.heap.objs.size + 1)) { s with heap := h' }) :
    wpAny (model prog w) A (call (.type "enumerate") [.ref l]) Q E s := by
  obtain ⟨⟨c, dct, dt, sl⟩, hl, hc, n, hd⟩ := hL
  cases (show c = .type "tuple" from hc)
  cases (show dt = .seq items n from hd)
  refine callType_new F.called_enumerate (by decide) (F.typeCall_enumerate_1 _) (F.newCall_enumerate_1 _) (fun ob => F.args_object_init_2 ob _) F.entry_enumerate_new (meets_enumT l items n dct sl) ⟨hl, ?_⟩
  have hz : (s.heap.push { cls := .type "tuple_iterator", data := .fields #[.ref l, .int 0 0] }).objs.size = s.heap.objs.size + 1 := Heap.size_push ..
  show _ ∧ _
  rw [hz]
  have he : IsEnum ((s.heap.push { cls := .type "tuple_iterator", data := .fields #[.ref l, .int 0 0] }).push { cls := .type "enumerate", data := .fields #[.none, .bool false, .ref s.heap.objs.size, rawInt 0, .none, .none] }) (s.heap.objs.size + 1) s.heap.objs.size 0 .none := by
    have := Heap.get?_push_size (s.heap.push { cls := .type "tuple_iterator", data := .fields #[.ref l, .int 0 0] }) (o := { cls := .type "enumerate", data := .fields #[.none, .bool false, .ref s.heap.objs.size, rawInt 0, .none, .none] }) rfl
    rwa [hz] at this
  exact ⟨⟨_, he, rfl⟩, h _ he ⟨_, Heap.get?_push_of_some _ (Heap.get?_push_size _ rfl), rfl, rfl⟩ fun b o x => Heap.get?_push_of_some _ (Heap.get?_push_of_some _ x)⟩
end
/-- enumerate of the tuple at a; of the list at a -/
def ItET (K : PySem.W.Frag) (a : Addr) : It := ⟨fun i H => ∃ xs x, SqT K H a xs ∧ xs[i]? = some x, fun i H x H' => ∃ T y, (∀ xs, SqT K H a xs → xs[i]? = some y) ∧ x = .ref T ∧ H T = none ∧ H' = upd H T (.tup [.int i, y]), fun i H => ∃ xs, SqT K H a xs ∧ xs.length = i⟩
theorem turn_enumT {P : Program} {w : World} {K : PySem.W.Frag} {elts : List Expr} {k : Nat} {pos : Pos} (e it a : Addr) (hei : e ≠ it) (hae : a ≠ e) (hai : a ≠ it) :
    Turn P w K (.Tuple elts k pos) (ItET K a) [e, it] e (fun i h => (∃ old, IsEnum h e it i old) ∧ h.IsTupleIter it a i) where
  mem := by simp
  obj := fun i h st b hb => by
    obtain ⟨⟨old, he⟩, o, ho, hc, hd⟩ := st
    rcases List.mem_cons.mp hb with z | z
    · rw [z]; exact ⟨_, he, fun v z => by cases z⟩
    · rw [List.mem_singleton.mp z]; exact ⟨o, ho, fun v z => by rw [hd] at z; cases z⟩
  keep := fun i h h' st kp => by
    obtain ⟨⟨old, he⟩, o, ho, r⟩ := st
    exact ⟨⟨old, kp e (by simp) _ he⟩, o, kp it (by simp) o ho, r⟩
  item := by
    intro X hP hw hK hc i pins s σ H E I hf st hg
    subst hP hw hK
    obtain ⟨st1, st2⟩ := st
    obtain ⟨xs, x, hq, hx⟩ := hg
    obtain ⟨its, rv, p, hz⟩ := I.tuple hq
    obtain ⟨u0, hu, ru⟩ := rv.get hx
    have D := draws_tuple (prog := X.prog) (w := X.w) (A := X.A.in1) (I.ok.hd hc) it a hai its.toArray
    have W := WalksT.enumerateD D e hei (by simp; exact ⟨hei, Ne.symm hae⟩) (by simp)
    have hil : i < its.toArray.size := by rw [List.size_toArray]; exact (List.getElem?_eq_some_iff.mp hu).1
    refine W.item i s _ _ hil ⟨st1, st2, p⟩ fun T vals h' tk hPt hT hTup hMid hk => ⟨_, rfl, ?_⟩
    refine W.go elts k pos i T { s with heap := h', toks := tk } _ _ hMid fun h2 hst2 hk2 => ?_
    obtain ⟨tt, x2, hx2, rfl⟩ := hPt
    have ex : x2 = u0 := by
      rw [List.getElem?_toArray] at hx2
      exact Option.some.inj (hx2.symm.trans hu)
    subst ex
    have hTw : T ∉ [e, it] := W.apart i T h' hMid
    have hTup2 : h2.IsTuple T #[.int i tt, x2] := by
      obtain ⟨o, ho, r⟩ := hTup
      exact ⟨o, hk2 T o hTw ho, r⟩
    refine ⟨.ref T, upd H T (.tup [.int i, x]), ?_, rfl, ⟨T, x, fun ys hy => by rw [I.tuple_inj hy hq]; exact hx, rfl, I.hok.fresh hT, rfl⟩, ⟨hst2.1, hst2.2.1⟩, fun b hb => ?_⟩
    · refine I.turnLaid (t' := tk) (h' := h2) (fun b o hb y => hk2 b o hb (hk b o hb y)) hf hT ?_
      exact ⟨by show 2 ≤ sizeLine; decide, [.int i tt, x2], .cons ⟨tt, rfl⟩ (.cons ru .nil), hTup2⟩
    · rw [upd_ne (fun z : b = T => hTw (z ▸ hb))]; exact (hf b hb).1
  done := by
    intro X hP hw hK hc i pins s σ H E I hf st hg
    subst hP hw hK
    obtain ⟨st1, st2⟩ := st
    obtain ⟨xs, hq, hx⟩ := hg
    obtain ⟨its, rv, p, hz⟩ := I.tuple hq
    have hl := rv.length
    have D := draws_tuple (prog := X.prog) (w := X.w) (A := X.A.in1) (I.ok.hd hc) it a hai its.toArray
    have W := WalksT.enumerateD D e hei (by simp; exact ⟨hei, Ne.symm hae⟩) (by simp)
    refine W.done s _ _ ?_ fun h' tk hk => ⟨rfl, I.turnedL (t' := tk) hk hf⟩
    have e1 : its.toArray.size = i := by rw [List.size_toArray]; omega
    rw [e1]
    exact ⟨st1, st2, p⟩
  self := fun _ _ s _ _ st h => by
    obtain ⟨⟨old, he⟩, _⟩ := st
    exact wpAny_pyIter_enum he h
def iEnumT (K : PySem.W.Frag) (ta : TA) : TI := fun σ H R => ta σ H fun vs H1 => ∃ a, vs = [.ref a] ∧ (∃ xs, SqT K H1 a xs) ∧ R (ItET K a) H1
theorem pi_enumT {X : Cx} (K : PySem.W.Frag) (hK : X.K = K) {elts : List Expr} {k : Nat} {pos' : Pos} {a : Expr} {ta : TA} {p pos : Pos} (hg : Gl X "enumerate") (hm : X.mg "enumerate" = none) (ha : PA X [a] ta) (hs : starEach [a] X.env = [(false, eval a X.env)] := by rfl) : PI X (.Tuple elts k pos') (.Call (.Name "enumerate" p) [a] [] pos) (iEnumT K ta) := by
  subst hK
  intro pins s σ H R I h
  refine Call_ (ld_blt I hg hm boot_enumerate (PyProof.Rows.callWith_type1 (thn (ha pos pins s σ H _ I h) fun us s1 ⟨vs, H1, I1, r1, q1⟩ => ?_) hs rfl))
  obtain ⟨b, rfl, ⟨xs, hq⟩, q⟩ := q1
  obtain ⟨u, rfl, ru⟩ := vals1 r1
  cases ru
  obtain ⟨its, rv, pl, hz⟩ := I1.tuple hq
  obtain ⟨ob, eb, _⟩ := id pl
  have hlt : b < s1.heap.objs.size := Heap.lt_size eb
  refine call_enumT pl fun h' he hit hk => wpAny_pyIter_enum he ?_
  refine ⟨s1.heap.objs.size + 1, [s1.heap.objs.size + 1, s1.heap.objs.size], _, _, H1, rfl, I1.kept (t' := s1.toks) hk, turn_enumT _ _ b (Nat.succ_ne_self _) (Nat.ne_of_lt (Nat.lt_succ_of_lt hlt)) (Nat.ne_of_lt hlt), ⟨⟨_, he⟩, hit⟩, fun c hb => ?_, q⟩
  have hb2 : s1.heap.objs.size ≤ c := by
    rcases List.mem_cons.mp hb with z | z
    · rw [z]; exact Nat.le_succ _
    · rw [List.mem_singleton.mp z]; exact Nat.le_refl _
  exact I1.fpOk hb2 (I1.hok.fresh hb2)
theorem for_enumT {K : PySem.W.Frag} {a : Addr} {xs : List V} {g : TG} {tb : TS} {D : Ends} {σ : St} {H : Hp} (Pv : Nat → St → Hp → Prop) (h0 : Pv 0 σ H) (hl : ∀ i σ H, i ≤ xs.length → Pv i σ H → SqT K H a xs)
    (hs : ∀ i x σ H T, xs[i]? = some x → Pv i σ H → H T = none → g (.ref T) σ (upd H T (.tup [.int i, x])) fun σ2 H2 => tb { D with nx := Pv (i + 1), ct := Pv (i + 1), bk := D.nx } σ2 H2) (hd : ∀ σ H, Pv xs.length σ H → D.nx σ H) :
    ∃ W : Nat → Nat → St → Hp → Prop, (∃ m, W 0 m σ H) ∧ ∀ i m σ H, W i m σ H →
      ((ItET K a).stop i H ∧ D.nx σ H) ∨ ((ItET K a).go i H ∧ ∃ N : St → Hp → Prop, (∀ σ' H', N σ' H' → ∃ m', m' < m ∧ W (i + 1) m' σ' H') ∧ ∀ x H', (ItET K a).yld i H x H' → g x σ H' fun σ2 H2 => tb { D with nx := N, ct := N, bk := D.nx } σ2 H2) := by
  refine ⟨fun i m σ H => m = xs.length - i ∧ i ≤ xs.length ∧ Pv i σ H, ⟨xs.length, by simp, Nat.zero_le _, h0⟩, ?_⟩
  rintro i m σ H ⟨rfl, hi, p⟩
  have hq := hl i σ H hi p
  by_cases hlt : i < xs.length
  · refine .inr ⟨⟨xs, xs[i], hq, by simp [hlt]⟩, Pv (i + 1), fun σ' H' p' => ⟨xs.length - (i + 1), by omega, rfl, hlt, p'⟩, fun x H' y => ?_⟩
    obtain ⟨T, z, hz, rfl, hn, rfl⟩ := y
    exact hs i z σ _ T (hz xs hq) p hn
  · have e : i = xs.length := by omega
    subst e
    exact .inl ⟨⟨xs, hq, rfl⟩, hd σ H p⟩
/-! ### list(text or sequence); index of a list of texts; isinstance(list, list) -/
section
variable {X : Cx}
end
end L2
namespace L2
open PySem PySem.Spec PyProof.Rows
section
variable {X : Cx}
def rTupOf (K : PySem.W.Frag) : List V → Hp → VK → Prop := fun xs H Q => ∃ p ys, xs = [.ref p] ∧ ((SqL K H p ys ∧ ∀ l, H l = none → Q (.ref l) (upd H l (.tup ys))) ∨ (SqT K H p ys ∧ Q (.ref p) H))
theorem call_tuple_ofK (K : PySem.W.Frag) (h : X.K = K) : CallR X (.type "tuple") (rTupOf K) := by subst h; exact call_tuple_of
theorem op_catTK (K : PySem.W.Frag) (h : X.K = K) : OpR X (binaryOp .Add) (rCatT K) := by subst h; exact op_catT
end
end L2
namespace L2
open PySem PySem.Spec PyProof.Rows
/-- a comprehension over a tuple -/
theorem comp_tup {K : PySem.W.Frag} {a : Addr} {xs : List V} {σc : St} {g : TG} {tc : TT} {te : TE} {Q : VK} {H1 : Hp} (Pv : Nat → List V → Hp → Prop) (hn : xs.length < sizeLine) (hl : ∀ i acc H, Pv i acc H → SqT K H a xs) (h0 : Pv 0 [] H1)
    (hs : ∀ (i : Nat) (x : V) (acc : List V) (H : Hp) (Nx : List V → Hp → Prop), i < xs.length → xs[i]? = some x → acc.length ≤ i → Pv i acc H → (∀ acc' H', acc'.length ≤ i + 1 → Pv (i + 1) acc' H' → Nx acc' H') →
      g x σc H fun σ2 H2 => Wk σc σ2 ∧ tc σ2 H2 fun b H3 => if b = true then te σ2 H3 fun v H4 => Nx (acc ++ [v]) H4 else Nx acc H3)
    (hd : ∀ acc H D, acc.length ≤ xs.length → Pv xs.length acc H → H D = none → Q (.ref D) (upd H D (.lst acc))) : CompW (Itt K a) σc g tc te Q H1 :=
  comp_by (xs := fun i x => xs[i]? = some x) Pv hn (fun i acc H h p => ⟨xs, xs[i], hl i acc H p, by simp [h]⟩) (fun acc H p => ⟨xs, hl _ acc H p, Nat.le_refl _⟩) (fun i acc H x H' h p y => ⟨y.1, y.2 xs (hl i acc H p)⟩) h0 hs hd
theorem inV_two (l a b : Nat) : inV (.str (S [l])) [.str (S [a]), .str (S [b])] = (decide (l = a) || decide (l = b)) := by
  have key : ∀ c : Nat, eqV (.str (S [c])) (.str (S [l])) = decide (l = c) := fun c => by
    show decide (S [c] = S [l]) = _
    refine decide_eq_decide.mpr ⟨fun z => ?_, fun z => by rw [z]⟩
    have := congrArg (fun x : Str => x.cps.toList) z
    simpa [S, eq_comm] using this
  unfold inV
  rw [List.any_cons, List.any_cons, List.any_nil, key, key, Bool.or_false]
/-- tuples stay -/
def TSame (H H' : Hp) : Prop := ∀ c xs, H c = some (.tup xs) → H' c = some (.tup xs)
theorem TSame.refl (H : Hp) : TSame H H := fun _ _ h => h
theorem TSame.trans {H H1 H2 : Hp} (a : TSame H H1) (b : TSame H1 H2) : TSame H H2 := fun c xs h => b c xs (a c xs h)
theorem TSame.of {H H' : Hp} (s : Same H H') : TSame H H' := fun c xs h => s c _ h
theorem TSame.updL {H : Hp} {p : Addr} {ys : List V} {o : HO} (h : H p = some (.lst ys)) : TSame H (upd H p o) := fun c xs e => by
  rw [upd_ne (fun z => by rw [z, h] at e; cases e)]; exact e
theorem TSame.updN {H : Hp} {p : Addr} {o : HO} (h : H p = none) : TSame H (upd H p o) := fun c xs e => by
  rw [upd_ne (fun z => by rw [z, h] at e; cases e)]; exact e
end L2
namespace L2
open PySem PySem.Spec PyProof.Rows
/-! ### sorted of pairs of whole numbers that rise already -/
section
variable {prog : Program} {w : World} {A : Around} {E : Value → Shared → Prop} {s : Shared}
def PairAt (h : Heap) (v : Value) (n : Int × Int) : Prop := ∃ x ox t1 t2 m, v = .ref x ∧ h.get? x = some ox ∧ ox.cls = .type "tuple" ∧ ox.data = .seq #[.int n.1 t1, .int n.2 t2] m
theorem PairAt.keep {h h' : Heap} {v : Value} {n : Int × Int} (p : PairAt h v n) (k : ∀ b o, h.get? b = some o → h'.get? b = some o) : PairAt h' v n := by
  obtain ⟨x, ox, t1, t2, m, e1, e2, r⟩ := p
  exact ⟨x, ox, t1, t2, m, e1, k _ _ e2, r⟩
theorem asc_runs {cmp : Nat → Nat → (Bool → Shared → Prop) → Shared → Prop} {Q : Nat → Shared → Prop} {p : Array Nat} {s : Shared} : ∀ f n, (∀ k, n ≤ k → k < n + f → ∀ C : Bool → Shared → Prop, C false s → cmp (p.getD k 0) (p.getD (k - 1) 0) C s) → Q (n + f) s → (PySem.W.kas_asc p f n).kasWp cmp Q s
  | 0, n, _, q => q
  | f + 1, n, h, q => by
    show cmp (p.getD n 0) (p.getD (n - 1) 0) (fun b s' => (if b = true then PySem.W.KasT.ret n else PySem.W.kas_asc p f (n + 1)).kasWp cmp Q s') s
    refine h n (Nat.le_refl _) (by omega) _ ?_
    show (if false = true then PySem.W.KasT.ret n else PySem.W.kas_asc p f (n + 1)).kasWp cmp Q s
    rw [if_neg (by decide)]
    exact asc_runs f (n + 1) (fun k h1 h2 => h k (by omega) (by omega)) (by rwa [show n + 1 + f = n + (f + 1) by omega])
def PairsAt (h : Heap) : List Value → List (Int × Int) → Prop
  | [], [] => True
  | v :: vs, n :: ns => PairAt h v n ∧ PairsAt h vs ns
  | _, _ => False
theorem PairsAt.keep {h h' : Heap} (k : ∀ b o, h.get? b = some o → h'.get? b = some o) : ∀ {vs : List Value} {ns : List (Int × Int)}, PairsAt h vs ns → PairsAt h' vs ns
  | [], [], _ => trivial
  | _ :: _, _ :: _, ⟨a, b⟩ => ⟨a.keep k, PairsAt.keep k b⟩
theorem PairsAt.get {h : Heap} : ∀ {vs : List Value} {ns : List (Int × Int)} {i : Nat}, PairsAt h vs ns → (hi : i < vs.length) → ∃ n, ns[i]? = some n ∧ PairAt h (vs.getD i Value.none) n
  | [], [], i, _, hi => absurd hi (Nat.not_lt_zero _)
  | v :: vs, n :: ns, 0, ⟨a, _⟩, _ => ⟨n, rfl, a⟩
  | v :: vs, n :: ns, i + 1, ⟨_, b⟩, hi => by
    obtain ⟨m, e, p⟩ := PairsAt.get (i := i) b (Nat.lt_of_succ_lt_succ hi)
    exact ⟨m, e, p⟩
theorem PairsAt.tups {h : Heap} : ∀ {vs : List Value} {ns : List (Int × Int)}, PairsAt h vs ns → ∃ fs, PySem.W.KatTups h vs fs ∧ fs.length = vs.length ∧ ∀ v ∈ fs, ∃ i t, v = Value.int i t
  | [], [], _ => ⟨[], trivial, rfl, fun _ h => absurd h List.not_mem_nil⟩
  | v :: vs, n :: ns, ⟨⟨x, ox, t1, t2, m, e1, e2, e3, e4⟩, b⟩ => by
    obtain ⟨fs, k1, k2, k3⟩ := PairsAt.tups b
    refine ⟨.int n.1 t1 :: fs, ⟨⟨x, ox, _, m, e1, e2, e3, e4, rfl⟩, k1⟩, by simp [k2], fun u hu => ?_⟩
    rcases List.mem_cons.mp hu with z | z
    · exact ⟨_, _, z⟩
    · exact k3 u z
theorem zip_snd : ∀ l : List Value, (l.zip l).map (fun x => x.2) = l
  | [] => rfl
  | v :: l => by rw [List.zip_cons_cons, List.map_cons, zip_snd l]
theorem PairsAt.ne {h : Heap} {vs : List Value} {ns : List (Int × Int)} (p : PairsAt h vs ns) {a : Addr} (ha : h.objs.size ≤ a) : ∀ v ∈ vs, v ≠ .ref a := fun v hv z => by
  obtain ⟨i, hi, e⟩ := List.mem_iff_getElem.mp hv
  obtain ⟨n, _, x, ox, t1, t2, m, e1, e2, _⟩ := p.get (i := i) hi
  have e3 : vs.getD i Value.none = v := by rw [List.getD_eq_getElem?_getD, List.getElem?_eq_getElem hi, e]; rfl
  rw [e3, z] at e1
  cases e1
  exact absurd (Nat.lt_of_lt_of_le (Heap.lt_size e2) ha) (Nat.lt_irrefl _)
end
section
variable {X : Cx}
/-- values that are pairs of whole numbers -/
def PrsV (K : PySem.W.Frag) (H : Hp) : List V → List (Int × Int) → Prop
  | [], [] => True
  | v :: vs, n :: ns => (∃ t, v = .ref t ∧ SqT K H t [.int n.1, .int n.2]) ∧ PrsV K H vs ns
  | _, _ => False
theorem PrsV.at {pins : List (Addr × Obj)} {σ : St} {H : Hp} {s : Shared} (I : Inv X pins σ H s) : ∀ {vs : List V} {ns : List (Int × Int)} {us : List Value}, PrsV X.K H vs ns → Vals vs us → PairsAt s.heap us ns
  | [], [], _, _, .nil => trivial
  | v :: vs, n :: ns, _, ⟨⟨t, e, h⟩, b⟩, .cons r rs => by
    subst e
    cases r
    obtain ⟨its, rv, p, _⟩ := I.tuple h
    obtain ⟨u1, u2, e1, ⟨t1, r1⟩, ⟨t2, r2⟩⟩ := vals2 rv
    subst e1 r1 r2
    obtain ⟨o, ho, hc, m, hd⟩ := p
    exact ⟨⟨t, o, t1, t2, m, rfl, ho, hc, hd⟩, PrsV.at I b rs⟩
end
end L2
namespace L2
open PySem PySem.Spec PyProof.Rows
/-! ### sorted of tuples of whole numbers that rise already, however many; t[::-1] -/
section
variable {prog : Program} {w : World} {A : Around} {E : Value → Shared → Prop} {s : Shared}
def lexI : List Int → List Int → Bool
  | [], [] => false
  | [], _ :: _ => true
  | _ :: _, [] => false
  | a :: r, b :: t => if a = b then lexI r t else decide (a < b)
def TupAt (h : Heap) (k : Nat) (v : Value) (ns : List Int) : Prop := ∃ x ox us m, v = .ref x ∧ h.get? x = some ox ∧ ox.cls = .type "tuple" ∧ ox.data = .seq us m ∧ IntsAre us.toList ns ∧ ns.length = k + 1
theorem ints_len : ∀ {us : List Value} {ns : List Int}, IntsAre us ns → us.length = ns.length
  | _, _, .nil => rfl
  | _, _, .cons _ _ h => congrArg (· + 1) (ints_len h)
theorem minRun_le : ∀ (f n r : Nat), r ≤ 1 → minRun' f n r ≤ n + r
  | 0, n, r, _ => Nat.le_refl _
  | f + 1, n, r, h => by
    rw [minRun'_succ]
    split
    · exact Nat.le_refl _
    · have := minRun_le f (n / 2) (max r (n % 2)) (by omega)
      omega
theorem runs_asc {κ : SortKind} {it : Array Keyed} {n : Nat} {Q : Unit → SortSt → Shared → Prop} (h2 : 2 ≤ n) (h : ∀ k, 1 ≤ k → k < n → ∀ C : Bool → Shared → Prop, C false s → PySem.W.kas_cmp prog w A κ it k (k - 1) C s)
    (q : ∀ st' : SortSt, arrOf st' = (List.toArray (List.range n)).map (PySem.W.kas_item it) → failedOf st' = none → Q () st' s) : PySem.W.kasC (model prog w) A E sortRuns' Q (PySem.W.kas_st κ it (List.toArray (List.range n))) s := by
  obtain ⟨r, rfl⟩ : ∃ r, n = r + 2 := ⟨n - 2, by omega⟩
  have get : ∀ k, k < r + 2 → (List.toArray (List.range (r + 2))).getD k 0 = k := fun k hk => by simp [Array.getD, hk]
  have hrs : (List.toArray (List.range (r + 2))).size = r + 2 := by simp
  rw [sortRuns'_eq]
  refine PySem.W.kasC_bind (PySem.W.kasC_get ?_); dsimp only
  have hsz : (arrOf (PySem.W.kas_st κ it (List.toArray (List.range (r + 2))))).size = r + 2 := by
    show ((List.toArray (List.range (r + 2))).map (PySem.W.kas_item it)).size = _; rw [Array.size_map, hrs]
  have hmr := minRun_le (r + 2) (r + 2) 0 (by omega)
  simp only [hsz]
  generalize minRun' (r + 2) (r + 2) 0 = mr at hmr
  refine PySem.W.kasC_bind (PySem.W.kasC_range (show PySem.W.kasC _ _ _ (forIn (0 :: 1 :: List.range' 2 r) _ _) _ _ _ from PySem.W.kasC_cons ?_))
  dsimp only; rw [if_neg (by omega)]
  simp only [Nat.sub_zero, Nat.zero_add]
  have hc : (PySem.W.kas_count (r + 2) (List.toArray (List.range (r + 2)))).kasWp (PySem.W.kas_cmp prog w A κ it) (fun x s' => x = (r + 2, List.toArray (List.range (r + 2))) ∧ s' = s) s := by
    unfold PySem.W.kas_count
    rw [PySem.W.KasT.kasWp_bind]
    refine asc_runs (r + 2 - 1) 1 (fun k h1 h3 C c => ?_) ?_
    · rw [get k (by omega), get (k - 1) (by omega)]
      exact h k h1 (by omega) C c
    · have e : 1 + (r + 2 - 1) = r + 2 := by omega
      rw [e, if_pos (by simp)]
      exact ⟨rfl, rfl⟩
  refine PySem.W.kasC_bind (PySem.W.kas_count_ (by omega) (by rw [hrs]; exact Nat.le_refl _) (fun m p' s' hm1 hm2 hp hg => ?_) hc)
  obtain ⟨e1, rfl⟩ := hg
  cases e1
  dsimp only; rw [if_neg (by omega)]
  refine PySem.W.kasC_bind (PySem.W.kasC_get ?_); rw [show (pendingOf (PySem.W.kas_st κ it (List.toArray (List.range (r + 2))))).back? = none from rfl]
  dsimp only; refine PySem.W.kasC_bind (PySem.W.kasC_modify (PySem.W.kasC_pure (show PySem.W.kasC _ _ _ (forIn (1 :: List.range' 2 r) _ _) _ _ _ from PySem.W.kasC_cons ?_)))
  dsimp only; rw [if_pos (Nat.le_refl _)]
  refine PySem.W.kasC_pure ?_; dsimp only
  refine PySem.W.kasC_bind (PySem.W.kasC_range (show PySem.W.kasC _ _ _ (forIn (0 :: 1 :: List.range' 2 r) _ _) _ _ _ from PySem.W.kasC_cons (PySem.W.kasC_bind (PySem.W.kasC_get ?_))))
  rw [if_pos (show (pendingOf (setPending (PySem.W.kas_st κ it (List.toArray (List.range (r + 2)))) ((pendingOf (PySem.W.kas_st κ it (List.toArray (List.range (r + 2))))).push (0, r + 2, 0)))).size ≤ 1 from Nat.le_refl 1)]
  refine PySem.W.kasC_pure ?_; dsimp only
  exact PySem.W.kasC_pure (q _ rfl rfl)
theorem TupAt.keep {h h' : Heap} {k : Nat} {v : Value} {n : List Int} (p : TupAt h k v n) (kp : ∀ b o, h.get? b = some o → h'.get? b = some o) : TupAt h' k v n := by
  obtain ⟨x, ox, us, m, e1, e2, r⟩ := p
  exact ⟨x, ox, us, m, e1, kp _ _ e2, r⟩
def TupsAt (h : Heap) (k : Nat) : List Value → List (List Int) → Prop
  | [], [] => True
  | v :: vs, n :: ns => TupAt h k v n ∧ TupsAt h k vs ns
  | _, _ => False
theorem TupsAt.keep {h h' : Heap} {k : Nat} (kp : ∀ b o, h.get? b = some o → h'.get? b = some o) : ∀ {vs : List Value} {ns : List (List Int)}, TupsAt h k vs ns → TupsAt h' k vs ns
  | [], [], _ => trivial
  | _ :: _, _ :: _, ⟨a, b⟩ => ⟨a.keep kp, TupsAt.keep kp b⟩
theorem TupsAt.get {h : Heap} {k : Nat} : ∀ {vs : List Value} {ns : List (List Int)} {i : Nat}, TupsAt h k vs ns → (hi : i < vs.length) → ∃ n, ns[i]? = some n ∧ TupAt h k (vs.getD i Value.none) n
  | [], [], i, _, hi => absurd hi (Nat.not_lt_zero _)
  | v :: vs, n :: ns, 0, ⟨a, _⟩, _ => ⟨n, rfl, a⟩
  | v :: vs, n :: ns, i + 1, ⟨_, b⟩, hi => by
    obtain ⟨m, e, p⟩ := TupsAt.get (i := i) b (Nat.lt_of_succ_lt_succ hi)
    exact ⟨m, e, p⟩
theorem TupsAt.tups {h : Heap} {k : Nat} : ∀ {vs : List Value} {ns : List (List Int)}, TupsAt h k vs ns → ∃ fs, PySem.W.KatTups h vs fs ∧ fs.length = vs.length ∧ ∀ v ∈ fs, ∃ i t, v = Value.int i t
  | [], [], _ => ⟨[], trivial, rfl, fun _ h => absurd h List.not_mem_nil⟩
  | v :: vs, n :: ns, ⟨⟨x, ox, us, m, e1, e2, e3, e4, e5, e6⟩, b⟩ => by
    obtain ⟨fs, k1, k2, k3⟩ := TupsAt.tups b
    obtain ⟨f, t, e7⟩ : ∃ f t, us[0]? = some (Value.int f t) := by
      rw [← Array.getElem?_toList]
      generalize us.toList = l at e5
      cases e5 with
      | nil => simp at e6
      | cons a t _ => exact ⟨a, t, rfl⟩
    refine ⟨.int f t :: fs, ⟨⟨x, ox, us, m, e1, e2, e3, e4, e7⟩, k1⟩, by simp [k2], fun u hu => ?_⟩
    rcases List.mem_cons.mp hu with z | z
    · exact ⟨_, _, z⟩
    · exact k3 u z
theorem TupsAt.ne {h : Heap} {k : Nat} {vs : List Value} {ns : List (List Int)} (p : TupsAt h k vs ns) {a : Addr} (ha : h.objs.size ≤ a) : ∀ v ∈ vs, v ≠ .ref a := fun v hv z => by
  obtain ⟨i, hi, e⟩ := List.mem_iff_getElem.mp hv
  obtain ⟨n, _, x, ox, us, m, e1, e2, _⟩ := p.get (i := i) hi
  have e3 : vs.getD i Value.none = v := by rw [List.getD_eq_getElem?_getD, List.getElem?_eq_getElem hi, e]; rfl
  rw [e3, z] at e1
  cases e1
  exact absurd (Nat.lt_of_lt_of_le (Heap.lt_size e2) ha) (Nat.lt_irrefl _)
end
section
variable {X : Cx}
/-- values that are tuples of k + 1 whole numbers -/
def TpsV (K : PySem.W.Frag) (H : Hp) (k : Nat) : List V → List (List Int) → Prop
  | [], [] => True
  | v :: vs, n :: ns => (∃ t, v = .ref t ∧ SqT K H t (n.map V.int) ∧ n.length = k + 1) ∧ TpsV K H k vs ns
  | _, _ => False
theorem TpsV.at {pins : List (Addr × Obj)} {σ : St} {H : Hp} {s : Shared} {k : Nat} (I : Inv X pins σ H s) : ∀ {vs : List V} {ns : List (List Int)} {us : List Value}, TpsV X.K H k vs ns → Vals vs us → TupsAt s.heap k us ns
  | [], [], _, _, .nil => trivial
  | v :: vs, n :: ns, _, ⟨⟨t, e, h, hl⟩, b⟩, .cons r rs => by
    subst e
    cases r
    obtain ⟨its, rv, p, _⟩ := I.tuple h
    obtain ⟨o, ho, hc, m, hd⟩ := p
    exact ⟨⟨t, o, its.toArray, m, rfl, ho, hc, hd, intsAre_of rv, hl⟩, TpsV.at I b rs⟩
end
end L2
set_option maxHeartbeats 2000000
/-! ### pairs of whole numbers compared; len(set(list of texts)); rising tuples of whole numbers with a text behind -/
namespace L2
open PySem PySem.Spec PyProof.Rows
def ltP (a b c d : Int) : Bool := if a = c then decide (b < d) else decide (a < c)
section
variable {prog : Program} {w : World} {A : Around} {E : Value → Shared → Prop} {s : Shared}
theorem tup2_lt {p q : Addr} {ox oy : Obj} {mx my : Nat} {a b c d : Int} {t1 t2 t3 t4 : Tok} {P : PySem.Fin → Shared → Prop} (hox : s.heap.get? p = some ox) (hdx : ox.data = .seq #[.int a t1, .int b t2] mx)
    (hoy : s.heap.get? q = some oy) (hcy : oy.cls = .type "tuple") (hdy : oy.data = .seq #[.int c t3, .int d t4] my) (h : P (.done (.ret (.bool (ltP a b c d)))) s) :
    wpAny (model prog w) A (Builtin.«tuple.__lt__» ⟨[.ref p, .ref q], []⟩) P E s := by
  have hT : s.TypeIs (.ref q) "tuple" := ⟨oy, hoy, hcy⟩
  show wpAny _ _ (isInstance (.ref q) (.type "tuple") >>= fun b => _) _ _ s
  refine wpAny_bind (wpAny_isInstance (b := true) hT isSubtype_tuple_tuple ?_)
  simp only [Bool.not_true, Bool.false_eq_true, if_false]
  refine wpAny_bind (wpAny_tupleItemsOf hox hdx ?_)
  refine wpAny_bind (wpAny_tupleItemsOf hoy hdy ?_)
  refine wpAny_bind ?_
  show wpAny _ _ (forIn [(Value.int a t1, Value.int c t3), (Value.int b t2, Value.int d t4)] _ _) _ _ _
  rw [List.forIn_cons]
  refine wpAny_bind (wpAny_bind (wpAny_eqBool_int ?_))
  unfold ltP at h
  by_cases e : a = c
  · rw [if_pos e] at h
    rw [show (a == c) = true by simp [e]]
    simp only [Bool.not_true, Bool.false_eq_true, if_false]
    refine wpAny_pure ?_
    dsimp only
    rw [List.forIn_cons]
    refine wpAny_bind (wpAny_bind (wpAny_eqBool_int ?_))
    by_cases e2 : b = d
    · rw [show (b == d) = true by simp [e2]]
      simp only [Bool.not_true, Bool.false_eq_true, if_false]
      refine wpAny_pure ?_
      dsimp only
      rw [List.forIn_nil]
      refine wpAny_pure ?_
      dsimp only
      refine wpAny_pure ?_
      rw [decide_eq_false (by omega)] at h
      exact h
    · rw [show (b == d) = false by simp [e2]]
      simp only [Bool.not_false, if_true]
      refine wpAny_bind (wpAny_rule ?_)
      refine wpAny_bind (lt_int ?_)
      refine wpAny_bind (wpAny_pure ?_)
      refine wpAny_pure ?_
      dsimp only
      refine wpAny_pure ?_
      dsimp only
      exact wpAny_pure h
  · rw [if_neg e] at h
    rw [show (a == c) = false by simp [e]]
    simp only [Bool.not_false, if_true]
    refine wpAny_bind (wpAny_rule ?_)
    refine wpAny_bind (lt_int ?_)
    refine wpAny_bind (wpAny_pure ?_)
    refine wpAny_pure ?_
    dsimp only
    refine wpAny_pure ?_
    dsimp only
    exact wpAny_pure h
end
section
variable {X : Cx}
def rLtP (K : PySem.W.Frag) : R2 := fun x y H Q => ∃ p q a b c d, x = .ref p ∧ y = .ref q ∧ SqT K H p [.int a, .int b] ∧ SqT K H q [.int c, .int d] ∧ Q (.bl (ltP a b c d)) H
theorem two_ints {a b : Int} {us : List Value} (r : Vals [.int a, .int b] us) : ∃ t u, us = [.int a t, .int b u] := by
  cases r with
  | cons r1 r =>
    cases r with
    | cons r2 r =>
      cases r
      obtain ⟨t, rfl⟩ := r1
      obtain ⟨u, rfl⟩ := r2
      exact ⟨t, u, rfl⟩
theorem op_ltP {k : Nat} (K : PySem.W.Frag) (h : X.K = K) (hr : Room k X.A) : OpR X (compareOp .Lt) (rLtP K) := by
  subst h
  intro pins s σ H x y v u Q I rx ry h
  obtain ⟨p, q, a, b, c, d, rfl, rfl, hp, hq, r⟩ := h
  cases rx
  cases ry
  obtain ⟨xs, rvx, px, _⟩ := I.tuple hp
  obtain ⟨ys, rvy, py, _⟩ := I.tuple hq
  obtain ⟨ox, hox, hcx, mx, hdx⟩ := px
  obtain ⟨oy, hoy, hcy, my, hdy⟩ := py
  obtain ⟨t1, t2, rfl⟩ := two_ints rvx
  obtain ⟨t3, t4, rfl⟩ := two_ints rvy
  have hu := hr.units
  show wpAny _ _ (richCompare .Lt (.ref p) (.ref q)) _ _ s
  have hT : s.TypeIs (.ref p) "tuple" := ⟨ox, hox, hcx⟩
  refine wpAny_richCompare_same_room hT ⟨oy, hoy, hcy⟩ PySem.F.slot_tuple_lt (wpAny_call_entry PySem.F.slot_tuple_lt hT PySem.F.entry_tuple_lt (tup2_lt hox hdx hoy hcy hdy ⟨_, rfl, (fun z => nomatch z), ?_⟩) (PySem.F.args_tuple_lt_2 _ _)) (by omega)
  exact ⟨.bl _, H, I, rfl, r⟩
end
/-! ### sets of texts -/
def dd {α : Type} [DecidableEq α] : List α → List α → List α
  | σ, [] => σ
  | σ, x :: l => dd (if x ∈ σ then σ else σ ++ [x]) l
theorem dd_len {α : Type} [DecidableEq α] : ∀ (l σ : List α), (dd σ l).length ≤ σ.length + l.length
  | [], σ => Nat.le_refl _
  | x :: l, σ => by
    unfold dd
    have := dd_len l (if x ∈ σ then σ else σ ++ [x])
    split at this <;> rename_i z
    · rw [if_pos z, List.length_cons]; omega
    · rw [if_neg z, List.length_cons]; rw [List.length_append] at this; simp at this ⊢; omega
theorem dd_all {α : Type} [DecidableEq α] : ∀ (l σ : List α), (dd σ l).length = σ.length + l.length ↔ l.Nodup ∧ ∀ x ∈ l, x ∉ σ
  | [], σ => by simp [dd]
  | x :: l, σ => by
    unfold dd
    by_cases z : x ∈ σ
    · rw [if_pos z]
      have := dd_len l σ
      rw [List.length_cons]
      exact ⟨fun h => by omega, fun h => absurd z (h.2 x List.mem_cons_self)⟩
    · rw [if_neg z, List.length_cons]
      have h1 := dd_all l (σ ++ [x])
      rw [List.length_append, List.length_singleton, show σ.length + 1 + l.length = σ.length + (l.length + 1) by omega] at h1
      rw [h1, List.nodup_cons]
      constructor
      · rintro ⟨g1, g2⟩
        refine ⟨⟨fun q => g2 x q (by simp), g1⟩, fun u hu => ?_⟩
        rcases List.mem_cons.mp hu with q | q
        · rw [q]; exact z
        · exact fun q2 => g2 u q (List.mem_append_left _ q2)
      · rintro ⟨⟨g1, g2⟩, g3⟩
        refine ⟨g2, fun u hu q => ?_⟩
        rcases List.mem_append.mp q with q | q
        · exact g3 u (List.mem_cons_of_mem _ hu) q
        · rw [List.mem_singleton.mp q] at hu; exact g1 hu
theorem dd_snoc {α : Type} [DecidableEq α] : ∀ (l σ : List α) (x : α), dd σ (l ++ [x]) = if x ∈ dd σ l then dd σ l else dd σ l ++ [x]
  | [], σ, x => rfl
  | y :: l, σ, x => dd_snoc l _ x
section
variable {prog : Program} {w : World} {A : Around} {E : Value → Shared → Prop} {s : Shared}
abbrev SetT (prog : Program) (w : World) (h : Heap) (a : Addr) (l : List Str) : Prop := h.SetOf (strKind prog w) a (fun k => decide (k ∈ dd [] l)) (dd [] l).length
theorem SetT.frame {h h' : Heap} {a : Addr} {l : List Str} (x : SetT prog w h a l) (k : ∀ o, h.get? a = some o → h'.get? a = some o) : SetT prog w h' a l := by
  obtain ⟨o, es, ep, t, ho, r⟩ := x
  exact ⟨o, es, ep, t, k o ho, r⟩
theorem set_loop {R : Result → Shared → Prop} {I S : Addr} {fp wr : List Addr} {G : Array GenState → Array GenState → Prop} {P : Nat → Value → Prop} {St : Nat → Shared → Prop} {l : List Str}
    (W : WalksS prog w A.in1 I fp wr G l.length P St) (hS : S ∉ fp) (hP : ∀ i v, P i v → ∃ x t, l[i]? = some x ∧ v = .str x t) (hb : l.length + 1 < scanBound) :
    ∀ (k i : Nat) (s : Shared), l.length - i = k → i ≤ l.length → St i s → SetT prog w s.heap S (l.take i) → (∀ s', Moved (S :: wr) G s s' → SetT prog w s'.heap S l → R (.ok (.ret .none)) s') →
      codeAny (model prog w) A (.builtin "set.update.loop" ⟨[.ref S, .ref I], []⟩) R s := by
  have hSw : S ∉ wr := fun h => hS (W.sub _ h)
  have hmore : ∀ b ∈ wr, b ∈ S :: wr := fun b g => List.mem_cons_of_mem _ g
  intro k
  induction k with
  | zero =>
    intro i s hk hi hst hset hR
    obtain rfl : i = l.length := by omega
    rw [List.take_length] at hset
    refine codeAny_builtin PyProof.Rows.F.entry_set_update_loop ?_
    rw [Around.under_plainId PyProof.Rows.F.plain_set_update_loop _]
    show wpAny _ A.in1 (pyNext (.ref I) >>= fun r => _) _ _ s
    refine wpAny_bind (W.done s _ _ hst fun s' hm => ?_)
    exact wpAny_pure (hR s' (hm.mono hmore) (hset.frame fun o ho => hm.heap S o hSw ho))
  | succ k ih =>
    intro i s hk hi hst hset hR
    have hlt : i < l.length := by omega
    refine codeAny_builtin PyProof.Rows.F.entry_set_update_loop ?_
    rw [Around.under_plainId PyProof.Rows.F.plain_set_update_loop _]
    show wpAny _ A.in1 (pyNext (.ref I) >>= fun r => _) _ _ s
    refine wpAny_bind (W.item i s _ _ hlt hst fun v s' hp hst' hm => ?_)
    obtain ⟨x, t, hx, rfl⟩ := hP i v hp
    have hset' : SetT prog w s'.heap S (l.take i) := hset.frame fun o ho => hm.heap S o hSw ho
    show wpAny _ A.in1 (holding [Value.str x t] (setAdd S (.str x t)) >>= fun b => _) _ _ s'
    refine wpAny_bind (wpAny_holding ?_)
    unfold setAdd
    refine wpAny_holding (wpAny_bind ((strKind prog w).pyHash (k := x) (by simp [PySem.strKind, Value.isStrOf]) ?_))
    have hle := dd_len (l.take i) ([] : List Str)
    rw [List.length_take] at hle
    refine wpAny_setAddHashed_of (knd := strKind prog w) (s := { s' with toks := s'.toks + 1 }) (k := x) (by simp [PySem.strKind, Value.isStrOf]) rfl hset' (by simp at hle; omega) fun h' hsb hset2 => ?_
    have hnext : SetT prog w h' S (l.take (i + 1)) := by
      have e1 : l.take (i + 1) = l.take i ++ [x] := by rw [List.take_add_one, hx]; rfl
      unfold SetT
      rw [e1, dd_snoc]
      refine PyProof.Rows.SetOf_congr hset2 (fun y => ?_) ?_
      · by_cases z : x ∈ dd [] (l.take i)
        · rw [if_pos z]
          by_cases u : y = x
          · rw [u, decide_eq_true z, Bool.true_or]
          · rw [decide_eq_false u, Bool.or_false]
        · rw [if_neg z]
          by_cases u : y = x
          · rw [u, decide_eq_true (show x = x from rfl), Bool.or_true, decide_eq_true (by simp)]
          · rw [decide_eq_false u, Bool.or_false]
            exact decide_eq_decide.mpr ⟨fun q => List.mem_append_left _ q, fun q => (List.mem_append.mp q).resolve_right fun q => u (List.mem_singleton.mp q)⟩
      · by_cases z : x ∈ dd [] (l.take i)
        · rw [if_pos z, if_pos (decide_eq_true z)]
        · rw [if_neg z, if_neg (by simpa using z), List.length_append]; rfl
    refine wpAny_pure ⟨plainId_quiet PyProof.Rows.F.plain_set_update_loop _, ih (i + 1) _ (by omega) hlt (W.frame _ s' _ _ hst' (Nat.le_succ _) fun b g o e => ?_) hnext fun s'' hm'' hs'' => ?_⟩
    · rw [hsb.2 b fun z : b = S => hS (z ▸ g)]; exact e
    · refine hR s'' (Moved.trans W.gtrans ((hm.mono hmore).then_heap (Nat.le_succ _) fun b o g e => ?_) hm'') hs''
      rw [hsb.2 b fun z : b = S => g (z ▸ List.mem_cons_self)]; exact e
end
section
variable {prog : Program} {w : World} {A : Around} {E : Value → Shared → Prop} {s : Shared}
theorem strs_item : ∀ {vs : List Value} {xs : List Str}, StrsAre vs xs → ∀ (i : Nat) (v : Value), vs[i]? = some v → ∃ x t, xs[i]? = some x ∧ v = .str x t
  | _, _, .nil, i, v, h => by simp at h
  | _, _, .cons y t r, 0, v, h => by simp at h; exact ⟨y, t, rfl, h.symm⟩
  | _, _, .cons y t r, i + 1, v, h => by
    obtain ⟨x, u, e1, e2⟩ := strs_item r i v (by simpa using h)
    exact ⟨x, u, by simpa using e1, e2⟩
/-- a set that is new -/
def set0 (led : Bool) : Obj := { cls := .type "set", dict := none, data := .set #[] 0 (.fresh 0 0 led) }
theorem set_init {R : Result → Shared → Prop} {l S : Addr} {items : Array Value} {xs : List Str} {led : Bool} (hh : A.handled = none) (hS : s.heap.get? S = some (set0 led)) (hl : s.heap.IsList l items) (hi : StrsAre items.toList xs) (hb : xs.length + 1 < scanBound)
    (h : ∀ (h' : Heap) (tk : Nat), SetT prog w h' S xs → (∀ b o, b ≠ S → b < s.heap.objs.size → s.heap.get? b = some o → h'.get? b = some o) → R (.ok (.ret .none)) { s with heap := h', toks := tk }) :
    wpAny (model prog w) A.in1 (Builtin.«set.__init__» ⟨[.ref S, .ref l], []⟩) (fun fin s' => match fin with | .done f => R (.ok f) s' | .again c' => c'.quiet = true ∧ codeAny (model prog w) A c' R s') (fun e s' => R (.error e) s') s := by
  obtain ⟨ol, hol, hcl, nl, hdl⟩ := id hl
  have hlt := Heap.lt_size hol
  have hSt := Heap.lt_size hS
  have hT : s.TypeIs (.ref l) "list" := ⟨ol, hol, hcl⟩
  have hne : l ≠ S := fun z => by rw [z, hS] at hol; cases hol; exact absurd hcl (by unfold set0; simp)
  have z1 := PySem.F.sub_list_set
  have z2 := PySem.F.sub_list_frozenset
  have z3 : (Value.type "list" == Value.type "dict") = false := by decide
  obtain ⟨ocls, odict, odata, oslots⟩ := ol
  simp only at hcl hdl
  subst hcl hdl
  have hol' := hol
  unfold Builtin.«set.__init__» noKeywords Builtin.Frozenset.updateFrom
  generalize hPI : pyIter = PI
  unfold set0 at hS
  wp_walk
  subst hPI
  refine wpAny_pyIter_list hl ?_
  refine wpAny_bind (wpAny_runValue ?_)
  have hlen : items.size = xs.length := by rw [← Array.length_toList]; exact hi.length
  have hneI : l ≠ s.heap.objs.size := Nat.ne_of_lt hlt
  have hSI : S ∉ [s.heap.objs.size, l] := fun hm => by
    rcases List.mem_cons.mp hm with z | z
    · exact absurd z (Nat.ne_of_lt hSt)
    · exact hne (List.mem_singleton.mp z).symm
  have W := (Walks.list (prog := prog) (w := w) (A := A.in1.in1) (show A.in1.in1.handled = none from hh) s.heap.objs.size l hneI items).toS
  rw [hlen] at W
  have hit : (s.heap.push { cls := .type "list_iterator", data := .fields #[.ref l, .int 0 0] }).get? s.heap.objs.size = some { cls := .type "list_iterator", data := .fields #[.ref l, .int 0 0] } := Heap.get?_push_size _ rfl
  refine set_loop (A := A.in1) (l := xs) W hSI (fun i v hv => ?_) hb (xs.length - 0) 0 { s with heap := s.heap.push { cls := .type "list_iterator", data := .fields #[.ref l, .int 0 0] } } rfl (Nat.zero_le _) ⟨⟨_, hit, rfl, rfl⟩, hl.push _⟩ ?_ fun s' hm hset => ?_
  · exact strs_item hi i v (by rw [Array.getElem?_toList]; exact hv)
  · have hS2 := Heap.get?_push_of_some { cls := .type "list_iterator", data := .fields #[.ref l, .int 0 0] } hS
    exact PyProof.Rows.SetOf_congr ((PyProof.Rows.setObjOf_fresh (knd := PySem.strKind prog w) led).setOf hS2 (by unfold scanBound; omega)) (fun k => by rw [List.take_zero]; rfl) rfl
  · obtain ⟨h', g', d', tk', os'⟩ := s'
    obtain rfl : g' = s.gens := hm.gens
    obtain rfl : d' = s.drawn := hm.drawn
    obtain rfl : os' = s.os := hm.os
    refine wpAny_pure (wpAny_pure (h h' tk' hset fun b o hb hlt2 e => ?_))
    exact hm.heap b o (fun hmem => by
      rcases List.mem_cons.mp hmem with z | z
      · exact hb z
      · exact absurd (List.mem_singleton.mp z) (Nat.ne_of_lt hlt2)) (Heap.get?_push_of_some _ e)
theorem call_setT {l : Addr} {items : Array Value} {xs : List Str} {Q : Value → Shared → Prop} (hh : A.handled = none) (hl : s.heap.IsList l items) (hi : StrsAre items.toList xs) (hb : xs.length + 1 < scanBound)
    (h : ∀ (h' : Heap) (tk : Nat), SetT prog w h' s.heap.objs.size xs → (∀ b o, s.heap.get? b = some o → h'.get? b = some o) → Q (.ref s.heap.objs.size) { s with heap := h', toks := tk }) :
    wpAny (model prog w) A (call (.type "set") [.ref l]) Q E s := by
  obtain ⟨c, tl, hmro⟩ := PySem.F.called_set.mro
  have hmade := PySem.F.called_set.made
  have hsub := PySem.F.called_set.sub
  have g1 := PySem.F.called_set.notType
  have g2 := PySem.F.called_set.canCreate
  have g3 := PySem.F.typeCall_set_1 (.ref l)
  refine wpAny_call (codeAny_of_tree ?_)
  show wpAny _ _ (callAny (.type "set") ⟨[.ref l], []⟩) _ _ _
  refine wpAny_pure ⟨Code.quiet_builtin _ (by decide +kernel), codeAny_builtin PySem.F.entry_type_call ?_⟩
  rw [Around.under_plain (weight_type_call_type "set" [.ref l] []) rfl]
  repeat (any_goals (first | wp_step | assumption))
  refine codeAny_mono (code_set_new_1 (.ref l) (E := E) (Q₁ := fun v s₁ => ∃ led : Bool, v = .ref s.heap.objs.size ∧ s₁ = { s with heap := s.heap.push (set0 led) }) fun led => ⟨led, rfl, rfl⟩) fun r s₁ hr => ?_
  cases r with
  | error e => exact hr
  | ok fl =>
    cases fl with
    | next => exact hr.elim
    | brk => exact hr.elim
    | cont => exact hr.elim
    | ret v =>
      obtain ⟨led, rfl, rfl⟩ := hr
      have hS : (s.heap.push (set0 led)).get? s.heap.objs.size = some (set0 led) := Heap.get?_push_size _ rfl
      have hT : Shared.TypeIs { s with heap := s.heap.push (set0 led) } (.ref s.heap.objs.size) "set" := ⟨_, hS, rfl⟩
      have g4 := PySem.F.called_set.init.lookup
      have g5 := PySem.F.called_set.init.bind (.ref s.heap.objs.size)
      repeat (any_goals (first | wp_step | assumption))
      refine codeAny_mono (codeAny_call_builtin (R := wants (fun v s₂ => v = .none ∧ ∃ h' tk, s₂ = { s with heap := h', toks := tk } ∧ SetT prog w h' s.heap.objs.size xs ∧ ∀ b o, s.heap.get? b = some o → h'.get? b = some o) E) PySem.F.called_set.init.plain PySem.F.entry_set_init (check_set_init_1 hT ?_)) fun r₂ s₂ hr₂ => ?_
      · refine set_init (s := { s with heap := s.heap.push (set0 led) }) hh hS (hl.push _) hi hb fun h' tk hset hk => ⟨rfl, h', tk, rfl, hset, fun b o e => ?_⟩
        have hlt := Heap.lt_size e
        exact hk b o (Nat.ne_of_lt hlt) (by show b < (s.heap.push (set0 led)).objs.size; rw [Heap.size_push]; exact Nat.lt_succ_of_lt hlt) (Heap.get?_push_of_some _ e)
      · cases r₂ with
        | error e => exact hr₂
        | ok fl₂ =>
          cases fl₂ with
          | next => exact hr₂.elim
          | brk => exact hr₂.elim
          | cont => exact hr₂.elim
          | ret v =>
            obtain ⟨rfl, h', tk, rfl, k1, k2⟩ := hr₂
            repeat (any_goals (first | wp_step | assumption))
            exact h _ _ k1 k2
end
section
variable {X : Cx}
/-- a set of n things -/
def setO (q : Addr) (n : Nat) : HO := .ext fun h => ∃ (o : Obj) (es : Array (Int × Value)) (ep : Nat) (t : SetTable), h.get? q = some o ∧ o.ExactSet ∧ o.data = .set es ep t ∧ t.fits es.size = true ∧ es.size = n
def rSetS (K : PySem.W.Frag) : List V → Hp → VK → Prop := fun xs H Q => ∃ (p : Addr) (l : List (List Nat)), xs = [.ref p] ∧ SqL K H p (l.map fun c => V.str (S c)) ∧ l.length ≤ 20 ∧ ∀ q, H q = none → Q (.ref q) (upd H q (setO q (dd [] (l.map S)).length))
theorem call_setS (K : PySem.W.Frag) (h : X.K = K) (hc : X.calm = true) : CallR X (.type "set") (rSetS K) := by
  subst h
  intro pins s σ H xs us Q I r h
  obtain ⟨p, l, rfl, hq, hz, q⟩ := h
  obtain ⟨u, rfl, ru⟩ := vals1 r
  cases ru
  obtain ⟨its, rv, pl, _⟩ := I.list hq
  refine call_setT (I.ok.hd hc) pl.isList (by simpa using strsAre_of rv) (by rw [List.length_map]; unfold scanBound; omega) fun h' tk hset hk => ?_
  refine ⟨.ref s.heap.objs.size, upd H s.heap.objs.size (setO _ _), I.laid (t' := tk) hk (Nat.le_refl _) ?_, rfl, q _ I.fresh⟩
  obtain ⟨o, es, ep, t, ho, hex, hd, _, _, _, hf, hn⟩ := hset
  exact ⟨⟨o, es, ep, t, ho, hex, hd, hf, hn⟩, ⟨_, ho⟩, fun h1 h2 ⟨o, es, ep, t, ho, r⟩ k => ⟨o, es, ep, t, k o ho, r⟩⟩
theorem call_lenSet : CallR X (.builtin "len") (fun xs H Q => ∃ a n, xs = [V.ref a] ∧ H a = some (setO a n) ∧ n ≤ 1000 ∧ Q (.int n) H) := by
  intro pins s σ H xs us Q I r h
  obtain ⟨a, n, rfl, ha, hz, q⟩ := h
  obtain ⟨u, rfl, ru⟩ := vals1 r
  cases ru
  obtain ⟨hv, _, _⟩ : ObjOk X.prog X.w H s.heap a (setO a n) := I.hok a _ ha
  obtain ⟨o, es, ep, t, ho, hex, hd, hf, hn⟩ : ∃ (o : Obj) (es : Array (Int × Value)) (ep : Nat) (t : SetTable), s.heap.get? a = some o ∧ o.ExactSet ∧ o.data = .set es ep t ∧ t.fits es.size = true ∧ es.size = n := hv
  refine call_len_set ho hex hd hf (by omega) ?_
  rw [hn]
  exact ⟨.int n, H, I.tok _, ⟨_, rfl⟩, q⟩
end
end L2
/-! ### sorted of rising tuples of whole numbers with a text behind; repr of longer lists -/
namespace L2
open PySem PySem.Spec PyProof.Rows
section
variable {prog : Program} {w : World} {A : Around} {E : Value → Shared → Prop} {s : Shared}
/-- a tuple of k + 1 whole numbers and a text -/
def TuxAt (h : Heap) (k : Nat) (v : Value) (ns : List Int) : Prop := ∃ x ox us m is z t, v = .ref x ∧ h.get? x = some ox ∧ ox.cls = .type "tuple" ∧ ox.data = .seq us m ∧ us.toList = is ++ [.str z t] ∧ IntsAre is ns ∧ ns.length = k + 1
theorem lex_pre {Q : Bool → Shared → Prop} {ta tb : List Value} : ∀ {us vs : List Value} {ns ms : List Int} {i : Nat}, IntsAre us ns → IntsAre vs ms → ns.length = ms.length → ns ≠ ms → Q (lexI ns ms) s → PySem.W.KatLex prog w A true false Q ((us ++ ta).zip (vs ++ tb)) i s
  | _, _, _, _, i, .nil, .nil, _, z, _ => absurd rfl z
  | _, _, _, _, i, .nil, .cons _ _ _, h, _, _ => by simp at h
  | _, _, _, _, i, .cons _ _ _, .nil, h, _, _ => by simp at h
  | _, _, _, _, i, .cons (ns := ns) a t1 h1, .cons (ns := ms) b t2 h2, h, z, q => by
    refine PySem.W.kat_cons (wpAny_eqBool_int ?_)
    have hl : ns.length = ms.length := by simpa using h
    have q' : Q (if a = b then lexI ns ms else decide (a < b)) s := q
    by_cases e : a = b
    · rw [show (a == b) = true by simp [e]]
      rw [if_pos e] at q'
      exact PySem.W.kat_yes (lex_pre h1 h2 hl (fun g => z (by rw [e, g])) q')
    · rw [show (a == b) = false by simp [e]]
      rw [if_neg e] at q'
      refine PySem.W.kat_no ?_
      by_cases y : i = 0
      · subst y
        exact PySem.W.kat_lt_int (E := fun _ _ => False) q'
      · rw [show (true && (i == 0)) = false by simp [y]]
        exact PySem.W.kat_one _ _ (lt_int q')
theorem tux_lt {k : Nat} {u v : Value} {a c : List Int} {Q : Bool → Shared → Prop} (hx : TuxAt s.heap k u a) (hy : TuxAt s.heap k v c) (hne : a ≠ c) (q : Q (lexI a c) s) : wpAny (model prog w) A (keyLt' (tuples' true) u v) Q E s := by
  obtain ⟨x, ox, us, n, i1, z1, t1, rfl, gx, _, dx, ex, ix, lx⟩ := hx
  obtain ⟨y, oy, vs, m, i2, z2, t2, rfl, gy, _, dy, ey, iy, ly⟩ := hy
  have e1 := ints_len ix
  have e2 := ints_len iy
  refine PySem.W.kat_lt gx dx gy dy ?_
  rw [show decide (us.size < vs.size) = false from decide_eq_false (by rw [← Array.length_toList, ← Array.length_toList, ex, ey, List.length_append, List.length_append]; simp; omega)]
  rw [ex, ey]
  exact lex_pre ix iy (by omega) hne q
theorem TuxAt.keep {h h' : Heap} {k : Nat} {v : Value} {n : List Int} (p : TuxAt h k v n) (kp : ∀ b o, h.get? b = some o → h'.get? b = some o) : TuxAt h' k v n := by
  obtain ⟨x, ox, us, m, i1, z1, t1, e1, e2, r⟩ := p
  exact ⟨x, ox, us, m, i1, z1, t1, e1, kp _ _ e2, r⟩
def TuxsAt (h : Heap) (k : Nat) : List Value → List (List Int) → Prop
  | [], [] => True
  | v :: vs, n :: ns => TuxAt h k v n ∧ TuxsAt h k vs ns
  | _, _ => False
theorem TuxsAt.keep {h h' : Heap} {k : Nat} (kp : ∀ b o, h.get? b = some o → h'.get? b = some o) : ∀ {vs : List Value} {ns : List (List Int)}, TuxsAt h k vs ns → TuxsAt h' k vs ns
  | [], [], _ => trivial
  | _ :: _, _ :: _, ⟨a, b⟩ => ⟨a.keep kp, TuxsAt.keep kp b⟩
theorem TuxsAt.get {h : Heap} {k : Nat} : ∀ {vs : List Value} {ns : List (List Int)} {i : Nat}, TuxsAt h k vs ns → (hi : i < vs.length) → ∃ n, ns[i]? = some n ∧ TuxAt h k (vs.getD i Value.none) n
  | [], [], i, _, hi => absurd hi (Nat.not_lt_zero _)
  | v :: vs, n :: ns, 0, ⟨a, _⟩, _ => ⟨n, rfl, a⟩
  | v :: vs, n :: ns, i + 1, ⟨_, b⟩, hi => by
    obtain ⟨m, e, p⟩ := TuxsAt.get (i := i) b (Nat.lt_of_succ_lt_succ hi)
    exact ⟨m, e, p⟩
theorem TuxsAt.tups {h : Heap} {k : Nat} : ∀ {vs : List Value} {ns : List (List Int)}, TuxsAt h k vs ns → ∃ fs, PySem.W.KatTups h vs fs ∧ fs.length = vs.length ∧ ∀ v ∈ fs, ∃ i t, v = Value.int i t
  | [], [], _ => ⟨[], trivial, rfl, fun _ h => absurd h List.not_mem_nil⟩
  | v :: vs, n :: ns, ⟨⟨x, ox, us, m, i1, z1, t1, e1, e2, e3, e4, e0, e5, e6⟩, b⟩ => by
    obtain ⟨fs, k1, k2, k3⟩ := TuxsAt.tups b
    obtain ⟨f, t, e7⟩ : ∃ f t, us[0]? = some (Value.int f t) := by
      rw [← Array.getElem?_toList, e0]
      clear e0
      cases e5 with
      | nil => simp at e6
      | cons a t _ => exact ⟨a, t, rfl⟩
    refine ⟨.int f t :: fs, ⟨⟨x, ox, us, m, e1, e2, e3, e4, e7⟩, k1⟩, by simp [k2], fun u hu => ?_⟩
    rcases List.mem_cons.mp hu with z | z
    · exact ⟨_, _, z⟩
    · exact k3 u z
theorem TuxsAt.ne {h : Heap} {k : Nat} {vs : List Value} {ns : List (List Int)} (p : TuxsAt h k vs ns) {a : Addr} (ha : h.objs.size ≤ a) : ∀ v ∈ vs, v ≠ .ref a := fun v hv z => by
  obtain ⟨i, hi, e⟩ := List.mem_iff_getElem.mp hv
  obtain ⟨n, _, x, ox, us, m, i1, z1, t1, e1, e2, _⟩ := p.get (i := i) hi
  have e3 : vs.getD i Value.none = v := by rw [List.getD_eq_getElem?_getD, List.getElem?_eq_getElem hi, e]; rfl
  rw [e3, z] at e1
  cases e1
  exact absurd (Nat.lt_of_lt_of_le (Heap.lt_size e2) ha) (Nat.lt_irrefl _)
theorem list_sort_ascX {a : Addr} {vs : List Value} {ns : List (List Int)} {k n : Nat} {P : PySem.Fin → Shared → Prop} (ho : s.heap.get? a = some (seqObj "list" vs.toArray n)) (hp : TuxsAt s.heap k vs ns) (hna : ∀ v ∈ vs, v ≠ .ref a) (hs : ∀ k x y, ns[k]? = some x → ns[k + 1]? = some y → lexI y x = false ∧ y ≠ x) (hsz : vs.length ≤ sizeLine)
    (q : P (.done (.ret .none)) { s with heap := sortedHeap s.heap a vs vs.toArray }) : wpAny (model prog w) A (Builtin.«list.sort» ⟨[.ref a], []⟩) P E s := by
  rw [list_sort_plain]
  have ha : a < s.heap.objs.size := Heap.lt_size ho
  refine wpAny_bind (listItems_at ho rfl (wpAny_bind (listUpdate_at ho rfl ?_ (by rw [List.size_toArray]; omega) (Nat.zero_le _))))
  obtain ⟨e1, ho1⟩ : ∃ e1, (s.heap.update a (Obj.mapSeq fun _ => #[])).get? a = some (seqObj "list" #[] e1) := ⟨_, get?_update_seq ho (fun _ => #[])⟩
  refine wpAny_bind (seqEpoch_at ho1 rfl (wpAny_bind (wpAny_newTuple (wpAny_bind (wpAny_newList (wpAny_holding ?_) (Nat.zero_le _))) (by show vs.length ≤ _; omega))))
  generalize hH : ((s.heap.update a (Obj.mapSeq fun _ => (#[] : Array Value))).push (seqObj "tuple" vs.toArray 0)).push (seqObj "list" #[] 0) = H2
  have ho6 : H2.get? a = some (seqObj "list" #[] e1) := by
    rw [← hH]
    exact Heap.get?_push_of_some _ (Heap.get?_push_of_some _ ho1)
  have keep : ∀ b o, b ≠ a → s.heap.get? b = some o → H2.get? b = some o := fun b o hb e => by
    rw [← hH]
    exact Heap.get?_push_of_some _ (Heap.get?_push_of_some _ ((Heap.get?_update_other s.heap _ (Ne.symm hb)).trans e))
  have hp2 : TuxsAt H2 k vs ns := by
    clear q hsz hs hH ho
    revert ns
    induction vs with
    | nil => intro ns hp; cases ns with
      | nil => trivial
      | cons _ _ => exact hp.elim
    | cons v vs ih =>
      intro ns hp
      cases ns with
      | nil => exact hp.elim
      | cons n ns =>
        obtain ⟨⟨x, ox, us, m, i1, z1, t1, rfl, g2, g3⟩, b⟩ := hp
        exact ⟨⟨x, ox, us, m, i1, z1, t1, rfl, keep x ox (fun z => hna _ List.mem_cons_self (by rw [z])) g2, g3⟩, ih (fun u hu => hna u (List.mem_cons_of_mem _ hu)) b⟩
  have fin : ∀ st : SortSt, (arrOf st).map (·.2) = vs.toArray → failedOf st = none → wpAny (model prog w) A (do { let touched := (← seqEpoch a) != e1; Builtin.List.listUpdate (.ref a) (fun _ => (arrOf st).map (·.2)); if let some e := failedOf st then { rule "list.sort.comparison-raised"; throw e }; if touched then { rule "list.sort.modified"; raiseError "ValueError" "list modified during sort" }; ret .none }) P E { s with heap := H2 } := fun st e0 e2 => by
    rw [e0, e2]
    refine wpAny_bind (seqEpoch_at ho6 rfl (wpAny_bind (listUpdate_at ho6 rfl ?_ (Nat.zero_le _) (by rw [List.size_toArray]; omega))))
    simp only [bne_self_eq_false, Bool.false_eq_true, if_false]
    refine wpAny_pure ?_
    have e3 : sortedHeap s.heap a vs vs.toArray = H2.update a (Obj.mapSeq fun _ => vs.toArray) := by unfold sortedHeap; rw [hH]
    rw [e3] at q
    exact q
  show wpAny (model prog w) A _ P E { s with heap := H2 }
  dsimp only
  by_cases h2 : vs.toArray.size < 2
  · rw [if_pos h2, if_pos h2]
    refine wpAny_bind (wpAny_pure ?_)
    rw [StateT.run_pure]
    refine wpAny_bind (wpAny_pure ?_)
    exact fin (SortSt.mk' general' (vs.toArray.zip vs.toArray) #[] 7 none) (by show (vs.toArray.zip vs.toArray).map (·.2) = vs.toArray; apply Array.toList_inj.mp; simp; exact zip_snd vs) rfl
  · have h2' : 2 ≤ vs.length := by rw [List.size_toArray] at h2; omega
    rw [if_neg h2, if_neg h2]
    obtain ⟨fs, k1, k2, k3⟩ := hp2.tups
    refine wpAny_bind (PySem.W.kat_kind (s := { s with heap := H2 }) (T := .type "int") k1 (by omega) (fun v hv => by obtain ⟨i, t, rfl⟩ := k3 v hv; exact PySem.W.Looks.of_pure rfl) (by rfl) ?_)
    have est : SortSt.mk' (tuples' (Value.type "int" != Value.type "tuple")) (vs.toArray.zip vs.toArray) #[] 7 none = PySem.W.kas_st (tuples' true) (vs.toArray.zip vs.toArray) (List.toArray (List.range vs.length)) := by
      have e := PySem.W.kas_range (vs.toArray.zip vs.toArray)
      rw [show (vs.toArray.zip vs.toArray).size = vs.length by simp] at e
      show SortSt.mk' (tuples' true) (vs.toArray.zip vs.toArray) #[] 7 none = SortSt.mk' (tuples' true) ((List.toArray (List.range vs.length)).map (PySem.W.kas_item (vs.toArray.zip vs.toArray))) #[] 7 none
      rw [e]
    rw [est]
    have run := runs_asc (prog := prog) (w := w) (A := A) (E := E) (s := { s with heap := H2 }) (κ := tuples' true) (it := vs.toArray.zip vs.toArray) (n := vs.length) (Q := fun _ st' s' => s' = { s with heap := H2 } ∧ (arrOf st').map (·.2) = vs.toArray ∧ failedOf st' = none) h2' (fun j g1 g2 C c => by
      rw [← PySem.W.kat_ask_eq rfl]
      obtain ⟨x, ex, px⟩ := hp2.get (i := j) g2
      obtain ⟨y, ey, py⟩ := hp2.get (i := j - 1) (by omega)
      obtain ⟨f1, f2⟩ := hs (j - 1) y x ey (by rw [show j - 1 + 1 = j by omega]; exact ex)
      refine tux_lt (s := { s with heap := H2 }) px py f2 ?_
      rw [f1]
      exact c) (fun st' a2 a3 => by
      refine ⟨rfl, ?_, a3⟩
      rw [PySem.W.kat_snds rfl a2]
      apply Array.toList_inj.mp
      show (List.range vs.length).map (fun i => vs.getD i Value.none) = vs
      refine List.ext_getElem (by simp) fun i g1 g2 => ?_
      simp
      rw [List.getElem?_eq_getElem g2]
      rfl)
    refine wpAny_bind (wpAny_mono run ?_ fun _ _ e => e)
    rintro ⟨⟨⟩, st'⟩ s' ⟨rfl, g1, g2⟩
    exact fin st' g1 g2
theorem sorted_ascX {tp : Addr} {T : String} {o : Obj} {vs : List Value} {ns : List (List Int)} {k n : Nat} {Q : Value → Shared → Prop} (hT : T = "list" ∨ T = "tuple") (ho : s.heap.get? tp = some o) (hc : o.cls = .type T) (hd : o.data = .seq vs.toArray n) (hp : TuxsAt s.heap k vs ns)
    (hs : ∀ k x y, ns[k]? = some x → ns[k + 1]? = some y → lexI y x = false ∧ y ≠ x) (hsz : vs.length ≤ sizeLine)
    (q : ∀ (h1 h' : Heap) (a : Addr) (e : Nat), (∀ b o, s.heap.get? b = some o → h1.get? b = some o) → (∀ b o, h1.get? b = some o → h'.get? b = some o) → a = h1.objs.size → h'.get? a = some (seqObj "list" vs.toArray e) → Q (.ref a) { s with heap := h' }) :
    wpAny (model prog w) A (call (.builtin "sorted") [.ref tp]) Q E s := by
  refine Calls.call_function_entry kind_sorted plain_sorted entry_sorted (args_sorted1 _) ?_
  unfold Builtin.«sorted»
  refine wpAny_bind (m := checkCount "sorted" 1 1 _) (wpAny_pure (wpAny_bind (wpAny_collect_seq tp hT ho hc hd (fun h1 k1 => ?_) (by rw [List.size_toArray]; omega))))
  refine wpAny_bind (wpAny_newList ?_ (by show vs.length ≤ _; omega))
  have hoL : (h1.push (seqObj "list" vs.toArray 0)).get? h1.objs.size = some (seqObj "list" vs.toArray 0) := Heap.get?_push_size _ rfl
  show wpAny _ _ _ _ _ { s with heap := h1.push (seqObj "list" vs.toArray 0) }
  have hp1 := hp.keep (h' := h1) k1
  have hp2 := hp1.keep (h' := h1.push (seqObj "list" vs.toArray 0)) fun b o e => Heap.get?_push_of_some _ e
  refine wpAny_bind (wpAny_holding (wpAny_call_entry slot_list_sort ⟨_, hoL, rfl⟩ entry_list_sort (list_sort_ascX (s := { s with heap := h1.push (seqObj "list" vs.toArray 0) }) hoL hp2 (hp1.ne (Nat.le_refl _)) hs hsz ⟨_, rfl, ?_⟩) (args_list_sort _)))
  obtain ⟨e, he⟩ := sortedHeap_at (out := vs.toArray) hoL
  refine wpAny_pure ⟨_, rfl, q h1 _ _ e k1 (fun b o hb => ?_) rfl he⟩
  have hlt := Heap.lt_size hb
  rw [sortedHeap_old (Nat.ne_of_lt hlt) (by rw [size_push']; exact Nat.lt_succ_of_lt hlt)]
  exact Heap.get?_push_of_some _ hb
end
section
variable {X : Cx}
theorem ints_text : ∀ {ns : List Int} {z : Str} {us : List Value}, Vals (ns.map V.int ++ [.str z]) us → ∃ is t, us = is ++ [.str z t] ∧ IntsAre is ns
  | [], z, _, .cons r .nil => by
    obtain ⟨t, rfl⟩ := r
    exact ⟨[], t, rfl, .nil⟩
  | n :: ns, z, _, .cons r rs => by
    obtain ⟨u, rfl⟩ := r
    obtain ⟨is, t, e, h⟩ := ints_text rs
    exact ⟨.int n u :: is, t, by rw [e]; rfl, .cons n u h⟩
/-- values that are tuples of k + 1 whole numbers and a text -/
def TxsV (K : PySem.W.Frag) (H : Hp) (k : Nat) : List V → List (List Int) → Prop
  | [], [] => True
  | v :: vs, n :: ns => (∃ t z, v = .ref t ∧ SqT K H t (n.map V.int ++ [.str z]) ∧ n.length = k + 1) ∧ TxsV K H k vs ns
  | _, _ => False
theorem TxsV.at {pins : List (Addr × Obj)} {σ : St} {H : Hp} {s : Shared} {k : Nat} (I : Inv X pins σ H s) : ∀ {vs : List V} {ns : List (List Int)} {us : List Value}, TxsV X.K H k vs ns → Vals vs us → TuxsAt s.heap k us ns
  | [], [], _, _, .nil => trivial
  | v :: vs, n :: ns, _, ⟨⟨t, z, e, h, hl⟩, b⟩, .cons r rs => by
    subst e
    cases r
    obtain ⟨its, rv, p, _⟩ := I.tuple h
    obtain ⟨o, ho, hc, m, hd⟩ := p
    obtain ⟨i1, t1, e1, e2⟩ := ints_text rv
    exact ⟨⟨t, o, its.toArray, m, i1, z, t1, rfl, ho, hc, hd, e1, e2, hl⟩, TxsV.at I b rs⟩
def rSortX (K : PySem.W.Frag) : List V → Hp → VK → Prop := fun xs H Q => ∃ p ys ns k, xs = [.ref p] ∧ (SqL K H p ys ∨ SqT K H p ys) ∧ TxsV K H k ys ns ∧ (∀ k x y, ns[k]? = some x → ns[k + 1]? = some y → lexI y x = false ∧ y ≠ x) ∧ ∀ q, H q = none → Q (.ref q) (upd H q (.lst ys))
theorem call_sortedX (K : PySem.W.Frag) (h : X.K = K) : CallR X (.builtin "sorted") (rSortX K) := by
  subst h
  intro pins s σ H xs us Q I r h
  obtain ⟨p, ys, ns, k, rfl, hq, hv, hs, q⟩ := h
  obtain ⟨u, rfl, ru⟩ := vals1 r
  cases ru
  have fin : ∀ its : List Value, ys.length ≤ sizeLine → Vals ys its → ∀ (h1 h' : Heap) (a : Addr) (e : Nat), (∀ b o, s.heap.get? b = some o → h1.get? b = some o) → (∀ b o, h1.get? b = some o → h'.get? b = some o) → a = h1.objs.size → h'.get? a = some (seqObj "list" its.toArray e) → EP X pins σ Q (.ref a) { s with heap := h' } := fun its hz rv h1 h' a e k1 k2 ea he => by
    have I1 : Inv X pins σ H { s with heap := h1 } := I.kept (t' := s.toks) k1
    have I2 : Inv X pins σ (upd H a (.lst ys)) { s with heap := h' } := I1.laid (t' := s.toks) (a := a) (o := .lst ys) k2 (by rw [ea]; exact Nat.le_refl _) ⟨hz, its, e, rv, by simpa [seqObj] using he⟩
    exact ⟨.ref a, _, I2, rfl, q _ (I1.hok.fresh (by rw [ea]; exact Nat.le_refl _))⟩
  rcases hq with hq | hq
  · obtain ⟨its, rv, pl, hz⟩ := I.list hq
    obtain ⟨o, ho, hc, m, hd⟩ := pl.isList
    exact sorted_ascX (.inl rfl) ho hc hd (hv.at I rv) hs (by rw [← rv.length]; exact hz) (fin its hz rv)
  · obtain ⟨its, rv, pl, hz⟩ := I.tuple hq
    obtain ⟨o, ho, hc, m, hd⟩ := pl
    exact sorted_ascX (.inr rfl) ho hc hd (hv.at I rv) hs (by rw [← rv.length]; exact hz) (fin its hz rv)
end
section
variable {X : Cx}
end
end L2
/-! ### a block whose ways meet again behind its first row -/
namespace L2
open PySem PySem.Spec PyProof.Rows
section
variable {X : Cx} {st : Stmt} {rest : List Stmt} {t u : TS}
def tVia (t u : TS) : TS := fun D σ H => ∃ P : St → Hp → Prop, t { D with nx := P } σ H ∧ ∀ σ' H', P σ' H' → u D σ' H'
theorem pss_via (h1 : PS X st t) (h2 : PSs X rest u) : PSs X (st :: rest) (tVia t u) := by
  intro pins s σ H D I h
  obtain ⟨P, h, g⟩ := h
  refine wpAny_execs_cons (thn (h1 pins s σ H _ I h) fun f s1 q => ?_)
  cases f with
  | ret v => exact q
  | brk => exact q
  | cont => exact q
  | next =>
    obtain ⟨τ, G, J, p⟩ := q
    exact h2 pins s1 τ G D J (g τ G p)
end
end L2
/-! ### sum(list of whole numbers); isinstance(number, int), isinstance(number, bool) -/
namespace L2
open PySem PySem.Spec PyProof.Rows
section
variable {X : Cx}
theorem sl_tupK (K : PySem.W.Frag) (h : X.K = K) : SlR X (rSlT K) := by subst h; exact sl_tup
end
end L2
/-! ### text.count(sign); any(list of truths); isinstance(tuple, tuple); zip of two sequences of one length -/
namespace L2
open PySem PySem.Spec PyProof.Rows
section
variable {X : Cx}
end
section
variable {prog : Program} {w : World} {A : Around} {E : Value → Shared → Prop} {s : Shared}
/-- what lies apart of what -/
structure ZA (z TI TO i1 i2 : Addr) (f1 f2 : List Addr) : Prop where
  m1 : i1 ∈ f1
  m2 : i2 ∈ f2
  z1 : z ∉ f1
  z2 : z ∉ f2
  o1 : TO ∉ f1
  o2 : TO ∉ f2
  c1 : i1 ∉ f2
  c2 : i2 ∉ f1
  tz : TI ≠ z
  tt : TI ≠ TO
  t1 : TI ≠ i1
  t2 : TI ≠ i2
  oz : TO ≠ z
theorem nm {a b : Addr} {f : List Addr} (h : a ∈ f) (n : b ∉ f) : a ≠ b := fun z => n (z ▸ h)
section
variable {z TI TO i1 i2 : Addr} {f1 f2 : List Addr} {n1 n2 i : Nat} {P1 P2 : Nat → Value → Prop} {S1 S2 : Nat → Heap → Prop} {a b : Value}
end
/-- one of a zip's two sequences -/
structure ZS (P : Program) (w : World) (K : PySem.W.Frag) (a it : Addr) (Sq : Hp → List V → Prop) (IT : Nat → Heap → Prop) : Prop where
  obj : ∀ i h, IT i h → ∃ o, h.get? it = some o ∧ ∀ v, o.data ≠ .cell v
  keep : ∀ i h h', IT i h → (∀ o, h.get? it = some o → h'.get? it = some o) → IT i h'
  inj : ∀ (X : Cx), X.K = K → ∀ (pins : List (Addr × Obj)) (s : Shared) (σ : St) (H : Hp), Inv X pins σ H s → ∀ xs ys, Sq H xs → Sq H ys → xs = ys
  draws : ∀ (X : Cx), X.prog = P → X.w = w → X.K = K → X.calm = true → ∀ (pins : List (Addr × Obj)) (s : Shared) (σ : St) (H : Hp), Inv X pins σ H s → ∀ xs, Sq H xs → a ≠ it →
    ∃ (its : List Value) (SS : Nat → Heap → Prop), Vals xs its ∧ Draws P w X.A.in1 it [it, a] its.length (fun i v => its[i]? = some v) SS ∧ (∀ i, IT i s.heap → SS i s.heap) ∧ ∀ i h, SS i h → IT i h
end
section
variable {X : Cx} {elts : List Expr} {k : Nat} {pos' : Pos} {a b : Expr} {ta : TA} {p pos : Pos}
end
end L2
/-! ### data in a list of data; t + u with t of none; isinstance(truth, bool) -/
namespace L2
open PySem PySem.Spec PyProof.Rows
section
variable {X : Cx}
def rInD (K : PySem.W.Frag) : R2 := fun x y H Q => ∃ dx ds, RdD K H x dx ∧ RdD K H y (.list ds) ∧ (dx.canLay0 = true ∧ PyData.canLayAll0 ds = true) ∧ dx.depth ≤ 60 ∧ Q (.bl (ds.any fun d => PyData.eqv d dx)) H
theorem op_inD {k : Nat} (K : PySem.W.Frag) (h : X.K = K) (hr : Room k X.A) : OpR X (compareOp .In) (rInD K) := by
  subst h
  intro pins s σ H x y v u Q I rx ry h
  obtain ⟨dx, ds, h1, h2, ⟨h3, h4⟩, h5, q⟩ := h
  obtain ⟨as, ra⟩ := h1.reads I rx
  obtain ⟨bs, rb⟩ := h2.reads I ry
  have hu := hr.units
  have hm : min (PyData.depthAll ds) dx.depth ≤ 60 := Nat.le_trans (Nat.min_le_right _ _) h5
  exact SeqAt.in_list_reads rb ra h4 h3 (by omega) ⟨.bl _, H, I, rfl, q⟩
def rCatX (K : PySem.W.Frag) : R2 := fun x y H Q => rCatT K x y H Q ∨ ∃ a b ys, x = .ref a ∧ y = .ref b ∧ SqT K H a [] ∧ SqT K H b ys ∧ Q (.ref b) H
theorem op_catX (K : PySem.W.Frag) (h : X.K = K) : OpR X (binaryOp .Add) (rCatX K) := by
  subst h
  intro pins s σ H x y v u Q I rx ry h
  rcases h with h | ⟨a, b, ys, rfl, rfl, ha, hb, q⟩
  · exact op_catT pins s σ H x y v u Q I rx ry h
  cases rx
  cases ry
  obtain ⟨its, r1, p1, _⟩ := I.tuple ha
  obtain ⟨its2, r2, p2, _⟩ := I.tuple hb
  cases r1
  obtain ⟨⟨c1, dd, data, sl⟩, ho, hc, n, hd⟩ := id p1
  obtain ⟨⟨c2, dd2, data2, sl2⟩, ho2, hc2, n2, hd2⟩ := id p2
  simp only at hc hd hc2 hd2
  subst hc hd hc2 hd2
  exact concat_meets ⟨_, ho, rfl⟩ ⟨_, ho2, rfl⟩ noFill_tuple_add seq_tuple_add PySem.F.slot_tuple_add PySem.F.entry_tuple_add (PySem.F.args_tuple_add_2 _ _) (tuple_addW0 a b _ _ n n2 dd dd2 sl sl2 (by simp)) ⟨ho, ho2, ⟨.ref b, H, I, rfl, q⟩⟩
theorem call_isBool : CallR X (.builtin "isinstance") (fun xs H Q => ∃ b, xs = [.bl b, .ty "bool"] ∧ Q (.bl true) H) := by
  intro pins s σ H xs us Q I r h
  obtain ⟨b, rfl, q⟩ := h
  obtain ⟨u, w', rfl, r1, r2⟩ := vals2 r
  cases (show w' = Value.type "bool" from r2)
  exact isinst_ok I r1 (.bl b) (by unfold PySem.W.kitOne; rw [if_pos (by decide)]) fun tk => ⟨.bl true, H, I.tok _, rfl, q⟩
end
end L2
set_option maxHeartbeats 4000000
namespace My
open PySem PySem.Spec PyProof.Rows L2
/-! letters, contraries -/
def smalls : List Nat := [97, 98, 99, 100, 101, 102, 103, 104, 105, 106, 107, 108, 109, 110, 111, 112, 113, 114, 115, 116, 117, 118, 119, 120, 121, 122]
def caps : List Nat := [65, 66, 67, 68, 69, 70, 71, 72, 73, 74, 75, 76, 77, 78, 79, 80, 81, 82, 83, 84, 85, 86, 87, 88, 89, 90]
def Lt (c : Nat) : Prop := c ∈ smalls ∨ c ∈ caps
instance (c : Nat) : Decidable (Lt c) := by unfold Lt; infer_instance
def ctr (c : Nat) : Nat := if isLow c = true then PyProof.Rows.up1 c else PyProof.Rows.lo1 c
theorem lt_all : ∀ c ∈ smalls ++ caps, c < 128 ∧ ctr c ∈ smalls ++ caps ∧ ctr (ctr c) = c ∧ ctr c ≠ c := by decide +kernel
theorem Lt.mem {c : Nat} (h : Lt c) : c ∈ smalls ++ caps := List.mem_append.mpr h
theorem Lt.lt {c : Nat} (h : Lt c) : c < 128 := (lt_all c h.mem).1
theorem Lt.ctr {c : Nat} (h : Lt c) : Lt (ctr c) := List.mem_append.mp (lt_all c h.mem).2.1
theorem ctr_ctr {c : Nat} (h : Lt c) : ctr (ctr c) = c := (lt_all c h.mem).2.2.1
theorem ctr_ne {c : Nat} (h : Lt c) : ctr c ≠ c := (lt_all c h.mem).2.2.2
theorem ctr_inj {a b : Nat} (ha : Lt a) (hb : Lt b) (e : My.ctr a = My.ctr b) : a = b := by rw [← ctr_ctr ha, e, ctr_ctr hb]
theorem other_small : ∀ c ∈ smalls, atI caps ((smalls.idxOf c : Nat) : Int) = some (ctr c) := by decide +kernel
theorem other_cap : ∀ c ∈ caps, atI smalls ((caps.idxOf c : Nat) : Int) = some (ctr c) := by decide +kernel
def tnd (l : List Nat) : List Nat := (l.map ctr).reverse
/-- but for b all stays -/
def SameB (b : Addr) (H H' : Hp) : Prop := ∀ c o, H c = some o → c ≠ b → H' c = some o
theorem SameB.refl (b : Addr) (H : Hp) : SameB b H H := fun _ _ h _ => h
theorem SameB.trans {b : Addr} {H H1 H2 : Hp} (x : SameB b H H1) (y : SameB b H1 H2) : SameB b H H2 := fun c o h n => y c o (x c o h n) n
theorem SameB.of {b : Addr} {H H' : Hp} (x : Same H H') : SameB b H H' := fun c o h _ => x c o h
theorem SameB.upd (b : Addr) (H : Hp) (o : HO) : SameB b H (upd H b o) := fun c o h n => by rw [upd_ne n]; exact h
theorem Same.upd {H : Hp} {p : Addr} {o : HO} (h : H p = none) : Same H (L2.upd H p o) := fun c u e => by rw [upd_ne (ne_of_none e h)]; exact e
/-- the box of draws -/
def BoxAt (H : Hp) (b : Addr) : Prop := ∃ x y : Int, H b = some (.lst [.int x, .int y])
theorem BoxAt.same {H H' : Hp} {b : Addr} (h : BoxAt H b) (s : Same H H') : BoxAt H' b := let ⟨x, y, e⟩ := h; ⟨x, y, s _ _ e⟩
/-- a yard's ends -/
structure Yd (y : List Nat) : Prop where
  nd : y.Nodup
  lt : ∀ c ∈ y, Lt c
  cl : ∀ c ∈ y, ctr c ∈ y
def sp_contrary (_ : PySem.W.Frag) : Sp := fun vs H Q _ => ∃ c, vs = [.str (S [c])] ∧ c < 128 ∧ Q (.str (S [ctr c])) H
theorem len_contrary {K : PySem.W.Frag} {vs : List V} {H : Hp} {Q : VK} {E : XK} (h : sp_contrary K vs H Q E) : vs.length = 1 := by obtain ⟨c, rfl, _⟩ := h; rfl
def sp_Lother (_ : PySem.W.Frag) : Sp := fun vs H Q _ => ∃ c, vs = [.str (S [c])] ∧ Lt c ∧ Q (.str (S [ctr c])) H
theorem len_Lother {K : PySem.W.Frag} {vs : List V} {H : Hp} {Q : VK} {E : XK} (h : sp_Lother K vs H Q E) : vs.length = 1 := by obtain ⟨c, rfl, _⟩ := h; rfl
def sp_turned (_ : PySem.W.Frag) : Sp := fun vs H Q _ => ∃ l : List Nat, vs = [.str (S l)] ∧ (∀ c ∈ l, c < 128) ∧ l.length ≤ 1000 ∧ ∀ H', Same H H' → Q (.str (S (tnd l))) H'
theorem len_turned {K : PySem.W.Frag} {vs : List V} {H : Hp} {Q : VK} {E : XK} (h : sp_turned K vs H Q E) : vs.length = 1 := by obtain ⟨c, rfl, _⟩ := h; rfl
def sp_Lbox (K : PySem.W.Frag) : Sp := fun vs H Q _ => ∃ (a : Addr) (ns : List Int) (k : Nat), vs = [.ref a, .int k] ∧ SqL K H a (ns.map V.int) ∧ k ≤ 1000 ∧ ∀ b H', H b = none → BoxAt H' b → Same H H' → Q (.ref b) H'
theorem len_Lbox {K : PySem.W.Frag} {vs : List V} {H : Hp} {Q : VK} {E : XK} (h : sp_Lbox K vs H Q E) : vs.length = 2 := by obtain ⟨a, ns, k, rfl, _⟩ := h; rfl
def sp_Ltake (_ : PySem.W.Frag) : Sp := fun vs H Q _ => ∃ (b : Addr) (m : Int), vs = [.ref b, .int m] ∧ BoxAt H b ∧ 1 ≤ m ∧ m < 1000000 ∧ ∀ (r : Nat) H', (r : Int) < m → BoxAt H' b → SameB b H H' → Q (.int r) H'
theorem len_Ltake {K : PySem.W.Frag} {vs : List V} {H : Hp} {Q : VK} {E : XK} (h : sp_Ltake K vs H Q E) : vs.length = 2 := by obtain ⟨b, m, rfl, _⟩ := h; rfl
def sp_Lyard (_ : PySem.W.Frag) : Sp := fun vs H Q _ => ∃ (b : Addr) (few top : Nat), vs = [.ref b, .int few, .int top] ∧ BoxAt H b ∧ 1 ≤ few ∧ few ≤ top ∧ top ≤ 8 ∧ ∀ (y : List Nat) H', Yd y → 2 * few ≤ y.length → y.length ≤ 2 * top → BoxAt H' b → SameB b H H' → Q (.str (S y)) H'
theorem len_Lyard {K : PySem.W.Frag} {vs : List V} {H : Hp} {Q : VK} {E : XK} (h : sp_Lyard K vs H Q E) : vs.length = 3 := by obtain ⟨b, m, t, rfl, _⟩ := h; rfl
def sp_law (K : PySem.W.Frag) : Sp := fun vs H Q _ => ∃ (a : Addr) (ns : List Int), vs = [.ref a] ∧ SqL K H a (ns.map V.int) ∧ ns.length ≤ 63 ∧ ∀ H', Q (.bl true) H'
theorem len_law {K : PySem.W.Frag} {vs : List V} {H : Hp} {Q : VK} {E : XK} (h : sp_law K vs H Q E) : vs.length = 1 := by obtain ⟨b, m, rfl, _⟩ := h; rfl
theorem flat1 : ∀ l : List Nat, (l.map fun c => [c]).flatten = l
  | [] => rfl
  | c :: l => by rw [List.map_cons, List.flatten_cons, flat1 l]; rfl
theorem sum1 : ∀ l : List Nat, ((l.map fun c => [c]).map List.length).sum = l.length
  | [] => rfl
  | c :: l => by
    rw [List.map_cons, List.map_cons, List.sum_cons, sum1 l]
    show 1 + l.length = l.length + 1
    omega
theorem sgs_lists (l : List Nat) : sgs l = (l.map fun c => [c]).map fun l => V.str (S l) := by unfold sgs; rw [List.map_map]; rfl
theorem sgs_rev (l : List Nat) : (sgs l).reverse = sgs l.reverse := by unfold sgs; rw [List.map_reverse]
theorem sgs_snoc (l : List Nat) (c : Nat) : sgs l ++ [V.str (S [c])] = sgs (l ++ [c]) := by unfold sgs; rw [List.map_append]; rfl
theorem take_snoc {α : Type} {l : List α} {i : Nat} {x : α} (h : l[i]? = some x) : l.take i ++ [x] = l.take (i + 1) := by rw [List.take_add_one, h]; rfl
theorem ints_at {ns : List Int} {i : Nat} (h : i < ns.length) : ∃ z, (ns.map V.int)[i]? = some (V.int z) := ⟨ns[i], by rw [List.getElem?_map, List.getElem?_eq_getElem h]; rfl⟩
theorem yes_ite {σ : L2.St} {H : Hp} {A B : Hp → Prop} (h : A H) : tYes σ H fun b H3 => if b = true then A H3 else B H3 := by
  show (if true = true then A H else B H)
  rw [if_pos rfl]
  exact h
theorem box_at (b : Bool) (z : Int) : ∃ y, atI [V.int 0, V.int z] (if b = true then 1 else 0) = some (V.int y) := by
  cases b
  · exact ⟨0, rfl⟩
  · exact ⟨z, rfl⟩
theorem erase_perm {α : Type} : ∀ {l : List α} {i : Nat} {x : α}, l[i]? = some x → (x :: l.eraseIdx i).Perm l
  | [], i, x, h => by simp at h
  | a :: l, 0, x, h => by
    have : a = x := by simpa using h
    subst this
    exact List.Perm.refl _
  | a :: l, i + 1, x, h => by
    have ih := erase_perm (l := l) (i := i) (x := x) (by simpa using h)
    rw [List.eraseIdx_cons_succ]
    exact (List.Perm.swap a x _).trans (List.Perm.cons a ih)
theorem sgs_erase (l : List Nat) (i : Nat) : (sgs l).eraseIdx i = sgs (l.eraseIdx i) := by
  unfold sgs
  induction l generalizing i with
  | nil => rfl
  | cons a l ih =>
    cases i with
    | zero => rfl
    | succ i => rw [List.map_cons, List.eraseIdx_cons_succ, ih, List.eraseIdx_cons_succ, List.map_cons]
theorem sgs_at {l : List Nat} {i : Nat} (h : i < l.length) : (sgs l)[i]? = some (V.str (S [l[i]])) := by unfold sgs; rw [List.getElem?_map, List.getElem?_eq_getElem h]; rfl
theorem sgs_app (a b : List Nat) : sgs a ++ sgs b = sgs (a ++ b) := by unfold sgs; rw [List.map_append]
theorem small_ctr : ∀ c ∈ smalls, ctr c ∉ smalls := by decide +kernel
theorem smalls_nd : smalls.Nodup := by decide +kernel
theorem Yd.perm {a b : List Nat} (h : Yd a) (p : a.Perm b) : Yd b :=
  ⟨p.nodup_iff.mp h.nd, fun c hc => h.lt c (p.mem_iff.mpr hc), fun c hc => p.mem_iff.mp (h.cl c (p.mem_iff.mpr hc))⟩
/-- the letters that are left, and the ends so far -/
structure YdW (i : Nat) (L E : List Nat) : Prop where
  yd : Yd E
  nd : L.Nodup
  sm : ∀ c ∈ L, c ∈ smalls
  ap : ∀ c ∈ L, c ∉ E
  ll : L.length = 26 - i
  el : E.length = 2 * i
theorem YdW.start : YdW 0 smalls [] := ⟨⟨List.nodup_nil, fun _ h => absurd h List.not_mem_nil, fun _ h => absurd h List.not_mem_nil⟩, smalls_nd, fun _ h => h, fun _ _ h => absurd h List.not_mem_nil, rfl, rfl⟩
theorem YdW.turn {i r : Nat} {L E : List Nat} (w : YdW i L E) (hi : i < 26) (hr : r < L.length) : YdW (i + 1) (L.eraseIdx r) (E ++ [L[r], ctr L[r]]) := by
  have hp := erase_perm (l := L) (List.getElem?_eq_getElem hr)
  have hm : L[r] ∈ L := List.getElem_mem hr
  have hs := w.sm _ hm
  have hl : Lt L[r] := .inl hs
  have nd2 := hp.nodup_iff.mpr w.nd
  have sub : ∀ c ∈ L.eraseIdx r, c ∈ L := fun c hc => hp.mem_iff.mp (List.mem_cons_of_mem _ hc)
  have ap1 := w.ap _ hm
  have ap2 : ctr L[r] ∉ E := fun z => ap1 (by have := w.yd.cl _ z; rwa [ctr_ctr hl] at this)
  refine ⟨⟨?_, fun c hc => ?_, fun c hc => ?_⟩, (List.nodup_cons.mp nd2).2, fun c hc => w.sm c (sub c hc), fun c hc hE => ?_, ?_, ?_⟩
  · rw [List.nodup_append]
    refine ⟨w.yd.nd, ?_, fun a ha b hb z => ?_⟩
    · rw [List.nodup_cons]
      refine ⟨fun z => (ctr_ne hl) (List.mem_singleton.mp z).symm, List.nodup_cons.mpr ⟨List.not_mem_nil, List.nodup_nil⟩⟩
    · subst z
      rcases List.mem_cons.mp hb with z | z
      · exact ap1 (z ▸ ha)
      · exact ap2 (List.mem_singleton.mp z ▸ ha)
  · rcases List.mem_append.mp hc with z | z
    · exact w.yd.lt c z
    · rcases List.mem_cons.mp z with z | z
      · rw [z]; exact hl
      · rw [List.mem_singleton.mp z]; exact hl.ctr
  · rcases List.mem_append.mp hc with z | z
    · exact List.mem_append_left _ (w.yd.cl c z)
    · refine List.mem_append_right _ ?_
      rcases List.mem_cons.mp z with z | z
      · rw [z]; exact List.mem_cons_of_mem _ (List.mem_singleton.mpr rfl)
      · rw [List.mem_singleton.mp z, ctr_ctr hl]; exact List.mem_cons_self
  · rcases List.mem_append.mp hE with z | z
    · exact w.ap c (sub c hc) z
    · rcases List.mem_cons.mp z with z | z
      · exact (List.nodup_cons.mp nd2).1 (z ▸ hc)
      · have e : c = ctr L[r] := List.mem_singleton.mp z
        exact small_ctr _ hs (e ▸ w.sm c (sub c hc))
  · have := hp.length_eq
    rw [List.length_cons, w.ll] at this
    omega
  · rw [List.length_append, w.el]
    show 2 * i + 2 = _
    omega
theorem SameB.updN {b p : Addr} {H H' : Hp} {o : HO} (h : SameB b H H') (n : H p = none) : SameB b H (L2.upd H' p o) := fun c u e z => by rw [upd_ne (ne_of_none e n)]; exact h c u e z
theorem BoxAt.updN {b p : Addr} {H : Hp} {o : HO} (h : BoxAt H b) (n : p ≠ b) : BoxAt (L2.upd H p o) b := let ⟨x, y, e⟩ := h; ⟨x, y, by rw [upd_ne (Ne.symm n)]; exact e⟩
theorem SameB.none {b p : Addr} {H H' : Hp} (h : SameB b H H') (n : H' p = none) (z : p ≠ b) : H p = none := by
  cases q : H p with
  | none => rfl
  | some o => rw [h p o q z] at n; cases n
theorem BoxAt.ne {b p : Addr} {H : Hp} (h : BoxAt H b) (n : H p = none) : p ≠ b := fun z => by obtain ⟨x, y, e⟩ := h; rw [← z, n] at e; cases e
theorem iteN {c : Bool} {A B : Prop} (h : c = false) (hB : B) : if c = true then A else B := by rw [h]; exact iteF hB
theorem tnd_len (l : List Nat) : (tnd l).length = l.length := by unfold tnd; rw [List.length_reverse, List.length_map]
theorem lt128 {l : List Nat} (h : ∀ c ∈ l, Lt c) : ∀ c ∈ l, c < 128 := fun c hc => (h c hc).lt
theorem all_rep (n : Nat) : (List.replicate n true).all id = true := by rw [List.all_eq_true]; intro b hb; rw [List.eq_of_mem_replicate hb]; rfl
theorem rep_snoc (n : Nat) : (List.replicate n true).map V.bl ++ [V.bl true] = (List.replicate (n + 1) true).map V.bl := by rw [List.replicate_succ', List.map_append]; rfl
theorem SameB.same {b : Addr} {H H2 H3 : Hp} (n : H b = Option.none) (s : Same H H2) (t : SameB b H2 H3) : Same H H3 := fun c o e => t c o (s c o e) (ne_of_none e n)
theorem SameB.after {p : Addr} {H H1 H2 : Hp} (s : SameB p H H1) (t : Same H1 H2) : SameB p H H2 := fun c o e z => t c o (s c o e z)
/-- texts as values -/
def txs (ws : List (List Nat)) : List V := ws.map fun l => V.str (S l)
theorem txs_len (ws : List (List Nat)) : (txs ws).length = ws.length := by unfold txs; rw [List.length_map]
theorem txs_snoc (ws : List (List Nat)) (l : List Nat) : txs ws ++ [V.str (S l)] = txs (ws ++ [l]) := by unfold txs; rw [List.map_append]; rfl
theorem txs_at {ws : List (List Nat)} {i : Nat} (h : i < ws.length) : (txs ws)[i]? = some (V.str (S ws[i])) := by unfold txs; rw [List.getElem?_map, List.getElem?_eq_getElem h]; rfl
/-! words made shorter -/
def rstep (st : List Nat) (c : Nat) : List Nat := if st.getLast? = some (ctr c) then st.dropLast else st ++ [c]
def red (l : List Nat) : List Nat := l.foldl rstep []
/-- no letter beside its contrary -/
def Rdd : List Nat → Prop
  | [] => True
  | [_] => True
  | a :: b :: r => a ≠ ctr b ∧ Rdd (b :: r)
theorem Rdd.snoc : ∀ {l : List Nat} {c : Nat}, Rdd l → l.getLast? ≠ some (ctr c) → Rdd (l ++ [c])
  | [], _, _, _ => trivial
  | [a], c, _, h => ⟨fun z => h (by rw [z]; rfl), trivial⟩
  | a :: b :: r, c, h, k => ⟨h.1, Rdd.snoc (l := b :: r) h.2 (by simpa using k)⟩
theorem Rdd.init : ∀ {l : List Nat} {c : Nat}, Rdd (l ++ [c]) → Rdd l ∧ l.getLast? ≠ some (ctr c)
  | [], _, _ => ⟨trivial, by simp⟩
  | [a], c, h => ⟨trivial, fun z => h.1 (by simpa using z)⟩
  | a :: b :: r, c, h => by
    have ih := Rdd.init (l := b :: r) (c := c) h.2
    exact ⟨⟨h.1, ih.1⟩, by simpa using ih.2⟩
/-- ends that are contraries fall off -/
def strip : Nat → List Nat → List Nat
  | 0, l => l
  | n + 1, l => match l with
    | [] => []
    | [a] => [a]
    | a :: b :: r => if a = ctr ((b :: r).getLast (by simp)) then strip n (b :: r).dropLast else a :: b :: r
/-- the shortest -/
def core (l : List Nat) : List Nat := strip l.length l
theorem cut_to {α : Type} (l : List α) (k : Nat) : cut l none (some (k : Int)) = l.take k := by
  unfold cut
  rw [HT.sIx_none, HT.sIx_nat, List.drop_zero, Nat.sub_zero]
  by_cases h : k ≤ l.length
  · rw [Nat.min_eq_left h]
  · rw [Nat.min_eq_right (by omega), List.take_of_length_le (Nat.le_refl _), List.take_of_length_le (by omega)]
theorem cut_from {α : Type} (l : List α) (k : Nat) : cut l (some (k : Int)) none = l.drop k := by
  unfold cut
  rw [HT.sIx_none, HT.sIx_nat]
  by_cases h : k ≤ l.length
  · rw [Nat.min_eq_left h, List.take_of_length_le (by rw [List.length_drop]; exact Nat.le_refl _)]
  · rw [Nat.min_eq_right (by omega), List.drop_of_length_le (Nat.le_refl _), List.drop_of_length_le (by omega)]
    simp
mutual
theorem eqv_refl : ∀ d : PyData, d.hasDict = false → PyData.eqv d d = true
  | .none, _ => rfl
  | .bool b, _ => by simp [PyData.eqv]
  | .int i, _ => by simp [PyData.eqv]
  | .str x, _ => by simp [PyData.eqv]
  | .list xs, h => by show PyData.eqvAll xs xs = true; exact eqvAll_refl xs (by simpa [PyData.hasDict] using h)
  | .tuple xs, h => by show PyData.eqvAll xs xs = true; exact eqvAll_refl xs (by simpa [PyData.hasDict] using h)
  | .dict kvs, h => by simp [PyData.hasDict] at h
theorem eqvAll_refl : ∀ ds : List PyData, PyData.hasDictAll ds = false → PyData.eqvAll ds ds = true
  | [], _ => rfl
  | d :: ds, h => by
    simp [PyData.hasDictAll] at h
    show (PyData.eqv d d && PyData.eqvAll ds ds) = true
    rw [eqv_refl d h.1, eqvAll_refl ds h.2]
    rfl
end
/-! yards: letters, bands, what goes round -/
def letters : List Nat := [97, 98, 99, 100, 101, 102, 103, 104, 105, 106, 107, 108, 109, 110, 111, 112, 113, 114, 115, 116, 117, 118, 119, 120, 121, 122, 65, 66, 67, 68, 69, 70, 71, 72, 73, 74, 75, 76, 77, 78, 79, 80, 81, 82, 83, 84, 85, 86, 87, 88, 89, 90]
theorem Lt.letters {c : Nat} (h : Lt c) : c ∈ letters := h.mem
theorem low_of_small : ∀ c ∈ smalls, isLow c = true ∧ PyProof.Rows.lo1 c = c ∧ ctr c ∈ caps := by decide +kernel
theorem low_of_cap : ∀ c ∈ caps, isLow c = false ∧ PyProof.Rows.lo1 c = ctr c ∧ c ∉ smalls ∧ ctr c ∈ smalls := by decide +kernel
theorem cap_small : ∀ c ∈ caps, c ∉ smalls := by decide +kernel
/-- the ends of some bands -/
def kept (sm : List Nat) (c : Nat) : Bool := decide (PyProof.Rows.lo1 c ∈ sm)
theorem kept_or {sm : List Nat} {c : Nat} (hs : ∀ d ∈ sm, d ∈ smalls) (h : Lt c) : kept sm c = (decide (c ∈ sm) || decide (ctr c ∈ sm)) := by
  unfold kept
  rcases h with h | h
  · obtain ⟨_, e, e2⟩ := low_of_small c h
    have : ctr c ∉ sm := fun z => cap_small _ e2 (hs _ z)
    rw [e, decide_eq_false this, Bool.or_false]
  · obtain ⟨_, e, e2, _⟩ := low_of_cap c h
    have : c ∉ sm := fun z => e2 (hs _ z)
    rw [e, decide_eq_false this, Bool.false_or]
theorem kept_ctr {sm : List Nat} {c : Nat} (hs : ∀ d ∈ sm, d ∈ smalls) (h : Lt c) : kept sm (ctr c) = kept sm c := by
  rw [kept_or hs h, kept_or hs h.ctr, ctr_ctr h, Bool.or_comm]
theorem Yd.within {y sm : List Nat} (h : Yd y) (hs : ∀ d ∈ sm, d ∈ smalls) : Yd (y.filter (kept sm)) :=
  ⟨h.nd.filter _, fun c hc => h.lt c (List.mem_filter.mp hc).1, fun c hc => by
    obtain ⟨h1, h2⟩ := List.mem_filter.mp hc
    exact List.mem_filter.mpr ⟨h.cl c h1, by rw [kept_ctr hs (h.lt c h1)]; exact h2⟩⟩
/-- which of two comes first, going on from a third -/
def gr (y : List Nat) (a b c : Nat) : Bool := decide ((((y.idxOf b : Nat) : Int) - ((y.idxOf a : Nat) : Int)) % (y.length : Int) < (((y.idxOf c : Nat) : Int) - ((y.idxOf a : Nat) : Int)) % (y.length : Int))
def cyc (i j k : Nat) : Prop := (i < j ∧ j < k) ∨ (j < k ∧ k < i) ∨ (k < i ∧ i < j)
instance (i j k : Nat) : Decidable (cyc i j k) := by unfold cyc; infer_instance
/-! specs of the yards' own -/
def sp_steps_round (_ : PySem.W.Frag) : Sp := fun vs H Q _ => ∃ (y : List Nat) (a b : Nat), vs = [.str (S y), .str (S [a]), .str (S [b])] ∧ a ∈ y ∧ b ∈ y ∧ y.length ≤ 1000 ∧ Q (.int ((((y.idxOf b : Nat) : Int) - ((y.idxOf a : Nat) : Int)) % (y.length : Int))) H
theorem len_steps_round {K : PySem.W.Frag} {vs : List V} {H : Hp} {Q : VK} {E : XK} (h : sp_steps_round K vs H Q E) : vs.length = 3 := by obtain ⟨c, _, _, rfl, _⟩ := h; rfl
def sp_goes_round (_ : PySem.W.Frag) : Sp := fun vs H Q _ => ∃ (y : List Nat) (a b c : Nat), vs = [.str (S y), .str (S [a]), .str (S [b]), .str (S [c])] ∧ a ∈ y ∧ b ∈ y ∧ c ∈ y ∧ y.length ≤ 1000 ∧ Q (.bl (gr y a b c)) H
theorem len_goes_round {K : PySem.W.Frag} {vs : List V} {H : Hp} {Q : VK} {E : XK} (h : sp_goes_round K vs H Q E) : vs.length = 4 := by obtain ⟨c, _, _, _, rfl, _⟩ := h; rfl
theorem filter_take {p : Nat → Bool} {l : List Nat} {i c : Nat} (h : l[i]? = some c) : (l.take (i + 1)).filter p = (l.take i).filter p ++ if p c = true then [c] else [] := by
  rw [← take_snoc h, List.filter_append]
  congr 1
  by_cases z : p c = true
  · rw [if_pos z, List.filter_cons_of_pos z]; rfl
  · rw [if_neg z, List.filter_cons_of_neg z]; rfl
/-! letters gone round, and how far two ways go on alike -/
def rd (w : List Nat) (k : Int) : Nat := w.getD (k % (w.length : Int)).toNat 0
theorem rd_ix {w : List Nat} (h : w ≠ []) (k : Int) : (k % (w.length : Int)).toNat < w.length := by
  have : 0 < w.length := List.length_pos_iff.mpr h
  have h1 := Int.emod_nonneg k (b := (w.length : Int)) (by omega)
  have h2 := Int.emod_lt_of_pos k (b := (w.length : Int)) (by omega)
  omega
theorem rd_get {w : List Nat} (h : w ≠ []) (k : Int) : w[(k % (w.length : Int)).toNat]? = some (rd w k) := by
  unfold rd
  rw [List.getD_eq_getElem?_getD, List.getElem?_eq_getElem (rd_ix h k)]
  rfl
theorem rd_mem {w : List Nat} (h : w ≠ []) (k : Int) : rd w k ∈ w := List.mem_of_getElem? (rd_get h k)
theorem rd_add (w : List Nat) (k : Int) : rd w (k + w.length) = rd w k := by unfold rd; rw [Int.add_emod_right]
theorem rd_mod (w : List Nat) (k : Int) : rd w (k % w.length) = rd w k := by unfold rd; rw [Int.emod_emod_of_dvd _ (Int.dvd_refl _)]
theorem rd_nat {w : List Nat} {k : Nat} (h : k < w.length) : w[k]? = some (rd w k) := by
  have hne : w ≠ [] := fun z => by rw [z] at h; exact absurd h (Nat.not_lt_zero _)
  have := rd_get hne (k : Int)
  rwa [Int.emod_eq_of_lt (by omega) (by omega), Int.toNat_natCast] at this
theorem rd_eq {w : List Nat} {k : Int} {n : Nat} {c : Nat} (hn : n < w.length) (e : k % (w.length : Int) = n) (h : w[n]? = some c) : rd w k = c := by
  have := rd_nat hn
  rw [h] at this
  rw [← rd_mod, e]
  exact (Option.some.inj this).symm
theorem rd_at {w : List Nat} {k : Int} (h1 : -(w.length : Int) ≤ k) (h2 : k < w.length) : atI w k = some (rd w k) := by
  have hne : w ≠ [] := fun z => by rw [z] at h1 h2; simp at h1 h2; omega
  unfold atI ixN
  by_cases h0 : 0 ≤ k
  · rw [if_pos h0, if_pos h2]
    have := rd_get hne k
    rw [Int.emod_eq_of_lt h0 h2] at this
    exact this
  · rw [if_neg h0, if_pos h1]
    have := rd_get hne (k + w.length)
    rw [rd_add, Int.emod_eq_of_lt (by omega) (by omega)] at this
    exact this
theorem rd_atm {w : List Nat} (h : w ≠ []) (k : Int) : atI w (k % (w.length : Int)) = some (rd w k) := by
  have : 0 < w.length := List.length_pos_iff.mpr h
  have h1 := Int.emod_nonneg k (b := (w.length : Int)) (by omega)
  have h2 := Int.emod_lt_of_pos k (b := (w.length : Int)) (by omega)
  rw [rd_at (by omega) h2, rd_mod]
theorem per_mul {f : Int → Nat} {p : Nat} (P : ∀ k, f (k + p) = f k) (k : Int) : ∀ t : Nat, f (k + t * p) = f k
  | 0 => by simp
  | t + 1 => by
    have : k + ((t + 1 : Nat) : Int) * p = k + t * p + p := by rw [Int.natCast_add, Int.add_mul]; simp; omega
    rw [this, P, per_mul P k t]
/-- alike for so long, alike for ever -/
theorem fw {f g : Int → Nat} {p q : Nat} (hp : 0 < p) (hq : 0 < q) (Pf : ∀ k, f (k + p) = f k) (Pg : ∀ k, g (k + q) = g k) (h : ∀ n : Nat, n < p + q → f n = g n) (k : Int) : f k = g k := by
  have up : ∀ N n : Nat, n < N → f n = g n := by
    intro N
    induction N with
    | zero => intro n hn; omega
    | succ N ih =>
      intro n hn
      by_cases z : n < p + q
      · exact h n z
      · have e1 : f n = f ((n - p : Nat) : Int) := by have := Pf ((n - p : Nat) : Int); rwa [show ((n - p : Nat) : Int) + p = n by omega] at this
        have e2 : g ((n - p : Nat) : Int) = g ((n - p - q : Nat) : Int) := by have := Pg ((n - p - q : Nat) : Int); rwa [show ((n - p - q : Nat) : Int) + q = ((n - p : Nat) : Int) by omega] at this
        have e3 : f ((n - q : Nat) : Int) = f ((n - p - q : Nat) : Int) := by have := Pf ((n - p - q : Nat) : Int); rwa [show ((n - p - q : Nat) : Int) + p = ((n - q : Nat) : Int) by omega] at this
        have e4 : g n = g ((n - q : Nat) : Int) := by have := Pg ((n - q : Nat) : Int); rwa [show ((n - q : Nat) : Int) + q = n by omega] at this
        rw [e1, ih (n - p) (by omega), e2, ← ih (n - p - q) (by omega), ← e3, ih (n - q) (by omega), ← e4]
  have hpos : ∃ m : Nat, k + ((k.natAbs * q : Nat) : Int) * p = m ∧ k + ((k.natAbs * p : Nat) : Int) * q = m := by
    have e1 : ((k.natAbs * q : Nat) : Int) * p = ((k.natAbs * (q * p) : Nat) : Int) := by rw [Nat.mul_assoc k.natAbs q p |>.symm]; simp
    have e2 : ((k.natAbs * p : Nat) : Int) * q = ((k.natAbs * (q * p) : Nat) : Int) := by rw [Nat.mul_comm q p, Nat.mul_assoc k.natAbs p q |>.symm]; simp
    have hle : k.natAbs ≤ k.natAbs * (q * p) := Nat.le_mul_of_pos_right _ (Nat.mul_pos hq hp)
    generalize k.natAbs * (q * p) = M at e1 e2 hle
    exact ⟨(k + M).toNat, by omega, by omega⟩
  obtain ⟨m, h1, h2⟩ := hpos
  rw [← per_mul Pf k (k.natAbs * q), h1, ← per_mul Pg k (k.natAbs * p), h2]
  exact up (m + 1) m (Nat.lt_succ_self m)
/-- the first place, from i on, at which they are unlike -/
def dif (f g : Int → Nat) : Nat → Nat → Nat
  | 0, i => i
  | n + 1, i => if f i = g i then dif f g n (i + 1) else i
theorem dif_spec (f g : Int → Nat) : ∀ n i : Nat, i ≤ dif f g n i ∧ dif f g n i ≤ i + n ∧ (∀ j : Nat, i ≤ j → j < dif f g n i → f j = g j) ∧ (dif f g n i < i + n → f (dif f g n i) ≠ g (dif f g n i))
  | 0, i => ⟨Nat.le_refl _, Nat.le_refl _, fun j h1 h2 => absurd (Nat.lt_of_le_of_lt h1 h2) (Nat.lt_irrefl _), fun h => absurd h (Nat.lt_irrefl _)⟩
  | n + 1, i => by
    unfold dif
    by_cases z : f i = g i
    · rw [if_pos z]
      obtain ⟨h1, h2, h3, h4⟩ := dif_spec f g n (i + 1)
      refine ⟨by omega, by omega, fun j g1 g2 => ?_, fun g1 => h4 (by omega)⟩
      by_cases e : j = i
      · rw [e]; exact z
      · exact h3 j (by omega) g2
    · rw [if_neg z]
      exact ⟨Nat.le_refl _, by omega, fun j g1 g2 => absurd (Nat.lt_of_le_of_lt g1 g2) (Nat.lt_irrefl _), fun _ => z⟩
theorem dif_is {f g : Int → Nat} {n m : Nat} (h1 : ∀ j : Nat, j < m → f j = g j) (h2 : f m ≠ g m) (hm : m < n) : dif f g n 0 = m := by
  obtain ⟨_, b, c, d⟩ := dif_spec f g n 0
  by_cases z : dif f g n 0 < m
  · exact absurd (h1 _ z) (d (by omega))
  · by_cases y : m < dif f g n 0
    · exact absurd (c m (Nat.zero_le _) y) h2
    · omega
theorem dif_none {f g : Int → Nat} {n : Nat} (h : ∀ j : Nat, j < n → f j = g j) : dif f g n 0 = n := by
  obtain ⟨_, b, c, d⟩ := dif_spec f g n 0
  by_cases z : dif f g n 0 < 0 + n
  · exact absurd (h _ (by omega)) (d z)
  · omega
/-- for how many letters both go on alike and then part crosswise; 0 where it isn't so -/
def al (y : List Nat) (f g : Int → Nat) (n : Nat) : Nat :=
  if f 0 ≠ g 0 ∨ f (-1) = g (-1) then 0 else
  if gr y (ctr (f (-1))) (ctr (g (-1))) (f 0) = gr y (f (dif f g n 0)) (g (dif f g n 0)) (ctr (f ((dif f g n 0 : Nat) - 1))) then dif f g n 0 else 0
theorem al_alike {y : List Nat} {f g : Int → Nat} {n : Nat} (h : 0 < al y f g n) : ∀ j : Nat, j < al y f g n → f j = g j := by
  unfold al at h ⊢
  by_cases z : f 0 ≠ g 0 ∨ f (-1) = g (-1)
  · rw [if_pos z] at h; omega
  · rw [if_neg z] at h ⊢
    by_cases u : gr y (ctr (f (-1))) (ctr (g (-1))) (f 0) = gr y (f (dif f g n 0)) (g (dif f g n 0)) (ctr (f ((dif f g n 0 : Nat) - 1)))
    · rw [if_pos u] at h ⊢
      exact fun j hj => (dif_spec f g n 0).2.2.1 j (Nat.zero_le _) hj
    · rw [if_neg u] at h; omega
/-- corners of four unlike ends, in turn -/
def ac (y : List Nat) (a b p q : Nat) : Bool := if p = a ∨ p = b ∨ q = a ∨ q = b then false else (gr y a p b != gr y a q b)
def sq (w : List Nat) (i : Int) : Int → Nat := fun n => rd w (i + n)
def bq (v : List Nat) (j : Int) : Int → Nat := fun n => ctr (rd v (j - n))
theorem sq_per (w : List Nat) (i k : Int) : sq w i (k + w.length) = sq w i k := by unfold sq; rw [← Int.add_assoc, rd_add]
theorem rd_sub (w : List Nat) (k : Int) : rd w (k - w.length) = rd w k := by rw [← rd_add w (k - w.length)]; congr 1; omega
theorem bq_per (w : List Nat) (i k : Int) : bq w i (k + w.length) = bq w i k := by unfold bq; rw [show i - (k + (w.length : Int)) = i - k - w.length by omega, rd_sub]
theorem rd_tnd {v : List Nat} (h : v ≠ []) (k : Int) : rd (tnd v) k = ctr (rd v (-1 - k)) := by
  have hpos : 0 < v.length := List.length_pos_iff.mpr h
  have h1 := Int.emod_nonneg k (b := (v.length : Int)) (by omega)
  have h2 := Int.emod_lt_of_pos k (b := (v.length : Int)) (by omega)
  have e : (-1 - k) % (v.length : Int) = v.length - 1 - k % v.length := by
    have e1 := Int.emod_add_mul_ediv k v.length
    have : -1 - k = (v.length - 1 - k % v.length) + v.length * (-(k / v.length) - 1) := by rw [Int.mul_sub, Int.mul_neg]; omega
    rw [this, Int.add_mul_emod_self_left, Int.emod_eq_of_lt (by omega) (by omega)]
  generalize hr : k % (v.length : Int) = r at h1 h2 e
  obtain ⟨n, rfl⟩ : ∃ n : Nat, r = n := ⟨r.toNat, by omega⟩
  have hn : n < v.length := by omega
  have e2 : rd v (-1 - k) = v[v.length - 1 - n]'(by omega) := rd_eq (n := v.length - 1 - n) (by omega) (by rw [e]; omega) (List.getElem?_eq_getElem (by omega))
  rw [e2]
  refine rd_eq (n := n) (by rw [tnd_len]; exact hn) (by rw [tnd_len]; exact hr) ?_
  unfold tnd
  rw [List.getElem?_reverse (by rw [List.length_map]; exact hn), List.length_map, List.getElem?_map, List.getElem?_eq_getElem (by omega)]
  rfl
theorem sq_tnd {v : List Nat} (h : v ≠ []) (j : Nat) : sq (tnd v) ((v.length : Int) - 1 - j) = bq v j := by
  funext n
  unfold sq bq
  rw [rd_tnd h, show -1 - ((v.length : Int) - 1 - j + n) = j - n - v.length by omega, rd_sub]
/-- a cord's word that is shortest -/
structure SW (y w : List Nat) : Prop where
  ne : w ≠ []
  iny : ∀ c ∈ w, c ∈ y
  red : ∀ k : Int, rd w k ≠ ctr (rd w (k - 1))
theorem SW.rd {y w : List Nat} (h : SW y w) (k : Int) : rd w k ∈ y := h.iny _ (rd_mem h.ne k)
theorem unlike_of {w v : List Nat} {f g : Int → Nat} (hw : w ≠ []) (hv : v ≠ []) (pf : ∀ k, f (k + w.length) = f k) (pg : ∀ k, g (k + v.length) = g k) (h : f (-1) ≠ g (-1)) : dif f g (w.length + v.length) 0 < w.length + v.length ∧ f (dif f g (w.length + v.length) 0) ≠ g (dif f g (w.length + v.length) 0) := by
  obtain ⟨_, b, c, d⟩ := dif_spec f g (w.length + v.length) 0
  by_cases z : dif f g (w.length + v.length) 0 < w.length + v.length
  · exact ⟨z, d (by omega)⟩
  · exact absurd (fw (List.length_pos_iff.mpr hw) (List.length_pos_iff.mpr hv) pf pg (fun n hn => c n (Nat.zero_le _) (by omega)) (-1)) h
/-- a cord doesn't run against just itself -/
theorem no_self {y w : List Nat} {i j : Nat} (hy : Yd y) (h : SW y w) (m0 : 0 < al y (sq w i) (bq w j) (w.length + w.length)) (e : ((j : Int) - al y (sq w i) (bq w j) (w.length + w.length) + 1) % w.length = i) : False := by
  have ha := al_alike m0
  generalize al y (sq w i) (bq w j) (w.length + w.length) = m at *
  have key : ∀ k : Nat, k < m → rd w (i + k) = ctr (rd w (i + (m - 1 - k))) := fun k hk => by
    have := ha k hk
    unfold sq bq at this
    rw [this]
    congr 1
    rw [← rd_mod w (j - k), ← rd_mod w (i + ((m : Int) - 1 - k)), ← e, Int.emod_add_emod]
    congr 2
    omega
  rcases Nat.mod_two_eq_zero_or_one m with z | z
  · have k1 := key (m / 2) (by omega)
    rw [show (i : Int) + ((m : Int) - 1 - ((m / 2 : Nat) : Int)) = i + ((m / 2 : Nat) : Int) - 1 by omega] at k1
    exact h.red _ k1
  · have k1 := key (m / 2) (by omega)
    rw [show (i : Int) + ((m : Int) - 1 - ((m / 2 : Nat) : Int)) = i + ((m / 2 : Nat) : Int) by omega] at k1
    exact ctr_ne (hy.lt _ (h.rd _)) k1.symm
/-! forced meetings as data -/
structure Fm where
  c : Nat
  i : Nat
  d : Nat
  j : Nat
  m : Nat
  t : List Nat
def sAcross : List Nat := [97, 99, 114, 111, 115, 115]
def sAlong : List Nat := [97, 108, 111, 110, 103]
def sAgainst : List Nat := [97, 103, 97, 105, 110, 115, 116]
def mAc (y w v : List Nat) (i j : Nat) : Bool := ac y (ctr (rd w ((i : Int) - 1))) (rd w i) (ctr (rd v ((j : Int) - 1))) (rd v j)
def mAl (y w v : List Nat) (i j : Nat) : Nat := al y (sq w i) (sq v j) (w.length + v.length)
def mAg (y w v : List Nat) (i j : Nat) : Nat := al y (sq w i) (bq v j) (w.length + v.length)
def fonw (y w v : List Nat) (c i d j : Nat) : List Fm := (if mAc y w v i j = true then [⟨c, i, d, j, 0, sAcross⟩] else []) ++ (if 0 < mAl y w v i j then [⟨c, i, d, j, mAl y w v i j, sAlong⟩] else [])
def tBack (w : List Nat) (i j m : Nat) : Bool := ltP (((j : Int) - m + 1) % w.length) (((i : Int) + m - 1) % w.length) i j
def fag (y w v : List Nat) (c i d j : Nat) : List Fm := if mAg y w v i j = 0 ∨ (c = d ∧ tBack w i j (mAg y w v i j) = true) then [] else [⟨c, i, d, j, mAg y w v i j, sAgainst⟩]
def fat (y : List Nat) (ws : List (List Nat)) (o p : Nat × Nat) : List Fm :=
  (if ltP o.1 o.2 p.1 p.2 = true then fonw y (ws.getD o.1 []) (ws.getD p.1 []) o.1 o.2 p.1 p.2 else []) ++ (if o.1 ≤ p.1 then fag y (ws.getD o.1 []) (ws.getD p.1 []) o.1 o.2 p.1 p.2 else [])
def plc (ws : List (List Nat)) : Nat → List (Nat × Nat)
  | 0 => []
  | n + 1 => plc ws n ++ (List.range (ws.getD n []).length).map fun i => (n, i)
def places (ws : List (List Nat)) : List (Nat × Nat) := plc ws ws.length
def fall (y : List Nat) (ws : List (List Nat)) : List Fm := (places ws).flatMap fun o => (places ws).flatMap fun p => fat y ws o p
def fkey (x : Fm) : List Int := [x.c, x.i, x.d, x.j, x.m]
theorem fonw_mem {y w v : List Nat} {c i d j : Nat} {x : Fm} (h : x ∈ fonw y w v c i d j) : x.c = c ∧ x.i = i ∧ x.d = d ∧ x.j = j := by
  unfold fonw at h
  rcases List.mem_append.mp h with h | h <;> split at h
  · rw [List.mem_singleton.mp h]; exact ⟨rfl, rfl, rfl, rfl⟩
  · exact absurd h List.not_mem_nil
  · rw [List.mem_singleton.mp h]; exact ⟨rfl, rfl, rfl, rfl⟩
  · exact absurd h List.not_mem_nil
theorem fag_mem {y w v : List Nat} {c i d j : Nat} {x : Fm} (h : x ∈ fag y w v c i d j) : x = ⟨c, i, d, j, mAg y w v i j, sAgainst⟩ ∧ 0 < mAg y w v i j := by
  unfold fag at h
  split at h
  · exact absurd h List.not_mem_nil
  · rename_i z
    exact ⟨List.mem_singleton.mp h, Nat.pos_of_ne_zero fun q => z (.inl q)⟩
theorem fat_mem {y : List Nat} {ws : List (List Nat)} {o p : Nat × Nat} {x : Fm} (h : x ∈ fat y ws o p) : x.c = o.1 ∧ x.i = o.2 ∧ x.d = p.1 ∧ x.j = p.2 := by
  unfold fat at h
  rcases List.mem_append.mp h with h | h <;> split at h
  · exact fonw_mem h
  · exact absurd h List.not_mem_nil
  · rw [(fag_mem h).1]; exact ⟨rfl, rfl, rfl, rfl⟩
  · exact absurd h List.not_mem_nil
theorem fat_few (y : List Nat) (ws : List (List Nat)) (o p : Nat × Nat) : (fat y ws o p).length ≤ 3 := by
  unfold fat fonw fag
  rw [List.length_append]
  split <;> split <;> (try rw [List.length_append]) <;> (repeat' split) <;> simp
theorem lex_one {a b c d m a' b' c' d' m' : Int} (h : ltP a b a' b' = true) : lexI [a, b, c, d, m] [a', b', c', d', m'] = true := by
  unfold ltP at h
  simp only [lexI]
  split at h
  · rename_i z
    rw [if_pos z, if_neg (by intro q; rw [q] at h; simp at h)]
    exact h
  · rename_i z
    rw [if_neg z]; exact h
theorem lex_two {a b c d m c' d' m' : Int} (h : ltP c d c' d' = true) : lexI [a, b, c, d, m] [a, b, c', d', m'] = true := by
  unfold ltP at h
  simp only [lexI, if_true]
  split at h
  · rename_i z
    rw [if_pos z, if_neg (by intro q; rw [q] at h; simp at h)]
    exact h
  · rename_i z
    rw [if_neg z]; exact h
theorem lex_three {a b c d m m' : Int} (h : m < m') : lexI [a, b, c, d, m] [a, b, c, d, m'] = true := by
  simp only [lexI, if_true]
  rw [if_neg (by omega)]
  exact decide_eq_true h
theorem not_both {y w v : List Nat} {i j : Nat} (hy : Yd y) (hv : SW y v) (h1 : 0 < mAl y w v i j) (h2 : 0 < mAg y w v i j) : False := by
  have e1 := al_alike h1 0 h1
  have e2 := al_alike h2 0 h2
  unfold sq at e1 e2
  unfold bq at e2
  simp only [Int.natCast_zero, Int.add_zero, Int.sub_zero] at e1 e2
  rw [e1] at e2
  exact ctr_ne (hy.lt _ (hv.rd _)) e2.symm
theorem fat_asc {y : List Nat} {ws : List (List Nat)} {o p : Nat × Nat} (hy : Yd y) (hv : SW y (ws.getD p.1 [])) : (fat y ws o p).Pairwise fun a b => lexI (fkey a) (fkey b) = true := by
  unfold fat
  rw [List.pairwise_append]
  refine ⟨?_, ?_, fun a ha b hb => ?_⟩
  · split
    · unfold fonw
      rw [List.pairwise_append]
      refine ⟨?_, ?_, fun a ha b hb => ?_⟩
      · split
        · exact List.pairwise_singleton _ _
        · exact List.Pairwise.nil
      · split
        · exact List.pairwise_singleton _ _
        · exact List.Pairwise.nil
      · split at ha
        · split at hb
          · rename_i z
            rw [List.mem_singleton.mp ha, List.mem_singleton.mp hb]
            exact lex_three (Int.ofNat_lt.mpr z)
          · exact absurd hb List.not_mem_nil
        · exact absurd ha List.not_mem_nil
    · exact List.Pairwise.nil
  · split
    · unfold fag
      split
      · exact List.Pairwise.nil
      · exact List.pairwise_singleton _ _
    · exact List.Pairwise.nil
  · split at ha
    · split at hb
      · obtain ⟨eb, pb⟩ := fag_mem hb
        unfold fonw at ha
        rcases List.mem_append.mp ha with ha | ha <;> split at ha
        · rw [List.mem_singleton.mp ha, eb]
          exact lex_three (by show ((0 : Nat) : Int) < ((mAg _ _ _ _ _ : Nat) : Int); omega)
        · exact absurd ha List.not_mem_nil
        · rename_i z
          exact (not_both hy hv z pb).elim
        · exact absurd ha List.not_mem_nil
      · exact absurd hb List.not_mem_nil
    · exact absurd ha List.not_mem_nil
theorem plc_mem {ws : List (List Nat)} : ∀ {n : Nat} {o : Nat × Nat}, o ∈ plc ws n ↔ o.1 < n ∧ o.2 < (ws.getD o.1 []).length
  | 0, o => by simp [plc]
  | n + 1, o => by
    unfold plc
    rw [List.mem_append, plc_mem (n := n), List.mem_map]
    constructor
    · rintro (⟨h1, h2⟩ | ⟨i, hi, rfl⟩)
      · exact ⟨by omega, h2⟩
      · exact ⟨by simp, List.mem_range.mp hi⟩
    · rintro ⟨h1, h2⟩
      by_cases z : o.1 < n
      · exact .inl ⟨z, h2⟩
      · have e : o.1 = n := by omega
        exact .inr ⟨o.2, List.mem_range.mpr (by rw [← e]; exact h2), by rw [← e]⟩
theorem plc_asc {ws : List (List Nat)} : ∀ n : Nat, (plc ws n).Pairwise fun a b => ltP a.1 a.2 b.1 b.2 = true
  | 0 => List.Pairwise.nil
  | n + 1 => by
    unfold plc
    rw [List.pairwise_append]
    refine ⟨plc_asc n, ?_, fun a ha b hb => ?_⟩
    · rw [List.pairwise_map]
      refine List.pairwise_lt_range.imp fun {a b} h => ?_
      unfold ltP
      rw [if_pos rfl]
      exact decide_eq_true (by show (a : Int) < b; omega)
    · obtain ⟨i, hi, rfl⟩ := List.mem_map.mp hb
      have := (plc_mem.mp ha).1
      unfold ltP
      rw [if_neg (by show ¬ ((a.1 : Nat) : Int) = (n : Nat); omega)]
      exact decide_eq_true (by show ((a.1 : Nat) : Int) < (n : Nat); omega)
theorem fall_asc {y : List Nat} {ws : List (List Nat)} (hy : Yd y) (hw : ∀ w ∈ ws, SW y w) : (fall y ws).Pairwise fun a b => lexI (fkey a) (fkey b) = true := by
  have sw : ∀ p ∈ places ws, SW y (ws.getD p.1 []) := fun p hp => by
    have h1 := (plc_mem.mp hp).1
    rw [List.getD_eq_getElem?_getD, List.getElem?_eq_getElem h1]
    exact hw _ (List.getElem_mem h1)
  unfold fall
  rw [List.pairwise_flatMap]
  refine ⟨fun o ho => ?_, (plc_asc ws.length).imp fun {a b} h x hx z hz => ?_⟩
  · rw [List.pairwise_flatMap]
    refine ⟨fun p hp => fat_asc hy (sw p hp), (plc_asc ws.length).imp fun {a b} h x hx z hz => ?_⟩
    obtain ⟨a1, a2, a3, a4⟩ := fat_mem hx
    obtain ⟨b1, b2, b3, b4⟩ := fat_mem hz
    unfold fkey
    rw [a1, a2, a3, a4, b1, b2, b3, b4]
    exact lex_two h
  · obtain ⟨p, hp, hx⟩ := List.mem_flatMap.mp hx
    obtain ⟨q, hq, hz⟩ := List.mem_flatMap.mp hz
    obtain ⟨a1, a2, a3, a4⟩ := fat_mem hx
    obtain ⟨b1, b2, b3, b4⟩ := fat_mem hz
    unfold fkey
    rw [a1, a2, a3, a4, b1, b2, b3, b4]
    exact lex_one h
theorem lexI_asym : ∀ {a b : List Int}, lexI a b = true → lexI b a = false ∧ a ≠ b
  | [], [], h => by simp [lexI] at h
  | [], _ :: _, h => ⟨rfl, by simp⟩
  | _ :: _, [], h => by simp [lexI] at h
  | x :: r, z :: t, h => by
    simp only [lexI] at h ⊢
    split at h
    · rename_i e
      obtain ⟨h1, h2⟩ := lexI_asym h
      rw [if_pos e.symm]
      exact ⟨h1, fun q => h2 (List.cons.inj q).2⟩
    · rename_i e
      have h' := of_decide_eq_true h
      rw [if_neg (fun q => e q.symm)]
      exact ⟨decide_eq_false (by omega), fun q => e (List.cons.inj q).1⟩
theorem asc_next {L : List Fm} (h : L.Pairwise fun a b => lexI (fkey a) (fkey b) = true) (k : Nat) (a b : Fm) (ha : L[k]? = some a) (hb : L[k + 1]? = some b) : lexI (fkey b) (fkey a) = false ∧ fkey b ≠ fkey a := by
  obtain ⟨h1, e1⟩ := List.getElem?_eq_some_iff.mp ha
  obtain ⟨h2, e2⟩ := List.getElem?_eq_some_iff.mp hb
  have := List.pairwise_iff_getElem.mp h k (k + 1) h1 h2 (Nat.lt_succ_self _)
  rw [e1, e2] at this
  obtain ⟨g1, g2⟩ := lexI_asym this
  exact ⟨g1, Ne.symm g2⟩
/-- as the law reads it -/
def lat (y w v : List Nat) (c i d j : Nat) : List Fm :=
  (if ltP c i d j = true ∧ mAc y w v i j = true then [⟨c, i, d, j, 0, sAcross⟩] else []) ++ (if ltP c i d j = true ∧ 0 < mAl y w v i j then [⟨c, i, d, j, mAl y w v i j, sAlong⟩] else []) ++
  (if 0 < mAg y w v i j ∧ (c < d ∨ (c = d ∧ ltP i j (((j : Int) - mAg y w v i j + 1) % v.length) (((i : Int) + mAg y w v i j - 1) % w.length) = true)) then [⟨c, i, d, j, mAg y w v i j, sAgainst⟩] else [])
theorem ltP_flip {a b c d : Int} (h : ¬ (c = a ∧ d = b)) : ltP a b c d = !ltP c d a b := by
  unfold ltP
  by_cases z : a = c
  · rw [if_pos z, if_pos z.symm]
    have : d ≠ b := fun q => h ⟨z.symm, q⟩
    by_cases u : b < d
    · rw [decide_eq_true u, decide_eq_false (by omega)]; rfl
    · rw [decide_eq_false u, decide_eq_true (by omega)]; rfl
  · rw [if_neg z, if_neg (fun q => z q.symm)]
    by_cases u : a < c
    · rw [decide_eq_true u, decide_eq_false (by omega)]; rfl
    · rw [decide_eq_false u, decide_eq_true (by omega)]; rfl
theorem lat_fat {y : List Nat} {ws : List (List Nat)} {o p : Nat × Nat} (hy : Yd y) (hw : SW y (ws.getD o.1 [])) : lat y (ws.getD o.1 []) (ws.getD p.1 []) o.1 o.2 p.1 p.2 = fat y ws o p := by
  unfold lat fat fonw
  congr 1
  · by_cases z : ltP o.1 o.2 p.1 p.2 = true
    · rw [if_pos z]
      simp only [z, true_and]
    · rw [if_neg z, if_neg (fun q => z q.1), if_neg (fun q => z q.1)]
      rfl
  · unfold fag
    by_cases z : o.1 < p.1
    · rw [if_pos (Nat.le_of_lt z)]
      by_cases m0 : mAg y (ws.getD o.1 []) (ws.getD p.1 []) o.2 p.2 = 0
      · rw [if_neg (fun q => by omega), if_pos (.inl m0)]
      · rw [if_pos ⟨Nat.pos_of_ne_zero m0, .inl z⟩, if_neg (fun q => q.elim m0 fun q => by omega)]
    · by_cases e : o.1 = p.1
      · rw [if_pos (Nat.le_of_eq e), ← e]
        by_cases m0 : mAg y (ws.getD o.1 []) (ws.getD o.1 []) o.2 p.2 = 0
        · rw [if_neg (fun q => by omega), if_pos (.inl m0)]
        · have hm := Nat.pos_of_ne_zero m0
          have fl : ltP (o.2 : Int) p.2 (((p.2 : Int) - mAg y (ws.getD o.1 []) (ws.getD o.1 []) o.2 p.2 + 1) % (ws.getD o.1 []).length) (((o.2 : Int) + mAg y (ws.getD o.1 []) (ws.getD o.1 []) o.2 p.2 - 1) % (ws.getD o.1 []).length) = !tBack (ws.getD o.1 []) o.2 p.2 (mAg y (ws.getD o.1 []) (ws.getD o.1 []) o.2 p.2) :=
            ltP_flip fun q => no_self hy hw hm q.1
          by_cases b : tBack (ws.getD o.1 []) o.2 p.2 (mAg y (ws.getD o.1 []) (ws.getD o.1 []) o.2 p.2) = true
          · rw [if_neg (fun q => q.2.elim (fun q => by omega) fun q => by rw [fl, b] at q; simp at q), if_pos (.inr ⟨rfl, b⟩)]
          · rw [if_pos ⟨hm, .inr ⟨rfl, by rw [fl]; simpa using b⟩⟩, if_neg (fun q => q.elim m0 fun q => b q.2)]
      · rw [if_neg (fun q => q.2.elim z fun q => e q.1), if_neg (by omega)]
theorem al_le (y : List Nat) (f g : Int → Nat) (n : Nat) : al y f g n ≤ n := by
  unfold al
  have := (dif_spec f g n 0).2.1
  split
  · exact Nat.zero_le _
  · split
    · omega
    · exact Nat.zero_le _
/-! shortest words made -/
def reps' (n : Nat) (l : List Nat) : List Nat := (List.replicate n l).flatten
def Adj (w : List Nat) : Prop := ∀ (k a b : Nat), w[k]? = some a → w[k + 1]? = some b → b ≠ ctr a
theorem Adj.nil : Adj [] := fun k a b h => by simp at h
theorem Adj.one (c : Nat) : Adj [c] := fun k a b _ h => by simp at h
theorem Adj.take {w : List Nat} (h : Adj w) (n : Nat) : Adj (w.take n) := fun k a b h1 h2 => by
  rw [List.getElem?_take] at h1 h2
  split at h1
  · split at h2
    · exact h k a b h1 h2
    · cases h2
  · cases h1
theorem Adj.snoc {w : List Nat} {c : Nat} (h : Adj w) (hc : ∀ a, w.getLast? = some a → c ≠ ctr a) : Adj (w ++ [c]) := fun k a b h1 h2 => by
  by_cases z : k + 1 < w.length
  · rw [List.getElem?_append_left (by omega)] at h1
    rw [List.getElem?_append_left z] at h2
    exact h k a b h1 h2
  · have hk2 : k + 1 < (w ++ [c]).length := (List.getElem?_eq_some_iff.mp h2).1
    rw [List.length_append] at hk2
    have e : k + 1 = w.length := by simp at hk2; omega
    rw [List.getElem?_append_left (by omega)] at h1
    rw [e, List.getElem?_append_right (Nat.le_refl _), Nat.sub_self] at h2
    have e2 : c = b := by simpa using h2
    rw [← e2]
    refine hc a ?_
    rw [List.getLast?_eq_getElem?, show w.length - 1 = k by omega]
    exact h1
theorem SW.of {y w : List Nat} (ne : w ≠ []) (iny : ∀ c ∈ w, c ∈ y) (adj : Adj w) (hd : ∀ a b, w.head? = some a → w.getLast? = some b → a ≠ ctr b) : SW y w := by
  refine ⟨ne, iny, fun k => ?_⟩
  have hpos : 0 < w.length := List.length_pos_iff.mpr ne
  have h1 := Int.emod_nonneg k (b := (w.length : Int)) (by omega)
  have h2 := Int.emod_lt_of_pos k (b := (w.length : Int)) (by omega)
  have hk := rd_get ne k
  have hk1 := rd_get ne (k - 1)
  by_cases z : k % (w.length : Int) = 0
  · have e : (k - 1) % (w.length : Int) = w.length - 1 := by
      rw [← Int.emod_sub_emod, z]
      have : (0 : Int) - 1 = (w.length - 1) + w.length * (-1) := by omega
      rw [this, Int.add_mul_emod_self_left, Int.emod_eq_of_lt (by omega) (by omega)]
    rw [z] at hk
    rw [e] at hk1
    refine hd _ _ ?_ ?_
    · rw [List.head?_eq_getElem?]; exact hk
    · rw [List.getLast?_eq_getElem?, show w.length - 1 = ((w.length : Int) - 1).toNat by omega]; exact hk1
  · have e : (k - 1) % (w.length : Int) = k % w.length - 1 := by
      rw [← Int.emod_sub_emod, Int.emod_eq_of_lt (by omega) (by omega)]
    rw [e] at hk1
    refine adj _ _ _ hk1 ?_
    rw [show (k % (w.length : Int) - 1).toNat + 1 = (k % (w.length : Int)).toNat by omega]
    exact hk
theorem SW.adj {y w : List Nat} (h : SW y w) : Adj w := fun k a b h1 h2 => by
  have hk := (List.getElem?_eq_some_iff.mp h2).1
  have e1 := rd_nat (w := w) (k := k) (by omega)
  have e2 := rd_nat (w := w) (k := k + 1) hk
  rw [h1] at e1
  rw [h2] at e2
  rw [Option.some.inj e1, Option.some.inj e2]
  have := h.red ((k + 1 : Nat) : Int)
  rwa [show (((k + 1 : Nat) : Int) - 1) = (k : Int) by omega] at this
theorem rd_rot {w : List Nat} {n : Nat} (h : w ≠ []) (hn : n ≤ w.length) (k : Int) : rd (w.drop n ++ w.take n) k = rd w (k + n) := by
  have hpos : 0 < w.length := List.length_pos_iff.mpr h
  have hl : (w.drop n ++ w.take n).length = w.length := by rw [List.length_append, List.length_drop, List.length_take]; omega
  have h1 := Int.emod_nonneg k (b := (w.length : Int)) (by omega)
  have h2 := Int.emod_lt_of_pos k (b := (w.length : Int)) (by omega)
  have e : (k + n) % (w.length : Int) = (k % w.length + n) % w.length := by rw [Int.emod_add_emod]
  generalize hr : k % (w.length : Int) = r at h1 h2 e
  obtain ⟨m, rfl⟩ : ∃ m : Nat, r = m := ⟨r.toNat, by omega⟩
  have hm : m < w.length := by omega
  by_cases z : m + n < w.length
  · have hg : w[m + n]? = some (rd w (k + n)) := by
      have := rd_get h (k + n)
      rwa [e, Int.emod_eq_of_lt (by omega) (by omega), show ((m : Int) + n).toNat = m + n by omega] at this
    refine rd_eq (n := m) (by rw [hl]; exact hm) (by rw [hl]; exact hr) ?_
    rw [List.getElem?_append_left (by rw [List.length_drop]; omega), List.getElem?_drop, Nat.add_comm]
    exact hg
  · have hg : w[m + n - w.length]? = some (rd w (k + n)) := by
      have := rd_get h (k + n)
      have e2 : ((m : Int) + n) % w.length = ((m + n - w.length : Nat) : Int) := by
        have : (m : Int) + n = ((m + n - w.length : Nat) : Int) + w.length := by omega
        rw [this, Int.add_emod_right, Int.emod_eq_of_lt (by omega) (by omega)]
      rwa [e, e2, Int.toNat_natCast] at this
    refine rd_eq (n := m) (by rw [hl]; exact hm) (by rw [hl]; exact hr) ?_
    rw [List.getElem?_append_right (by rw [List.length_drop]; omega), List.length_drop, List.getElem?_take, if_pos (by omega), show m - (w.length - n) = m + n - w.length by omega]
    exact hg
theorem SW.rot {y w : List Nat} {n : Nat} (h : SW y w) (hn : n ≤ w.length) : SW y (w.drop n ++ w.take n) := by
  refine ⟨fun z => h.ne ?_, fun c hc => ?_, fun k => ?_⟩
  · have l0 : (w.drop n ++ w.take n).length = 0 := by rw [z]; rfl
    rw [List.length_append, List.length_drop, List.length_take] at l0
    exact List.length_eq_zero_iff.mp (by omega)
  · exact h.iny c ((List.mem_append.mp hc).elim List.mem_of_mem_drop List.mem_of_mem_take)
  · rw [rd_rot h.ne hn, rd_rot h.ne hn, show k - 1 + n = k + n - 1 by omega]
    exact h.red _
theorem SW.tnd {y w : List Nat} (hy : Yd y) (h : SW y w) : SW y (tnd w) := by
  refine ⟨fun z => h.ne ?_, fun c hc => ?_, fun k => ?_⟩
  · have := tnd_len w
    rw [z] at this
    exact List.length_eq_zero_iff.mp this.symm
  · obtain ⟨d, hd, rfl⟩ := List.mem_map.mp (List.mem_reverse.mp hc)
    exact hy.cl d (h.iny d hd)
  · rw [rd_tnd h.ne, rd_tnd h.ne, show -1 - (k - 1) = -1 - k + 1 by omega]
    intro q
    have l1 := hy.lt _ (h.rd (-1 - k))
    have l2 := hy.lt _ (h.rd (-1 - k + 1))
    rw [ctr_ctr l2] at q
    have := h.red (-1 - k + 1)
    rw [show -1 - k + 1 - 1 = -1 - k by omega] at this
    exact this q.symm
theorem rps_succ (n : Nat) (l : List Nat) : reps' (n + 1) l = l ++ reps' n l := by unfold reps'; rw [List.replicate_succ, List.flatten_cons]
theorem rps_len (n : Nat) (l : List Nat) : (reps' n l).length = n * l.length := by
  induction n with
  | zero => simp [reps']
  | succ n ih => rw [rps_succ, List.length_append, ih, Nat.succ_mul, Nat.add_comm]
theorem rps_get {l : List Nat} : ∀ {n k : Nat}, k < n * l.length → (reps' n l)[k]? = l[k % l.length]?
  | 0, k, h => by simp at h
  | n + 1, k, h => by
    rw [rps_succ]
    by_cases z : k < l.length
    · rw [List.getElem?_append_left z, Nat.mod_eq_of_lt z]
    · rw [List.getElem?_append_right (by omega), rps_get (by rw [Nat.succ_mul] at h; omega), Nat.mod_eq_sub_mod (by omega : l.length ≤ k)]
theorem rd_reps {w : List Nat} {n : Nat} (h : w ≠ []) (hn : 0 < n) (k : Int) : rd (reps' n w) k = rd w k := by
  have hpos : 0 < w.length := List.length_pos_iff.mpr h
  have hl := rps_len n w
  have hpos2 : 0 < n * w.length := Nat.mul_pos hn hpos
  have h1 := Int.emod_nonneg k (b := ((n * w.length : Nat) : Int)) (by omega)
  have h2 := Int.emod_lt_of_pos k (b := ((n * w.length : Nat) : Int)) (by omega)
  have e : k % (w.length : Int) = (k % ((n * w.length : Nat) : Int)) % w.length := (Int.emod_emod_of_dvd k (by rw [Int.natCast_mul]; exact Int.dvd_mul_left _ _)).symm
  generalize hr : k % ((n * w.length : Nat) : Int) = r at h1 h2 e
  obtain ⟨m, rfl⟩ : ∃ m : Nat, r = m := ⟨r.toNat, by omega⟩
  have hm : m < n * w.length := by omega
  refine rd_eq (n := m) (by rw [hl]; exact hm) (by rw [hl]; exact hr) ?_
  rw [rps_get hm]
  have := rd_get h k
  rwa [e, show (((m : Int) % w.length).toNat) = m % w.length by rw [← Int.natCast_emod, Int.toNat_natCast]] at this
theorem rps_mem {w : List Nat} {n c : Nat} (h : c ∈ reps' n w) : c ∈ w := by
  obtain ⟨l, hl, hc⟩ := List.mem_flatten.mp h
  rwa [List.eq_of_mem_replicate hl] at hc
theorem SW.reps {y w : List Nat} {n : Nat} (h : SW y w) (hn : 0 < n) : SW y (reps' n w) := by
  refine ⟨fun z => ?_, fun c hc => h.iny c (rps_mem hc), fun k => by rw [rd_reps h.ne hn, rd_reps h.ne hn]; exact h.red k⟩
  have := rps_len n w
  rw [z] at this
  have h2 : 0 < n * w.length := Nat.mul_pos hn (List.length_pos_iff.mpr h.ne)
  simp at this
  omega
theorem SW.twice {y w : List Nat} (h : SW y w) : SW y (w ++ w) := by
  have := h.reps (n := 2) (by decide)
  rwa [show reps' 2 w = w ++ w by rw [rps_succ, rps_succ]; simp [reps']] at this
theorem SW.snoc {y w : List Nat} {c : Nat} (hy : Yd y) (adj : Adj w) (iny : ∀ a ∈ w, a ∈ y) (hc : c ∈ y) (h1 : ∀ a, w.getLast? = some a → c ≠ ctr a) (h2 : ∀ a, w.head? = some a → c ≠ ctr a) : SW y (w ++ [c]) := by
  refine SW.of (by simp) (fun a ha => ?_) (adj.snoc h1) fun a b ha hb => ?_
  · rcases List.mem_append.mp ha with q | q
    · exact iny a q
    · rw [List.mem_singleton.mp q]; exact hc
  · have eb : b = c := by simpa using hb.symm
    subst eb
    cases w with
    | nil =>
      have : b = a := by simpa using ha
      rw [← this]
      exact fun q => ctr_ne (hy.lt b hc) q.symm
    | cons x r =>
      have : x = a := by simpa using ha
      subst this
      have hx : x ∈ y := iny x List.mem_cons_self
      intro q
      exact h2 x rfl (by rw [q, ctr_ctr (hy.lt b hc)])
theorem rd_last {w : List Nat} (h : w ≠ []) : w.getLast? = some (rd w (-1)) := by
  have hpos : 0 < w.length := List.length_pos_iff.mpr h
  have := rd_get h (-1)
  have e : (-1 : Int) % (w.length : Int) = w.length - 1 := by
    have e2 : (-1 : Int) = ((w.length : Int) - 1) + w.length * (-1) := by omega
    rw [e2, Int.add_mul_emod_self_left, Int.emod_eq_of_lt (by omega) (by omega)]
  rw [e] at this
  rw [List.getLast?_eq_getElem?, show w.length - 1 = ((w.length : Int) - 1).toNat by omega]
  exact this
theorem rd_head {w : List Nat} (h : w ≠ []) : w.head? = some (rd w 0) := by
  have := rd_get h 0
  rw [List.head?_eq_getElem?]
  simpa using this
/-! ends counted from one of them on -/
theorem idx_rot {a b : List Nat} {e : Nat} (hn : (a ++ b).Nodup) (he : e ∈ a ++ b) : (b ++ a).idxOf e = if (a ++ b).idxOf e < a.length then (a ++ b).idxOf e + b.length else (a ++ b).idxOf e - a.length := by
  rw [List.nodup_append] at hn
  obtain ⟨na, nb, dis⟩ := hn
  by_cases z : e ∈ a
  · have zb : e ∉ b := fun q => dis e z e q rfl
    rw [List.idxOf_append, List.idxOf_append, if_pos z, if_neg zb, if_pos (List.idxOf_lt_length_of_mem z)]
  · have zb : e ∈ b := (List.mem_append.mp he).resolve_left z
    rw [List.idxOf_append, List.idxOf_append, if_pos zb, if_neg z, if_neg (by omega)]
    omega
theorem idx_round {y : List Nat} {k e : Nat} (hn : y.Nodup) (hk : k ≤ y.length) (he : e ∈ y) : (((y.drop k ++ y.take k).idxOf e : Nat) : Int) = ((y.idxOf e : Int) - k) % y.length := by
  have h1 := idx_rot (a := y.take k) (b := y.drop k) (e := e) (by rw [List.take_append_drop]; exact hn) (by rw [List.take_append_drop]; exact he)
  rw [List.take_append_drop, List.length_take, List.length_drop, Nat.min_eq_left hk] at h1
  have hi := List.idxOf_lt_length_of_mem he
  rw [h1]
  by_cases z : y.idxOf e < k
  · rw [if_pos z]
    have : (y.idxOf e : Int) - k = ((y.idxOf e + (y.length - k) : Nat) : Int) + y.length * (-1) := by omega
    rw [this, Int.add_mul_emod_self_left, Int.emod_eq_of_lt (by omega) (by omega)]
  · rw [if_neg z, Int.emod_eq_of_lt (by omega) (by omega)]
    omega
theorem gr_index {y : List Nat} {a b c : Nat} (hn : y.Nodup) (ha : a ∈ y) (hb : b ∈ y) (hc : c ∈ y) : decide ((((y.drop (y.idxOf a) ++ y.take (y.idxOf a)).idxOf b : Nat) : Int) < (((y.drop (y.idxOf a) ++ y.take (y.idxOf a)).idxOf c : Nat) : Int)) = gr y a b c := by
  have hk := Nat.le_of_lt (List.idxOf_lt_length_of_mem ha)
  rw [idx_round hn hk hb, idx_round hn hk hc]
  rfl
theorem sIx_m1 (n d : Nat) : HT.sIx n d (some (-1)) = n - 1 := by
  have e : HT.sIx n d (some (-1)) = (if (-1 : Int) < 0 then ((-1 : Int) + (n : Int)).toNat else min (-1 : Int).toNat n) := rfl
  rw [e, if_pos (by decide)]
  omega
theorem cut_m2 {α : Type} (l : List α) : cut l (some (-2)) none = l.drop (l.length - 2) := by
  have e : ∀ d, HT.sIx l.length d (some (-2)) = (if (-2 : Int) < 0 then ((-2 : Int) + (l.length : Int)).toNat else min (-2 : Int).toNat l.length) := fun _ => rfl
  have e2 : ∀ d, HT.sIx l.length d (some (-2)) = l.length - 2 := fun d => by rw [e, if_pos (by decide)]; omega
  unfold cut
  rw [HT.sIx_none, e2, List.take_of_length_le (by rw [List.length_drop]; exact Nat.le_refl _)]
/-! forced meetings: what the defs promise -/
def fmV (x : Fm) : List V := [.int x.c, .int x.i, .int x.d, .int x.j, .int x.m, .str (S x.t)]
structure Fa where
  a : Addr
  x : Fm
def fav (L : List Fa) : List V := L.map fun k => V.ref k.a
theorem fav_len (L : List Fa) : (fav L).length = L.length := by unfold fav; rw [List.length_map]
theorem fav_app (a b : List Fa) : fav a ++ fav b = fav (a ++ b) := by unfold fav; rw [List.map_append]
theorem fav_snoc (a : List Fa) (k : Fa) : fav a ++ [V.ref k.a] = fav (a ++ [k]) := by unfold fav; rw [List.map_append]; rfl
def FaAll (H : Hp) (L : List Fa) : Prop := ∀ k ∈ L, H k.a = some (.tup (fmV k.x))
theorem FaAll.nil (H : Hp) : FaAll H [] := fun _ h => absurd h List.not_mem_nil
theorem FaAll.ts {H H' : Hp} {L : List Fa} (h : FaAll H L) (s : TSame H H') : FaAll H' L := fun k hk => s _ _ (h k hk)
theorem FaAll.app {H : Hp} {a b : List Fa} (x : FaAll H a) (y : FaAll H b) : FaAll H (a ++ b) := fun k hk => (List.mem_append.mp hk).elim (x k) (y k)
theorem FaAll.snoc {H : Hp} {a : List Fa} {k : Fa} (x : FaAll H a) (y : H k.a = some (.tup (fmV k.x))) : FaAll H (a ++ [k]) := x.app fun z hz => by rw [List.mem_singleton.mp hz]; exact y
/-- a strand, at t -/
structure Sd where
  t : Addr
  c : Nat
  i : Nat
def Sd.pair (p : Sd) : Nat × Nat := (p.c, p.i)
def sdv (ps : List Sd) : List V := ps.map fun p => V.ref p.t
theorem sdv_len (ps : List Sd) : (sdv ps).length = ps.length := by unfold sdv; rw [List.length_map]
theorem sdv_snoc (a : List Sd) (p : Sd) : sdv a ++ [V.ref p.t] = sdv (a ++ [p]) := by unfold sdv; rw [List.map_append]; rfl
theorem sdv_app (a b : List Sd) : sdv a ++ sdv b = sdv (a ++ b) := by unfold sdv; rw [List.map_append]
theorem sdv_at {ps : List Sd} {i : Nat} {x : V} (h : (sdv ps)[i]? = some x) : ∃ p, ps[i]? = some p ∧ x = V.ref p.t := by
  unfold sdv at h
  rw [List.getElem?_map] at h
  cases e : ps[i]? with
  | none => rw [e] at h; cases h
  | some p => rw [e] at h; cases h; exact ⟨p, rfl, rfl⟩
def SdAll (H : Hp) (ps : List Sd) : Prop := ∀ p ∈ ps, H p.t = some (.tup [.int p.c, .int p.i])
theorem SdAll.ts {H H' : Hp} {L : List Sd} (h : SdAll H L) (s : TSame H H') : SdAll H' L := fun k hk => s _ _ (h k hk)
/-- some cords -/
structure WsK (y : List Nat) (ws : List (List Nat)) : Prop where
  sw : ∀ w ∈ ws, SW y w ∧ w.length ≤ 12
  few : ws.length ≤ 4
  all : (places ws).length ≤ 24
theorem getD_at {ws : List (List Nat)} {c : Nat} (h : c < ws.length) : (txs ws)[c]? = some (V.str (S (ws.getD c []))) := by
  rw [txs_at h, List.getD_eq_getElem?_getD, List.getElem?_eq_getElem h]; rfl
theorem getD_in {ws : List (List Nat)} {c : Nat} (h : c < ws.length) : ws.getD c [] ∈ ws := by
  rw [List.getD_eq_getElem?_getD, List.getElem?_eq_getElem h]; exact List.getElem_mem h
theorem getD_tnd {ws : List (List Nat)} {c : Nat} (h : c < ws.length) : (txs (ws.map tnd))[c]? = some (V.str (S (tnd (ws.getD c [])))) := by
  rw [txs_at (by rw [List.length_map]; exact h), List.getElem_map, List.getD_eq_getElem?_getD, List.getElem?_eq_getElem h]; rfl
def sp_corner_ends (_ : PySem.W.Frag) : Sp := fun vs H Q _ => ∃ (w : List Nat) (i : Nat), vs = [.str (S w), .int i] ∧ (∀ c ∈ w, Lt c) ∧ w.length ≤ 1000 ∧ i < w.length ∧ ∀ q H', H q = none → H' q = some (.tup [.str (S [ctr (rd w ((i : Int) - 1))]), .str (S [rd w i])]) → Same H H' → Q (.ref q) H'
theorem len_corner_ends {K : PySem.W.Frag} {vs : List V} {H : Hp} {Q : VK} {E : XK} (h : sp_corner_ends K vs H Q E) : vs.length = 2 := by obtain ⟨_, _, rfl, _⟩ := h; rfl
def sp_meets_across (_ : PySem.W.Frag) : Sp := fun vs H Q _ => ∃ (y w : List Nat) (i : Nat) (v : List Nat) (j : Nat), vs = [.str (S y), .str (S w), .int i, .str (S v), .int j] ∧ Yd y ∧ y.length ≤ 8 ∧ SW y w ∧ SW y v ∧ w.length ≤ 12 ∧ v.length ≤ 12 ∧ i < w.length ∧ j < v.length ∧ ∀ H', Same H H' → Q (.bl (mAc y w v i j)) H'
theorem len_meets_across {K : PySem.W.Frag} {vs : List V} {H : Hp} {Q : VK} {E : XK} (h : sp_meets_across K vs H Q E) : vs.length = 5 := by obtain ⟨_, _, _, _, _, rfl, _⟩ := h; rfl
def sp_letters_shared (_ : PySem.W.Frag) : Sp := fun vs H Q _ => ∃ (w : List Nat) (i : Nat) (v : List Nat) (j m : Nat), vs = [.str (S w), .int i, .str (S v), .int j] ∧ w ≠ [] ∧ v ≠ [] ∧ w.length ≤ 100 ∧ v.length ≤ 100 ∧ i ≤ 100 ∧ j ≤ 100 ∧ m ≤ 1000 ∧ (∀ k : Nat, k < m → sq w i k = sq v j k) ∧ sq w i m ≠ sq v j m ∧ Q (.int m) H
theorem len_letters_shared {K : PySem.W.Frag} {vs : List V} {H : Hp} {Q : VK} {E : XK} (h : sp_letters_shared K vs H Q E) : vs.length = 4 := by obtain ⟨_, _, _, _, _, rfl, _⟩ := h; rfl
def sp_letters_along (_ : PySem.W.Frag) : Sp := fun vs H Q _ => ∃ (y w : List Nat) (i : Nat) (v : List Nat) (j : Nat), vs = [.str (S y), .str (S w), .int i, .str (S v), .int j] ∧ Yd y ∧ y.length ≤ 8 ∧ (∀ c ∈ w, c ∈ y) ∧ (∀ c ∈ v, c ∈ y) ∧ w.length ≤ 12 ∧ v.length ≤ 12 ∧ i < w.length ∧ j < v.length ∧ Q (.int (al y (sq w i) (sq v j) (w.length + v.length))) H
theorem len_letters_along {K : PySem.W.Frag} {vs : List V} {H : Hp} {Q : VK} {E : XK} (h : sp_letters_along K vs H Q E) : vs.length = 5 := by obtain ⟨_, _, _, _, _, rfl, _⟩ := h; rfl
/-- two strands of some cords at hand -/
structure TwoS (H : Hp) (y : List Nat) (wt : Addr) (ws : List (List Nat)) (o p : Addr) (c i d j : Nat) : Prop where
  yd : Yd y
  yz : y.length ≤ 8
  ok : WsK y ws
  wt : H wt = some (.tup (txs ws))
  o : H o = some (.tup [.int c, .int i])
  p : H p = some (.tup [.int d, .int j])
  hc : c < ws.length
  hi : i < (ws.getD c []).length
  hd : d < ws.length
  hj : j < (ws.getD d []).length
theorem TwoS.ts {H H' : Hp} {y : List Nat} {wt : Addr} {ws : List (List Nat)} {o p : Addr} {c i d j : Nat} (h : TwoS H y wt ws o p c i d j) (s : TSame H H') : TwoS H' y wt ws o p c i d j := ⟨h.yd, h.yz, h.ok, s _ _ h.wt, s _ _ h.o, s _ _ h.p, h.hc, h.hi, h.hd, h.hj⟩
theorem TwoS.w {H : Hp} {y : List Nat} {wt : Addr} {ws : List (List Nat)} {o p : Addr} {c i d j : Nat} (h : TwoS H y wt ws o p c i d j) : SW y (ws.getD c []) ∧ (ws.getD c []).length ≤ 12 := h.ok.sw _ (getD_in h.hc)
theorem TwoS.v {H : Hp} {y : List Nat} {wt : Addr} {ws : List (List Nat)} {o p : Addr} {c i d j : Nat} (h : TwoS H y wt ws o p c i d j) : SW y (ws.getD d []) ∧ (ws.getD d []).length ≤ 12 := h.ok.sw _ (getD_in h.hd)
def sp_forced_onward (_ : PySem.W.Frag) : Sp := fun vs H Q _ => ∃ (y : List Nat) (wt : Addr) (ws : List (List Nat)) (o p : Addr) (c i d j : Nat), vs = [.str (S y), .ref wt, .ref o, .ref p] ∧ TwoS H y wt ws o p c i d j ∧
  ∀ (q : Addr) (L : List Fa) (H' : Hp), H q = none → H' q = some (.lst (fav L)) → FaAll H' L → L.map Fa.x = fonw y (ws.getD c []) (ws.getD d []) c i d j → Same H H' → Q (.ref q) H'
theorem len_forced_onward {K : PySem.W.Frag} {vs : List V} {H : Hp} {Q : VK} {E : XK} (h : sp_forced_onward K vs H Q E) : vs.length = 4 := by obtain ⟨_, _, _, _, _, _, _, _, _, rfl, _⟩ := h; rfl
def sp_forced_against (_ : PySem.W.Frag) : Sp := fun vs H Q _ => ∃ (y : List Nat) (wt : Addr) (ws : List (List Nat)) (bk o p : Addr) (c i d j : Nat), vs = [.str (S y), .ref wt, .ref bk, .ref o, .ref p] ∧ TwoS H y wt ws o p c i d j ∧ H bk = some (.lst (txs (ws.map tnd))) ∧
  ∀ (q : Addr) (L : List Fa) (H' : Hp), H q = none → H' q = some (.lst (fav L)) → FaAll H' L → L.map Fa.x = fag y (ws.getD c []) (ws.getD d []) c i d j → Same H H' → Q (.ref q) H'
theorem len_forced_against {K : PySem.W.Frag} {vs : List V} {H : Hp} {Q : VK} {E : XK} (h : sp_forced_against K vs H Q E) : vs.length = 5 := by obtain ⟨_, _, _, _, _, _, _, _, _, _, rfl, _⟩ := h; rfl
def sp_forced_at (_ : PySem.W.Frag) : Sp := fun vs H Q _ => ∃ (y : List Nat) (wt : Addr) (ws : List (List Nat)) (bk o p : Addr) (c i d j : Nat), vs = [.str (S y), .ref wt, .ref bk, .ref o, .ref p] ∧ TwoS H y wt ws o p c i d j ∧ H bk = some (.lst (txs (ws.map tnd))) ∧
  ∀ (q : Addr) (L : List Fa) (H' : Hp), H q = none → H' q = some (.lst (fav L)) → FaAll H' L → L.map Fa.x = fat y ws (c, i) (d, j) → Same H H' → Q (.ref q) H'
theorem len_forced_at {K : PySem.W.Frag} {vs : List V} {H : Hp} {Q : VK} {E : XK} (h : sp_forced_at K vs H Q E) : vs.length = 5 := by obtain ⟨_, _, _, _, _, _, _, _, _, _, rfl, _⟩ := h; rfl
def Forces (H : Hp) (Q : VK) (vs : List V) : Prop := ∃ (y : List Nat) (wt : Addr) (ws : List (List Nat)), vs = [.str (S y), .ref wt] ∧ Yd y ∧ y.length ≤ 8 ∧ WsK y ws ∧ H wt = some (.tup (txs ws)) ∧
  ∀ (q : Addr) (L : List Fa) (H' : Hp), H q = none → H' q = some (.lst (fav L)) → FaAll H' L → L.map Fa.x = fall y ws → Same H H' → Q (.ref q) H'
def sp_Lforced (_ : PySem.W.Frag) : Sp := fun vs H Q _ => Forces H Q vs
theorem len_Lforced {K : PySem.W.Frag} {vs : List V} {H : Hp} {Q : VK} {E : XK} (h : sp_Lforced K vs H Q E) : vs.length = 2 := by obtain ⟨_, _, _, rfl, _⟩ := h; rfl
def sp_Lshort (_ : PySem.W.Frag) : Sp := fun vs H Q _ => ∃ (b : Addr) (y : List Nat) (top : Nat), vs = [.ref b, .str (S y), .int top] ∧ BoxAt H b ∧ Yd y ∧ 2 ≤ y.length ∧ y.length ≤ 8 ∧ 1 ≤ top ∧ top ≤ 100 ∧ ∀ (w : List Nat) H', SW y w → w.length ≤ top → BoxAt H' b → SameB b H H' → Q (.str (S w)) H'
theorem len_Lshort {K : PySem.W.Frag} {vs : List V} {H : Hp} {Q : VK} {E : XK} (h : sp_Lshort K vs H Q E) : vs.length = 3 := by obtain ⟨_, _, _, rfl, _⟩ := h; rfl
def sp_Lnear (_ : PySem.W.Frag) : Sp := fun vs H Q _ => ∃ (b : Addr) (y w : List Nat) (top : Nat), vs = [.ref b, .str (S y), .str (S w), .int top] ∧ BoxAt H b ∧ Yd y ∧ 2 ≤ y.length ∧ y.length ≤ 8 ∧ 1 ≤ top ∧ top ≤ 100 ∧ SW y w ∧ w.length ≤ top ∧ ∀ (u : List Nat) H', SW y u → u.length ≤ top → BoxAt H' b → SameB b H H' → Q (.str (S u)) H'
theorem len_Lnear {K : PySem.W.Frag} {vs : List V} {H : Hp} {Q : VK} {E : XK} (h : sp_Lnear K vs H Q E) : vs.length = 4 := by obtain ⟨_, _, _, _, rfl, _⟩ := h; rfl
def sp_Lround (_ : PySem.W.Frag) : Sp := fun vs H Q _ => ∃ (y : List Nat) (a b c : Nat), vs = [.str (S y), .str (S [a]), .str (S [b]), .str (S [c])] ∧ y.Nodup ∧ a ∈ y ∧ b ∈ y ∧ c ∈ y ∧ y.length ≤ 1000 ∧ Q (.bl (gr y a b c)) H
theorem len_Lround {K : PySem.W.Frag} {vs : List V} {H : Hp} {Q : VK} {E : XK} (h : sp_Lround K vs H Q E) : vs.length = 4 := by obtain ⟨c, _, _, _, rfl, _⟩ := h; rfl
def sp_Lon (_ : PySem.W.Frag) : Sp := fun vs H Q _ => ∃ (w : List Nat) (k : Int), vs = [.str (S w), .int k] ∧ w ≠ [] ∧ w.length ≤ 1000 ∧ Q (.str (S [rd w k])) H
theorem len_Lon {K : PySem.W.Frag} {vs : List V} {H : Hp} {Q : VK} {E : XK} (h : sp_Lon K vs H Q E) : vs.length = 2 := by obtain ⟨_, _, rfl, _⟩ := h; rfl
def sp_Lacross (_ : PySem.W.Frag) : Sp := fun vs H Q _ => ∃ (y w : List Nat) (i : Nat) (v : List Nat) (j : Nat), vs = [.str (S y), .str (S w), .int i, .str (S v), .int j] ∧ Yd y ∧ y.length ≤ 8 ∧ SW y w ∧ SW y v ∧ w.length ≤ 12 ∧ v.length ≤ 12 ∧ i < w.length ∧ j < v.length ∧ ∀ H', Same H H' → Q (.bl (mAc y w v i j)) H'
theorem len_Lacross {K : PySem.W.Frag} {vs : List V} {H : Hp} {Q : VK} {E : XK} (h : sp_Lacross K vs H Q E) : vs.length = 5 := by obtain ⟨_, _, _, _, _, rfl, _⟩ := h; rfl
/-- along, or against -/
def wq (v : List Nat) (j : Int) (b : Bool) : Int → Nat := if b = true then bq v j else sq v j
theorem wq_per (v : List Nat) (j : Int) (b : Bool) (k : Int) : wq v j b (k + v.length) = wq v j b k := by
  unfold wq
  cases b
  · rw [if_neg (by decide)]; exact sq_per v j k
  · rw [if_pos rfl]; exact bq_per v j k
def shV (f g : Int → Nat) (n : Nat) : Int := if dif f g n 0 = n then -1 else dif f g n 0
def sp_Lshared (_ : PySem.W.Frag) : Sp := fun vs H Q _ => ∃ (w : List Nat) (i : Nat) (v : List Nat) (j : Nat) (b : Bool), vs = [.str (S w), .int i, .str (S v), .int j, .bl b] ∧ w ≠ [] ∧ v ≠ [] ∧ (∀ c ∈ v, Lt c) ∧ w.length ≤ 12 ∧ v.length ≤ 12 ∧ Q (.int (shV (sq w i) (wq v j b) (w.length + v.length))) H
theorem len_Lshared {K : PySem.W.Frag} {vs : List V} {H : Hp} {Q : VK} {E : XK} (h : sp_Lshared K vs H Q E) : vs.length = 5 := by obtain ⟨_, _, _, _, _, rfl, _⟩ := h; rfl
def sp_Lbegins (_ : PySem.W.Frag) : Sp := fun vs H Q _ => ∃ (y w : List Nat) (i : Nat) (v : List Nat) (j : Nat) (b : Bool), vs = [.str (S y), .str (S w), .int i, .str (S v), .int j, .bl b] ∧ Yd y ∧ y.length ≤ 8 ∧ SW y w ∧ SW y v ∧ w.length ≤ 12 ∧ v.length ≤ 12 ∧ ∀ H', Same H H' → Q (.int (al y (sq w i) (wq v j b) (w.length + v.length))) H'
theorem len_Lbegins {K : PySem.W.Frag} {vs : List V} {H : Hp} {Q : VK} {E : XK} (h : sp_Lbegins K vs H Q E) : vs.length = 6 := by obtain ⟨_, _, _, _, _, _, rfl, _⟩ := h; rfl
theorem plc_few {ws : List (List Nat)} {m : Nat} (h : ∀ w ∈ ws, w.length ≤ m) : ∀ n : Nat, n ≤ ws.length → (plc ws n).length ≤ n * m
  | 0, _ => Nat.zero_le _
  | n + 1, hn => by
    unfold plc
    have := plc_few h n (by omega)
    have h2 := h _ (getD_in (ws := ws) (c := n) (by omega))
    rw [List.length_append, List.length_map, List.length_range, Nat.succ_mul]
    omega
theorem al_same {y : List Nat} {f g : Int → Nat} {n : Nat} (hf : 0 < shV f g n) : shV f g n = dif f g n 0 ∧ 0 < dif f g n 0 ∧ f 0 = g 0 := by
  unfold shV at hf ⊢
  by_cases z : dif f g n 0 = n
  · rw [if_pos z] at hf; omega
  · rw [if_neg z] at hf ⊢
    have hp : 0 < dif f g n 0 := by omega
    exact ⟨rfl, hp, (dif_spec f g n 0).2.2.1 0 (Nat.le_refl _) hp⟩
theorem put_fa {H2 : Hp} {t a3 : Addr} {L : List Fa} {x : Fm} {H3 : Hp} (ht : H2 t = some (.lst (fav L))) (hL : FaAll H2 L) (s : Same H2 H3) (n3 : H3 a3 = none) :
    FaAll (upd (upd H3 a3 (.tup (fmV x))) t (.lst (fav (L ++ [⟨a3, x⟩])))) (L ++ [⟨a3, x⟩]) ∧ TSame H2 (upd (upd H3 a3 (.tup (fmV x))) t (.lst (fav (L ++ [⟨a3, x⟩])))) ∧
    (∀ H, H t = none → Same H H2 → Same H (upd (upd H3 a3 (.tup (fmV x))) t (.lst (fav (L ++ [⟨a3, x⟩]))))) ∧ upd (upd H3 a3 (.tup (fmV x))) t (.lst (fav (L ++ [⟨a3, x⟩]))) t = some (.lst (fav (L ++ [⟨a3, x⟩]))) := by
  have s3 := s.trans (Same.upd (o := .tup (fmV x)) n3)
  have ht3 := s3 _ _ ht
  have hat : a3 ≠ t := fun z => by rw [z, s _ _ ht] at n3; cases n3
  have ts : TSame H2 (upd (upd H3 a3 (.tup (fmV x))) t (.lst (fav (L ++ [⟨a3, x⟩])))) := (TSame.of s3).trans (TSame.updL ht3)
  refine ⟨(hL.ts ts).snoc ?_, ts, fun H n s0 a o e => ?_, upd_same⟩
  · show upd _ t _ a3 = _
    rw [upd_ne hat, upd_same]
  · rw [upd_ne (ne_of_none e n)]
    exact s3 _ _ (s0 a o e)
theorem ext_fa {H2 : Hp} {t : Addr} {L M : List Fa} (ht : H2 t = some (.lst (fav L))) (hL : FaAll H2 L) (hM : FaAll H2 M) :
    FaAll (upd H2 t (.lst (fav L ++ fav M))) (L ++ M) ∧ TSame H2 (upd H2 t (.lst (fav L ++ fav M))) ∧ (∀ H, H t = none → Same H H2 → Same H (upd H2 t (.lst (fav L ++ fav M)))) ∧ upd H2 t (.lst (fav L ++ fav M)) t = some (.lst (fav (L ++ M))) := by
  have ts : TSame H2 (upd H2 t (.lst (fav L ++ fav M))) := TSame.updL ht
  exact ⟨(hL.ts ts).app (hM.ts ts), ts, fun H n s0 a o e => by rw [upd_ne (ne_of_none e n)]; exact s0 a o e, by rw [upd_same, fav_app]⟩
theorem fa_len {L : List Fa} {M : List Fm} (h : L.map Fa.x = M) : L.length = M.length := by rw [← h, List.length_map]
theorem fonw_few (y w v : List Nat) (c i d j : Nat) : (fonw y w v c i d j).length ≤ 2 := by
  unfold fonw
  rw [List.length_append]
  split <;> split <;> simp
theorem fag_few (y w v : List Nat) (c i d j : Nat) : (fag y w v c i d j).length ≤ 1 := by
  unfold fag
  split <;> simp
theorem txs_v {K : PySem.W.Frag} {H : Hp} : ∀ {L : List Fa}, FaAll H L → TxsV K H 4 (fav L) (L.map fun a => fkey a.x)
  | [], _ => trivial
  | a :: L, h => ⟨⟨a.a, S a.x.t, rfl, SqT.of (h a List.mem_cons_self), rfl⟩, txs_v fun k hk => h k (List.mem_cons_of_mem _ hk)⟩
theorem fall_next {y : List Nat} {ws : List (List Nat)} {L : List Fa} (hy : Yd y) (hw : ∀ w ∈ ws, SW y w) (e : L.map Fa.x = fall y ws) (k : Nat) (a b : List Int) (ha : (L.map fun a => fkey a.x)[k]? = some a) (hb : (L.map fun a => fkey a.x)[k + 1]? = some b) : lexI b a = false ∧ b ≠ a := by
  have e2 : (L.map fun a => fkey a.x) = (fall y ws).map fkey := by rw [← e, List.map_map]; rfl
  rw [e2, List.getElem?_map] at ha hb
  obtain ⟨x, hx, rfl⟩ := Option.map_eq_some_iff.mp ha
  obtain ⟨z, hz, rfl⟩ := Option.map_eq_some_iff.mp hb
  exact asc_next (fall_asc hy hw) k x z hx hz
theorem flat_snoc {α β : Type} {l : List α} {k : Nat} {x : α} (f : α → List β) (h : l[k]? = some x) : (l.take (k + 1)).flatMap f = (l.take k).flatMap f ++ f x := by
  rw [← take_snoc h, List.flatMap_append]
  simp
theorem SameB.ts {t : Addr} {H H' : Hp} {ys : List V} (ht : H t = some (.lst ys)) (s : SameB t H H') : TSame H H' := fun c xs h => s _ _ h fun z => by rw [z, ht] at h; cases h
theorem place_ok {ws : List (List Nat)} {c i : Nat} (h : (c, i) ∈ places ws) : c < ws.length ∧ i < (ws.getD c []).length := plc_mem.mp h
theorem al_zero {y : List Nat} {f g : Int → Nat} {n : Nat} (h : ¬ 0 < shV f g n) (per : f (-1) ≠ g (-1) → dif f g n 0 < n ∧ f (dif f g n 0) ≠ g (dif f g n 0)) : al y f g n = 0 := by
  unfold al
  by_cases z : f 0 ≠ g 0 ∨ f (-1) = g (-1)
  · rw [if_pos z]
  · have z1 : f 0 = g 0 := Classical.byContradiction fun q => z (.inl q)
    have z2 : f (-1) ≠ g (-1) := fun q => z (.inr q)
    obtain ⟨h1, h2⟩ := per z2
    unfold shV at h
    rw [if_neg (by omega)] at h
    have e : dif f g n 0 = 0 := by omega
    rw [e] at h2
    exact absurd z1 h2
theorem al_back {y : List Nat} {f g : Int → Nat} {n : Nat} (h : f (-1) = g (-1)) : al y f g n = 0 := by unfold al; rw [if_pos (.inr h)]
theorem al_some {y : List Nat} {f g : Int → Nat} {n : Nat} (h0 : f 0 = g 0) (h : f (-1) ≠ g (-1)) : al y f g n = if gr y (ctr (f (-1))) (ctr (g (-1))) (f 0) = gr y (f (dif f g n 0)) (g (dif f g n 0)) (ctr (f ((dif f g n 0 : Nat) - 1))) then dif f g n 0 else 0 := by
  unfold al
  rw [if_neg (fun z => z.elim (fun z => z h0) h)]
theorem S1_inj {a b : Nat} (h : S [a] = S [b]) : a = b := by
  have := congrArg (fun x : Str => x.cps.toList) h
  simpa [S] using this
theorem four_few {a b c d : Nat} : (dd ([] : List Str) (([[a], [b], [c], [d]] : List (List Nat)).map S)).length ≤ 4 := dd_len _ _
theorem four_all {a b c d : Nat} : (dd ([] : List Str) (([[a], [b], [c], [d]] : List (List Nat)).map S)).length = 4 ↔ a ≠ b ∧ a ≠ c ∧ a ≠ d ∧ b ≠ c ∧ b ≠ d ∧ c ≠ d := by
  have h := dd_all (([[a], [b], [c], [d]] : List (List Nat)).map S) ([] : List Str)
  have e : ([] : List Str).length + (([[a], [b], [c], [d]] : List (List Nat)).map S).length = 4 := rfl
  rw [e] at h
  rw [h]
  have key : ∀ x z : Nat, (S [x] = S [z]) ↔ x = z := fun x z => ⟨S1_inj, fun q => by rw [q]⟩
  simp [key]
  constructor
  · rintro ⟨⟨h1, h2, h3⟩, ⟨h4, h5⟩, h6⟩
    exact ⟨h1, h2, h3, h4, h5, h6⟩
  · rintro ⟨h1, h2, h3, h4, h5, h6⟩
    exact ⟨⟨h1, h2, h3⟩, ⟨h4, h5⟩, h6⟩
theorem one_of (p q : Bool) (c d : Nat) (f : Nat → Bool) (hp : f c = p) (hq : f d = q) : decide ((([c, d].filter f).length : Int) = 1) = (p != q) := by
  subst hp hq
  cases h1 : f c <;> cases h2 : f d <;> simp [List.filter, h1, h2]
theorem put_fb {H2 : Hp} {t a3 : Addr} {L : List Fa} {x : Fm} {H3 : Hp} (ht : H2 t = some (.lst (fav L))) (hL : FaAll H2 L) (s : Same H2 H3) (n3 : H3 a3 = none) :
    FaAll (upd (upd H3 a3 (.tup (fmV x))) t (.lst (fav L ++ [V.ref a3]))) (L ++ [⟨a3, x⟩]) ∧ TSame H2 (upd (upd H3 a3 (.tup (fmV x))) t (.lst (fav L ++ [V.ref a3]))) ∧
    (∀ H, H t = none → Same H H2 → Same H (upd (upd H3 a3 (.tup (fmV x))) t (.lst (fav L ++ [V.ref a3])))) ∧ upd (upd H3 a3 (.tup (fmV x))) t (.lst (fav L ++ [V.ref a3])) t = some (.lst (fav (L ++ [⟨a3, x⟩]))) := by
  rw [show fav L ++ [V.ref a3] = fav (L ++ [⟨a3, x⟩]) from fav_snoc L ⟨a3, x⟩]
  exact put_fa ht hL s n3
theorem cut_last {α : Type} (w : List α) : cut w none (some (-1)) = w.take (w.length - 1) := by
  unfold cut
  rw [HT.sIx_none, sIx_m1]
  simp
/-- a word so far -/
structure Wd (y w : List Nat) : Prop where
  adj : Adj w
  iny : ∀ c ∈ w, c ∈ y
theorem Wd.more {y w : List Nat} {c : Nat} (h : Wd y w) (hc : c ∈ y) (hn : w ≠ [] → c ≠ ctr (rd w (-1))) : Wd y (w ++ [c]) :=
  ⟨h.adj.snoc fun a ha => by
    have hne : w ≠ [] := fun z => by rw [z] at ha; simp at ha
    rw [rd_last hne] at ha
    rw [← Option.some.inj ha]
    exact hn hne, fun a ha => by
    rcases List.mem_append.mp ha with g | g
    · exact h.iny a g
    · rw [List.mem_singleton.mp g]; exact hc⟩
theorem Wd.sw {y w : List Nat} (h : Wd y w) (hne : w ≠ []) (he : rd w 0 ≠ ctr (rd w (-1))) : SW y w :=
  SW.of hne h.iny h.adj fun a b ha hb => by
    rw [rd_head hne] at ha
    rw [rd_last hne] at hb
    rw [← Option.some.inj ha, ← Option.some.inj hb]
    exact he
theorem Wd.one {y w : List Nat} (hy : Yd y) (h : Wd y w) (h1 : w.length = 1) : SW y w := by
  have hne : w ≠ [] := fun z => by rw [z] at h1; simp at h1
  refine h.sw hne ?_
  have e : rd w 0 = rd w (-1) := by
    have := rd_add w (-1)
    rw [h1] at this
    exact this
  rw [← e]
  exact fun q => ctr_ne (hy.lt _ (h.iny _ (rd_mem hne 0))) q.symm
theorem flat_le {α β : Type} {f : α → List β} {m : Nat} : ∀ {l : List α}, (∀ x ∈ l, (f x).length ≤ m) → (l.flatMap f).length ≤ l.length * m
  | [], _ => Nat.zero_le _
  | a :: l, h => by
    rw [List.flatMap_cons, List.length_append, List.length_cons, Nat.succ_mul]
    have h1 := h a List.mem_cons_self
    have h2 := flat_le fun x hx => h x (List.mem_cons_of_mem _ hx)
    omega
theorem fall_few {y : List Nat} {ws : List (List Nat)} (h : (places ws).length ≤ 24) : (fall y ws).length ≤ 1728 := by
  unfold fall
  have h1 : ∀ o ∈ places ws, ((places ws).flatMap fun p => fat y ws o p).length ≤ 72 := fun o _ => by
    have := flat_le (f := fun p => fat y ws o p) (l := places ws) (m := 3) fun p _ => fat_few y ws o p
    omega
  have := flat_le (f := fun o => (places ws).flatMap fun p => fat y ws o p) (l := places ws) (m := 72) h1
  omega
def Small (x : Fm) : Prop := x.c < 4 ∧ x.i < 12 ∧ x.d < 4 ∧ x.j < 12 ∧ x.m ≤ 24 ∧ (x.t = sAcross ∨ x.t = sAlong ∨ x.t = sAgainst)
theorem fat_small {y : List Nat} {ws : List (List Nat)} {o p : Nat × Nat} {x : Fm} (h : x ∈ fat y ws o p) : x.m ≤ (ws.getD o.1 []).length + (ws.getD p.1 []).length ∧ (x.t = sAcross ∨ x.t = sAlong ∨ x.t = sAgainst) := by
  unfold fat at h
  rcases List.mem_append.mp h with h | h <;> split at h
  · unfold fonw at h
    rcases List.mem_append.mp h with h | h <;> split at h
    · rw [List.mem_singleton.mp h]; exact ⟨Nat.zero_le _, .inl rfl⟩
    · exact absurd h List.not_mem_nil
    · rw [List.mem_singleton.mp h]; exact ⟨al_le _ _ _ _, .inr (.inl rfl)⟩
    · exact absurd h List.not_mem_nil
  · exact absurd h List.not_mem_nil
  · rw [(fag_mem h).1]; exact ⟨al_le _ _ _ _, .inr (.inr rfl)⟩
  · exact absurd h List.not_mem_nil
theorem fall_small {y : List Nat} {ws : List (List Nat)} (ok : WsK y ws) : ∀ x ∈ fall y ws, Small x := fun x hx => by
  obtain ⟨o, ho, hx⟩ := List.mem_flatMap.mp hx
  obtain ⟨p, hp, hx⟩ := List.mem_flatMap.mp hx
  obtain ⟨e1, e2, e3, e4⟩ := fat_mem hx
  obtain ⟨g1, g2⟩ := fat_small hx
  obtain ⟨o1, o2⟩ := place_ok (c := o.1) (i := o.2) ho
  obtain ⟨p1, p2⟩ := place_ok (c := p.1) (i := p.2) hp
  have l1 := (ok.sw _ (getD_in o1)).2
  have l2 := (ok.sw _ (getD_in p1)).2
  have l3 := ok.few
  exact ⟨by omega, by omega, by omega, by omega, by omega, g2⟩
def fmD (x : Fm) : PyData := .tuple [.int x.c, .int x.i, .int x.d, .int x.j, .int x.m, .str (S x.t)]
theorem rdds_fa {K : PySem.W.Frag} {H : Hp} : ∀ {L : List Fa}, FaAll H L → RdDs K H (fav L) ((L.map Fa.x).map fmD)
  | [], _ => .nil
  | a :: L, h => .cons (.tup (SqT.of (h a List.mem_cons_self)) (.cons (.int _) (.cons (.int _) (.cons (.int _) (.cons (.int _) (.cons (.int _) (.cons (.str _) .nil))))))) (rdds_fa fun k hk => h k (List.mem_cons_of_mem _ hk))
theorem smd_fm {x : Fm} (h : Small x) : SmD 39 300 (fmD x) := by
  obtain ⟨h1, h2, h3, h4, h5, h6⟩ := h
  have i : ∀ n : Nat, n ≤ 100 → SmD 38 40 (.int (n : Int)) := fun n hn => .int (by omega) (by decide)
  have ht : SmD 38 40 (.str (S x.t)) := by
    rcases h6 with g | g | g <;> rw [g]
    · exact .str (by decide) (by decide)
    · exact .str (by decide) (by decide)
    · exact .str (by decide) (by decide)
  exact .tup (.all (a := 40) (fun d hd => by
    simp only [List.mem_cons, List.not_mem_nil, or_false] at hd
    rcases hd with g | g | g | g | g | g <;> subst g
    · exact i _ (by omega)
    · exact i _ (by omega)
    · exact i _ (by omega)
    · exact i _ (by omega)
    · exact i _ (by omega)
    · exact ht) (by show 41 * 6 ≤ 300; decide))
theorem smd_fall {y : List Nat} {ws : List (List Nat)} (ok : WsK y ws) : SmD 40 1000000 (.list ((fall y ws).map fmD)) := by
  have hl := fall_few (y := y) ok.all
  exact .lst (.all (a := 300) (fun d hd => by
    obtain ⟨x, hx, rfl⟩ := List.mem_map.mp hd
    exact smd_fm (fall_small ok x hx)) (by rw [List.length_map]; omega))
/-! k27's own: a thing that is asked about -/
structure Tg where
  t : Addr
  c : Int
  i : Int
  d : Int
  j : Int
  m : Int
  w : List Nat
def tgV (g : Tg) : List V := [.int g.c, .int g.i, .int g.d, .int g.j, .int g.m, .str (S g.w)]
def tgD (g : Tg) : PyData := .tuple [.int g.c, .int g.i, .int g.d, .int g.j, .int g.m, .str (S g.w)]
structure TgOk (H : Hp) (g : Tg) : Prop where
  at_ : H g.t = some (.tup (tgV g))
  ok : ∀ c ∈ g.w, c < 128
theorem TgOk.ts {H H' : Hp} {g : Tg} (h : TgOk H g) (s : TSame H H') : TgOk H' g := ⟨s _ _ h.at_, h.ok⟩
theorem TgOk.rd {K : PySem.W.Frag} {H : Hp} {g : Tg} (h : TgOk H g) : RdD K H (.ref g.t) (tgD g) := .tup (SqT.of h.at_) (.cons (.int _) (.cons (.int _) (.cons (.int _) (.cons (.int _) (.cons (.int _) (.cons (.str _) .nil))))))
theorem strOk_S {w : List Nat} (h : ∀ c ∈ w, c < 128) : PyData.strOk (S w) = true := by
  unfold PyData.strOk
  rw [Array.all_eq_true']
  intro c hc
  have : c ∈ w := by simpa [S] using hc
  exact decide_eq_true (by have := h c this; omega)
theorem TgOk.lay {H : Hp} {g : Tg} (h : TgOk H g) : (tgD g).canLay0 = true := by
  show PyData.canLayAll0 [.int g.c, .int g.i, .int g.d, .int g.j, .int g.m, .str (S g.w)] = true
  simp [PyData.canLayAll0, PyData.canLay0, strOk_S h.ok]
def ofFa (a : Fa) : Tg := ⟨a.a, a.x.c, a.x.i, a.x.d, a.x.j, a.x.m, a.x.t⟩
def hit (g : Tg) (x : Fm) : Bool := PyData.eqv (fmD x) (tgD g)
theorem S_inj {a b : List Nat} (h : S a = S b) : a = b := by simpa [S] using h
theorem hit_iff {g : Tg} {x : Fm} : hit g x = true ↔ (x.c : Int) = g.c ∧ (x.i : Int) = g.i ∧ (x.d : Int) = g.d ∧ (x.j : Int) = g.j ∧ (x.m : Int) = g.m ∧ x.t = g.w := by
  have e : hit g x = ((x.c : Int) == g.c && ((x.i : Int) == g.i && ((x.d : Int) == g.d && ((x.j : Int) == g.j && ((x.m : Int) == g.m && ((S x.t == S g.w) && true)))))) := by
    unfold hit fmD tgD
    simp only [PyData.eqv, PyData.eqvAll]
  rw [e]
  simp only [Bool.and_eq_true, beq_iff_eq, Bool.and_true]
  exact ⟨fun ⟨h1, h2, h3, h4, h5, h6⟩ => ⟨h1, h2, h3, h4, h5, S_inj h6⟩, fun ⟨h1, h2, h3, h4, h5, h6⟩ => ⟨h1, h2, h3, h4, h5, by rw [h6]⟩⟩
def isS (ws : List (List Nat)) (c i : Int) : Bool := (decide (0 ≤ c) && decide (c < (ws.length : Int))) && (decide (0 ≤ i) && decide (i < ((ws.getD c.toNat []).length : Int)))
theorem isS_iff {ws : List (List Nat)} {c i : Int} : isS ws c i = true ↔ ∃ a b : Nat, c = a ∧ i = b ∧ a < ws.length ∧ b < (ws.getD a []).length := by
  unfold isS
  simp only [Bool.and_eq_true, decide_eq_true_eq]
  constructor
  · rintro ⟨⟨h1, h2⟩, h3, h4⟩
    exact ⟨c.toNat, i.toNat, by omega, by omega, by omega, by omega⟩
  · rintro ⟨a, b, rfl, rfl, h3, h4⟩
    rw [Int.toNat_natCast]
    exact ⟨⟨by omega, by omega⟩, by omega, by omega⟩
theorem any_fall {y : List Nat} {ws : List (List Nat)} {g : Tg} {a b a' b' : Nat} (h1 : g.c = a) (h2 : g.i = b) (h3 : g.d = a') (h4 : g.j = b') (h5 : a < ws.length) (h6 : b < (ws.getD a []).length) (h7 : a' < ws.length) (h8 : b' < (ws.getD a' []).length) :
    (fat y ws (a, b) (a', b')).any (hit g) = (fall y ws).any (hit g) := by
  rw [Bool.eq_iff_iff, List.any_eq_true, List.any_eq_true]
  constructor
  · rintro ⟨x, hx, e⟩
    exact ⟨x, List.mem_flatMap.mpr ⟨(a, b), plc_mem.mpr ⟨h5, h6⟩, List.mem_flatMap.mpr ⟨(a', b'), plc_mem.mpr ⟨h7, h8⟩, hx⟩⟩, e⟩
  · rintro ⟨x, hx, e⟩
    obtain ⟨o, _, hx⟩ := List.mem_flatMap.mp hx
    obtain ⟨p, _, hx⟩ := List.mem_flatMap.mp hx
    obtain ⟨m1, m2, m3, m4⟩ := fat_mem hx
    obtain ⟨e1, e2, e3, e4, _⟩ := hit_iff.mp e
    have eo : o = (a, b) := Prod.ext (by show o.1 = a; omega) (by show o.2 = b; omega)
    have ep : p = (a', b') := Prod.ext (by show p.1 = a'; omega) (by show p.2 = b'; omega)
    subst eo
    subst ep
    exact ⟨x, hx, e⟩
theorem none_fall {y : List Nat} {ws : List (List Nat)} {g : Tg} (h : ¬ (isS ws g.c g.i = true ∧ isS ws g.d g.j = true)) : (fall y ws).any (hit g) = false := by
  rw [Bool.eq_false_iff]
  intro z
  obtain ⟨x, hx, e⟩ := List.any_eq_true.mp z
  obtain ⟨o, ho, hx⟩ := List.mem_flatMap.mp hx
  obtain ⟨p, hp, hx⟩ := List.mem_flatMap.mp hx
  obtain ⟨m1, m2, m3, m4⟩ := fat_mem hx
  obtain ⟨e1, e2, e3, e4, _⟩ := hit_iff.mp e
  obtain ⟨o1, o2⟩ := place_ok (c := o.1) (i := o.2) ho
  obtain ⟨p1, p2⟩ := place_ok (c := p.1) (i := p.2) hp
  exact h ⟨isS_iff.mpr ⟨o.1, o.2, by omega, by omega, o1, o2⟩, isS_iff.mpr ⟨p.1, p.2, by omega, by omega, p1, p2⟩⟩
theorem hit_self {y : List Nat} {ws : List (List Nat)} {L : List Fa} (e : L.map Fa.x = fall y ws) {a : Fa} (h : a ∈ L) : (fall y ws).any (hit (ofFa a)) = true := by
  rw [← e]
  exact List.any_eq_true.mpr ⟨a.x, List.mem_map.mpr ⟨a, h, rfl⟩, hit_iff.mpr ⟨rfl, rfl, rfl, rfl, rfl, rfl⟩⟩
theorem any_map_hit (M : List Fm) (g : Tg) : ((M.map fmD).any fun d => PyData.eqv d (tgD g)) = M.any (hit g) := by rw [List.any_map]; rfl
theorem lay_fms : ∀ {M : List Fm}, (∀ x ∈ M, ∀ c ∈ x.t, c < 128) → PyData.canLayAll0 (M.map fmD) = true
  | [], _ => rfl
  | x :: M, h => by
    show (PyData.canLay0 (fmD x) && PyData.canLayAll0 (M.map fmD)) = true
    rw [lay_fms fun z hz => h z (List.mem_cons_of_mem _ hz), Bool.and_true]
    show PyData.canLayAll0 [.int x.c, .int x.i, .int x.d, .int x.j, .int x.m, .str (S x.t)] = true
    simp [PyData.canLayAll0, PyData.canLay0, strOk_S (h x List.mem_cons_self)]
def sp_Lwords (_ : PySem.W.Frag) : Sp := fun vs H Q _ => ∃ (b : Addr) (y : List Nat) (many top : Nat), vs = [.ref b, .str (S y), .int many, .int top] ∧ BoxAt H b ∧ Yd y ∧ 2 ≤ y.length ∧ y.length ≤ 8 ∧ 1 ≤ many ∧ many ≤ 4 ∧ 1 ≤ top ∧ top ≤ 12 ∧ many * top ≤ 24 ∧ ∀ (t : Addr) (ws : List (List Nat)) (H' : Hp), H t = none → t ≠ b → H' t = some (.tup (txs ws)) → WsK y ws → ws ≠ [] → BoxAt H' b → SameB b H H' → Q (.ref t) H'
theorem len_Lwords {K : PySem.W.Frag} {vs : List V} {H : Hp} {Q : VK} {E : XK} (h : sp_Lwords K vs H Q E) : vs.length = 4 := by obtain ⟨_, _, _, _, rfl, _⟩ := h; rfl
def sp_is_strand (_ : PySem.W.Frag) : Sp := fun vs H Q _ => ∃ (wt : Addr) (ws : List (List Nat)) (c i : Int), vs = [.ref wt, .int c, .int i] ∧ H wt = some (.tup (txs ws)) ∧ ws.length ≤ 4 ∧ (∀ w ∈ ws, w.length ≤ 12) ∧ Q (.bl (isS ws c i)) H
theorem len_is_strand {K : PySem.W.Frag} {vs : List V} {H : Hp} {Q : VK} {E : XK} (h : sp_is_strand K vs H Q E) : vs.length = 3 := by obtain ⟨_, _, _, _, rfl, _⟩ := h; rfl
def sp_is_forced (_ : PySem.W.Frag) : Sp := fun vs H Q _ => ∃ (y : List Nat) (wt : Addr) (ws : List (List Nat)) (g : Tg), vs = [.str (S y), .ref wt, .ref g.t] ∧ Yd y ∧ y.length ≤ 8 ∧ WsK y ws ∧ H wt = some (.tup (txs ws)) ∧ TgOk H g ∧ ∀ H', Same H H' → Q (.bl ((fall y ws).any (hit g))) H'
theorem len_is_forced {K : PySem.W.Frag} {vs : List V} {H : Hp} {Q : VK} {E : XK} (h : sp_is_forced K vs H Q E) : vs.length = 3 := by obtain ⟨_, _, _, _, rfl, _⟩ := h; rfl
/-- a thing has come -/
def Tgs (b : Addr) (H : Hp) (Q : VK) : Prop := ∀ (g : Tg) (H' : Hp), TgOk H' g → BoxAt H' b → SameB b H H' → Q (.ref g.t) H'
def sp_Lanything (_ : PySem.W.Frag) : Sp := fun vs H Q _ => ∃ (b : Addr) (y : List Nat) (wt : Addr) (ws : List (List Nat)) (u : Addr) (L : List Fa), vs = [.ref b, .ref wt, .ref u] ∧ BoxAt H b ∧ WsK y ws ∧ ws ≠ [] ∧ H wt = some (.tup (txs ws)) ∧ H u = some (.lst (fav L)) ∧ FaAll H L ∧ L.map Fa.x = fall y ws ∧ u ≠ b ∧ Tgs b H Q
theorem len_Lanything {K : PySem.W.Frag} {vs : List V} {H : Hp} {Q : VK} {E : XK} (h : sp_Lanything K vs H Q E) : vs.length = 3 := by obtain ⟨_, _, _, _, _, _, rfl, _⟩ := h; rfl
def sp_Lotherwise (_ : PySem.W.Frag) : Sp := fun vs H Q _ => ∃ (b : Addr) (y : List Nat) (wt : Addr) (ws : List (List Nat)) (g : Tg), vs = [.ref b, .ref wt, .ref g.t] ∧ BoxAt H b ∧ WsK y ws ∧ ws ≠ [] ∧ H wt = some (.tup (txs ws)) ∧ TgOk H g ∧ Tgs b H Q
theorem len_Lotherwise {K : PySem.W.Frag} {vs : List V} {H : Hp} {Q : VK} {E : XK} (h : sp_Lotherwise K vs H Q E) : vs.length = 3 := by obtain ⟨_, _, _, _, _, rfl, _⟩ := h; rfl
def sp_Lright (_ : PySem.W.Frag) : Sp := fun vs H Q _ => ∃ (b : Addr) (y : List Nat) (wt : Addr) (ws : List (List Nat)), vs = [.ref b, .str (S y), .ref wt] ∧ BoxAt H b ∧ Yd y ∧ y.length ≤ 8 ∧ WsK y ws ∧ ws ≠ [] ∧ H wt = some (.tup (txs ws)) ∧ ∀ H', BoxAt H' b → SameB b H H' → Q (.bl true) H'
theorem len_Lright {K : PySem.W.Frag} {vs : List V} {H : Hp} {Q : VK} {E : XK} (h : sp_Lright K vs H Q E) : vs.length = 3 := by obtain ⟨_, _, _, _, rfl, _⟩ := h; rfl
theorem small_txt {x : Fm} (h : Small x) : ∀ c ∈ x.t, c < 128 := by
  obtain ⟨_, _, _, _, _, h⟩ := h
  rcases h with e | e | e <;> rw [e] <;> decide
theorem TSame.box {H H' : Hp} {b : Addr} (h : BoxAt H b) (s : SameB b H H') : TSame H H' := fun c xs e => s c _ e fun z => by
  obtain ⟨x, y, g⟩ := h
  rw [z, g] at e
  cases e
theorem fav_at {L : List Fa} {i : Nat} (h : i < L.length) : (fav L)[i]? = some (V.ref L[i].a) := by unfold fav; rw [List.getElem?_map, List.getElem?_eq_getElem h]; rfl
theorem txs_last {ws : List (List Nat)} (h : ws ≠ []) : ∃ l ∈ ws, atI (txs ws) (-1) = some (V.str (S l)) := by
  refine ⟨ws.getLast h, List.getLast_mem h, ?_⟩
  have e : txs ws = txs ws.dropLast ++ [V.str (S (ws.getLast h))] := by rw [txs_snoc, List.dropLast_concat_getLast]
  rw [e]
  exact atI_last _ _
theorem cutV_to {xs : List V} {k : Nat} (h : k ≤ xs.length) : cutV xs none (some (k : Int)) = xs.take k := by
  unfold cutV
  rw [HT.sIx_nat, HT.sIx_none, List.drop_zero, Nat.min_eq_left h, Nat.sub_zero]
theorem cutV_from {xs : List V} {k : Nat} (h : k + 1 ≤ xs.length) : cutV xs (some ((k : Int) + 1)) none = xs.drop (k + 1) := by
  unfold cutV
  have e : ((k : Int) + 1) = ((k + 1 : Nat) : Int) := by omega
  rw [e, HT.sIx_nat, HT.sIx_none, Nat.min_eq_left h]
  exact List.take_of_length_le (by rw [List.length_drop]; omega)
theorem tg_dep (g : Tg) : (tgD g).depth ≤ 60 := by
  unfold tgD
  simp [PyData.depth, PyData.depthAll]
theorem eight {a b c d e f g h : Int} {r : Nat} (hr : r < 8) : ∃ n : Int, atI [V.int a, .int b, .int c, .int d, .int e, .int f, .int g, .int h] (r : Int) = some (.int n) := by
  have h3 : r = 0 ∨ r = 1 ∨ r = 2 ∨ r = 3 ∨ r = 4 ∨ r = 5 ∨ r = 6 ∨ r = 7 := by omega
  rcases h3 with q | q | q | q | q | q | q | q <;> subst q <;> exact ⟨_, rfl⟩
theorem five {c i d j m : Int} {w : List Nat} {k : Nat} (hk : k < 5) : ∃ n : Int, atI [V.int c, .int i, .int d, .int j, .int m, .str (S w)] (k : Int) = some (.int n) := by
  have h3 : k = 0 ∨ k = 1 ∨ k = 2 ∨ k = 3 ∨ k = 4 := by omega
  rcases h3 with q | q | q | q | q <;> subst q <;> exact ⟨_, rfl⟩
theorem put_tg {c i d j m : Int} {w : List Nat} {k : Nat} (hk : k < 5) (s : Int) (p : Addr) : ∃ g : Tg, g.t = p ∧ g.w = w ∧ [V.int c, .int i, .int d, .int j, .int m, .str (S w)].take k ++ [V.int s] ++ [V.int c, .int i, .int d, .int j, .int m, .str (S w)].drop (k + 1) = tgV g := by
  have h3 : k = 0 ∨ k = 1 ∨ k = 2 ∨ k = 3 ∨ k = 4 := by omega
  rcases h3 with q | q | q | q | q <;> subst q
  · exact ⟨⟨p, s, i, d, j, m, w⟩, rfl, rfl, rfl⟩
  · exact ⟨⟨p, c, s, d, j, m, w⟩, rfl, rfl, rfl⟩
  · exact ⟨⟨p, c, i, s, j, m, w⟩, rfl, rfl, rfl⟩
  · exact ⟨⟨p, c, i, d, s, m, w⟩, rfl, rfl, rfl⟩
  · exact ⟨⟨p, c, i, d, j, s, w⟩, rfl, rfl, rfl⟩
local macro_rules | `(tactic| walk_at "rd") => `(tactic| repeat (first
  | refine ⟨_, rfl, ?_⟩
  | refine ⟨_, _, rfl, rfl, ?_⟩
  | refine ⟨rfl, ?_⟩
  | refine And.intro (by first | decide | omega | assumption | exact Nat.le_of_ble_eq_true rfl | exact .inl ⟨by decide, by decide⟩ | exact .inr ⟨by decide, by decide⟩ | exact ⟨by decide, by decide⟩ | exact ⟨by omega, by omega⟩) ?_))
local macro_rules | `(tactic| walk_at "wk") => `(tactic| repeat (first
  | refine ⟨_, rfl, ?_⟩
  | refine ⟨_, _, rfl, rfl, ?_⟩
  | refine ⟨_, _, _, rfl, rfl, by first | assumption | omega, by assumption, ?_⟩
  | refine ⟨rfl, ?_⟩
  | refine And.intro (by first | decide | omega | assumption | exact Nat.le_of_ble_eq_true rfl | exact .inl ⟨by decide, by decide⟩ | exact .inr ⟨by decide, by decide⟩ | exact ⟨by decide, by decide⟩ | exact ⟨by omega, by omega⟩) ?_))
def top (i : Nat) : Stmt := PySem.Challenge.pw_mustmeet_k27_what_is_forced.main.body.getD i (.Pass ⟨0, 0, 0, 0⟩)
abbrev s_contrary : Stmt := top 1
abbrev s_turned : Stmt := top 2
abbrev s_steps_round : Stmt := top 4
abbrev s_goes_round : Stmt := top 5
abbrev s_corner_ends : Stmt := top 7
abbrev s_meets_across : Stmt := top 8
abbrev s_letters_shared : Stmt := top 9
abbrev s_letters_along : Stmt := top 10
abbrev s_forced_onward : Stmt := top 11
abbrev s_forced_against : Stmt := top 12
abbrev s_forced_at : Stmt := top 13
abbrev s_is_strand : Stmt := top 14
abbrev s_is_forced : Stmt := top 15
abbrev s_Lbox : Stmt := top 17
abbrev s_Ltake : Stmt := top 18
abbrev s_Lother : Stmt := top 19
abbrev s_Lyard : Stmt := top 20
abbrev s_Lshort : Stmt := top 21
abbrev s_Lnear : Stmt := top 22
abbrev s_Lround : Stmt := top 23
abbrev s_Lon : Stmt := top 24
abbrev s_Lacross : Stmt := top 25
abbrev s_Lshared : Stmt := top 26
abbrev s_Lbegins : Stmt := top 27
abbrev s_Lforced : Stmt := top 28
abbrev s_Lwords : Stmt := top 29
abbrev s_Lanything : Stmt := top 30
abbrev s_Lotherwise : Stmt := top 31
abbrev s_Lright : Stmt := top 32
abbrev s_law : Stmt := top 33
structure FunAt (K : PySem.W.Frag) (mg : Str → Option Value) (x : Str) (st : Stmt) (ps : List Str) (f : Addr) (fd : FuncData) : Prop where
  fn : Fun K x x st f fd
  mg : mg x = some (.ref f)
  bd : Binds K fd ps []
structure Txt (K : PySem.W.Frag) (mg : Str → Option Value) (f0 f1 f2 f3 f4 f5 f6 f7 f8 f9 f10 f11 f12 f13 f14 f15 f16 f17 f18 f19 f20 f21 f22 f23 f24 f25 f26 f27 f28 f29 : Addr) (d0 d1 d2 d3 d4 d5 d6 d7 d8 d9 d10 d11 d12 d13 d14 d15 d16 d17 d18 d19 d20 d21 d22 d23 d24 d25 d26 d27 d28 d29 : FuncData) : Prop where
  F0 : FunAt K mg "contrary" s_contrary ["letter"] f0 d0
  F1 : FunAt K mg "turned" s_turned ["word"] f1 d1
  F2 : FunAt K mg "steps_round" s_steps_round ["yard", "start", "end"] f2 d2
  F3 : FunAt K mg "goes_round" s_goes_round ["yard", "x", "y", "z"] f3 d3
  F4 : FunAt K mg "corner_ends" s_corner_ends ["word", "place"] f4 d4
  F5 : FunAt K mg "meets_across" s_meets_across ["yard", "one", "i", "other", "j"] f5 d5
  F6 : FunAt K mg "letters_shared" s_letters_shared ["one", "i", "other", "j"] f6 d6
  F7 : FunAt K mg "letters_along" s_letters_along ["yard", "one", "i", "other", "j"] f7 d7
  F8 : FunAt K mg "forced_onward" s_forced_onward ["yard", "words", "one", "other"] f8 d8
  F9 : FunAt K mg "forced_against" s_forced_against ["yard", "words", "backs", "one", "other"] f9 d9
  F10 : FunAt K mg "forced_at" s_forced_at ["yard", "words", "backs", "one", "other"] f10 d10
  F11 : FunAt K mg "is_strand" s_is_strand ["words", "cord", "place"] f11 d11
  F12 : FunAt K mg "is_forced" s_is_forced ["yard", "words", "thing"] f12 d12
  F13 : FunAt K mg "_law_box" s_Lbox ["_law_script", "_law_k"] f13 d13
  F14 : FunAt K mg "_law_take" s_Ltake ["_law_box_here", "_law_many"] f14 d14
  F15 : FunAt K mg "_law_other" s_Lother ["_law_letter"] f15 d15
  F16 : FunAt K mg "_law_yard" s_Lyard ["_law_box_here", "_law_few", "_law_top"] f16 d16
  F17 : FunAt K mg "_law_short" s_Lshort ["_law_box_here", "_law_yard_here", "_law_top"] f17 d17
  F18 : FunAt K mg "_law_near" s_Lnear ["_law_box_here", "_law_yard_here", "_law_word", "_law_top"] f18 d18
  F19 : FunAt K mg "_law_round" s_Lround ["_law_yard_here", "_law_x", "_law_y", "_law_z"] f19 d19
  F20 : FunAt K mg "_law_on" s_Lon ["_law_word", "_law_k"] f20 d20
  F21 : FunAt K mg "_law_across" s_Lacross ["_law_yard_here", "_law_w", "_law_i", "_law_v", "_law_j"] f21 d21
  F22 : FunAt K mg "_law_shared" s_Lshared ["_law_w", "_law_i", "_law_v", "_law_j", "_law_counter"] f22 d22
  F23 : FunAt K mg "_law_begins" s_Lbegins ["_law_yard_here", "_law_w", "_law_i", "_law_v", "_law_j", "_law_counter"] f23 d23
  F24 : FunAt K mg "_law_forced" s_Lforced ["_law_yard_here", "_law_words_here"] f24 d24
  F25 : FunAt K mg "_law_words" s_Lwords ["_law_box_here", "_law_yard_here", "_law_many", "_law_top"] f25 d25
  F26 : FunAt K mg "_law_any_thing" s_Lanything ["_law_box_here", "_law_words_here", "_law_due"] f26 d26
  F27 : FunAt K mg "_law_otherwise" s_Lotherwise ["_law_box_here", "_law_words_here", "_law_thing"] f27 d27
  F28 : FunAt K mg "_law_right" s_Lright ["_law_box_here", "_law_yard_here", "_law_words_here"] f28 d28
  F29 : FunAt K mg "law" s_law ["_law_script"] f29 d29
  z_all : mg "all" = none
  z_bool : mg "bool" = none
  z_enumerate : mg "enumerate" = none
  z_int : mg "int" = none
  z_isinstance : mg "isinstance" = none
  z_len : mg "len" = none
  z_list : mg "list" = none
  z_range : mg "range" = none
  z_reversed : mg "reversed" = none
  z_set : mg "set" = none
  z_sorted : mg "sorted" = none
  z_tuple : mg "tuple" = none
theorem sc_contrary : FnScope ["letter"] ["letter"] (defScope s_contrary) := ⟨rfl, rfl, rfl, by decide +kernel, rfl, by decide +kernel, by decide +kernel⟩
theorem sc_turned : FnScope ["word"] ["word"] (defScope s_turned) := ⟨rfl, rfl, rfl, by decide +kernel, rfl, by decide +kernel, by decide +kernel⟩
theorem sc_steps_round : FnScope ["yard", "start", "end"] ["yard", "start", "end"] (defScope s_steps_round) := ⟨rfl, rfl, rfl, by decide +kernel, rfl, by decide +kernel, by decide +kernel⟩
theorem sc_goes_round : FnScope ["yard", "x", "y", "z"] ["yard", "x", "y", "z"] (defScope s_goes_round) := ⟨rfl, rfl, rfl, by decide +kernel, rfl, by decide +kernel, by decide +kernel⟩
theorem sc_corner_ends : FnScope ["word", "place"] ["word", "place"] (defScope s_corner_ends) := ⟨rfl, rfl, rfl, by decide +kernel, rfl, by decide +kernel, by decide +kernel⟩
theorem sc_meets_across : FnScope ["yard", "one", "i", "other", "j", "ends", "others"] ["yard", "one", "i", "other", "j"] (defScope s_meets_across) := ⟨rfl, rfl, rfl, by decide +kernel, rfl, by decide +kernel, by decide +kernel⟩
theorem sc_letters_shared : FnScope ["one", "i", "other", "j", "many"] ["one", "i", "other", "j"] (defScope s_letters_shared) := ⟨rfl, rfl, rfl, by decide +kernel, rfl, by decide +kernel, by decide +kernel⟩
theorem sc_letters_along : FnScope ["yard", "one", "i", "other", "j", "many", "last", "ahead", "behind"] ["yard", "one", "i", "other", "j"] (defScope s_letters_along) := ⟨rfl, rfl, rfl, by decide +kernel, rfl, by decide +kernel, by decide +kernel⟩
theorem sc_forced_onward : FnScope ["yard", "words", "one", "other", "word", "other_word", "told", "many"] ["yard", "words", "one", "other"] (defScope s_forced_onward) := ⟨rfl, rfl, rfl, by decide +kernel, rfl, by decide +kernel, by decide +kernel⟩
theorem sc_forced_against : FnScope ["yard", "words", "backs", "one", "other", "word", "back", "many", "turn"] ["yard", "words", "backs", "one", "other"] (defScope s_forced_against) := ⟨rfl, rfl, rfl, by decide +kernel, rfl, by decide +kernel, by decide +kernel⟩
theorem sc_forced_at : FnScope ["yard", "words", "backs", "one", "other", "told"] ["yard", "words", "backs", "one", "other"] (defScope s_forced_at) := ⟨rfl, rfl, rfl, by decide +kernel, rfl, by decide +kernel, by decide +kernel⟩
theorem sc_is_strand : FnScope ["words", "cord", "place"] ["words", "cord", "place"] (defScope s_is_strand) := ⟨rfl, rfl, rfl, by decide +kernel, rfl, by decide +kernel, by decide +kernel⟩
theorem sc_is_forced : FnScope ["yard", "words", "thing", "backs"] ["yard", "words", "thing"] (defScope s_is_forced) := ⟨rfl, rfl, rfl, by decide +kernel, rfl, by decide +kernel, by decide +kernel⟩
theorem sc_Lbox : FnScope ["_law_script", "_law_k", "_law_cell", "_law_seed"] ["_law_script", "_law_k"] (defScope s_Lbox) := ⟨rfl, rfl, rfl, by decide +kernel, rfl, by decide +kernel, by decide +kernel⟩
theorem sc_Ltake : FnScope ["_law_box_here", "_law_many", "_law_digit", "_law_one"] ["_law_box_here", "_law_many"] (defScope s_Ltake) := ⟨rfl, rfl, rfl, by decide +kernel, rfl, by decide +kernel, by decide +kernel⟩
theorem sc_Lother : FnScope ["_law_letter", "_law_small", "_law_capital"] ["_law_letter"] (defScope s_Lother) := ⟨rfl, rfl, rfl, by decide +kernel, rfl, by decide +kernel, by decide +kernel⟩
theorem sc_Lyard : FnScope ["_law_box_here", "_law_few", "_law_top", "_law_left", "_law_ends", "_law_k", "_law_letter", "_law_found"] ["_law_box_here", "_law_few", "_law_top"] (defScope s_Lyard) := ⟨rfl, rfl, rfl, by decide +kernel, rfl, by decide +kernel, by decide +kernel⟩
theorem sc_Lshort : FnScope ["_law_box_here", "_law_yard_here", "_law_top", "_law_many", "_law_form", "_law_word", "_law_letter"] ["_law_box_here", "_law_yard_here", "_law_top"] (defScope s_Lshort) := ⟨rfl, rfl, rfl, by decide +kernel, rfl, by decide +kernel, by decide +kernel⟩
theorem sc_Lnear : FnScope ["_law_box_here", "_law_yard_here", "_law_word", "_law_top", "_law_form", "_law_at", "_law_letter", "_law_some"] ["_law_box_here", "_law_yard_here", "_law_word", "_law_top"] (defScope s_Lnear) := ⟨rfl, rfl, rfl, by decide +kernel, rfl, by decide +kernel, by decide +kernel⟩
theorem sc_Lround : FnScope ["_law_yard_here", "_law_x", "_law_y", "_law_z", "_law_at", "_law_rest"] ["_law_yard_here", "_law_x", "_law_y", "_law_z"] (defScope s_Lround) := ⟨rfl, rfl, rfl, by decide +kernel, rfl, by decide +kernel, by decide +kernel⟩
theorem sc_Lon : FnScope ["_law_word", "_law_k"] ["_law_word", "_law_k"] (defScope s_Lon) := ⟨rfl, rfl, rfl, by decide +kernel, rfl, by decide +kernel, by decide +kernel⟩
theorem sc_Lacross : FnScope ["_law_yard_here", "_law_w", "_law_i", "_law_v", "_law_j", "_law_a", "_law_b", "_law_p", "_law_q", "_law_at", "_law_rest"] ["_law_yard_here", "_law_w", "_law_i", "_law_v", "_law_j"] (defScope s_Lacross) := ⟨rfl, rfl, rfl, by decide +kernel, rfl, by decide +kernel, by decide +kernel⟩
theorem sc_Lshared : FnScope ["_law_w", "_law_i", "_law_v", "_law_j", "_law_counter", "_law_many", "_law_other_here"] ["_law_w", "_law_i", "_law_v", "_law_j", "_law_counter"] (defScope s_Lshared) := ⟨rfl, rfl, rfl, by decide +kernel, rfl, by decide +kernel, by decide +kernel⟩
theorem sc_Lbegins : FnScope ["_law_yard_here", "_law_w", "_law_i", "_law_v", "_law_j", "_law_counter", "_law_many", "_law_p", "_law_q", "_law_behind", "_law_last", "_law_one"] ["_law_yard_here", "_law_w", "_law_i", "_law_v", "_law_j", "_law_counter"] (defScope s_Lbegins) := ⟨rfl, rfl, rfl, by decide +kernel, rfl, by decide +kernel, by decide +kernel⟩
theorem sc_Lforced : FnScope ["_law_yard_here", "_law_words_here", "_law_found", "_law_places", "_law_c", "_law_word", "_law_i", "_law_d", "_law_j", "_law_w", "_law_v", "_law_many", "_law_there"] ["_law_yard_here", "_law_words_here"] (defScope s_Lforced) := ⟨rfl, rfl, rfl, by decide +kernel, rfl, by decide +kernel, by decide +kernel⟩
theorem sc_Lwords : FnScope ["_law_box_here", "_law_yard_here", "_law_many", "_law_top", "_law_found", "_law_k", "_law_one"] ["_law_box_here", "_law_yard_here", "_law_many", "_law_top"] (defScope s_Lwords) := ⟨rfl, rfl, rfl, by decide +kernel, rfl, by decide +kernel, by decide +kernel⟩
theorem sc_Lanything : FnScope ["_law_box_here", "_law_words_here", "_law_due", "_law_c", "_law_d", "_law_thing"] ["_law_box_here", "_law_words_here", "_law_due"] (defScope s_Lanything) := ⟨rfl, rfl, rfl, by decide +kernel, rfl, by decide +kernel, by decide +kernel⟩
theorem sc_Lotherwise : FnScope ["_law_box_here", "_law_words_here", "_law_thing", "_law_form", "_law_c", "_law_i", "_law_d", "_law_j", "_law_many", "_law_word", "_law_at", "_law_some"] ["_law_box_here", "_law_words_here", "_law_thing"] (defScope s_Lotherwise) := ⟨rfl, rfl, rfl, by decide +kernel, rfl, by decide +kernel, by decide +kernel⟩
theorem sc_Lright : FnScope ["_law_box_here", "_law_yard_here", "_law_words_here", "_law_due", "_law_turn", "_law_good", "_law_odd", "_law_other_here", "_law_thing", "_law_found"] ["_law_box_here", "_law_yard_here", "_law_words_here"] (defScope s_Lright) := ⟨rfl, rfl, rfl, by decide +kernel, rfl, by decide +kernel, by decide +kernel⟩
theorem sc_law : FnScope ["_law_script", "_law_k", "_law_box_here", "_law_yard_here", "_law_many", "_law_top"] ["_law_script"] (defScope s_law) := ⟨rfl, rfl, rfl, by decide +kernel, rfl, by decide +kernel, by decide +kernel⟩
section
variable {P : Program} {w : World} {K : PySem.W.Frag} {mg : Str → Option Value} {base : Heap} {f0 f1 f2 f3 f4 f5 f6 f7 f8 f9 f10 f11 f12 f13 f14 f15 f16 f17 f18 f19 f20 f21 f22 f23 f24 f25 f26 f27 f28 f29 : Addr} {d0 d1 d2 d3 d4 d5 d6 d7 d8 d9 d10 d11 d12 d13 d14 d15 d16 d17 d18 d19 d20 d21 d22 d23 d24 d25 d26 d27 d28 d29 : FuncData}
/-- names: 0 _law_word, 1 _law_k -/
theorem ok_Lon (T : Txt K mg f0 f1 f2 f3 f4 f5 f6 f7 f8 f9 f10 f11 f12 f13 f14 f15 f16 f17 f18 f19 f20 f21 f22 f23 f24 f25 f26 f27 f28 f29 d0 d1 d2 d3 d4 d5 d6 d7 d8 d9 d10 d11 d12 d13 d14 d15 d16 d17 d18 d19 d20 d21 d22 d23 d24 d25 d26 d27 d28 d29) : FnOk P w K mg base CX0 1 f20 d20 ["_law_word", "_law_k"] (sp_Lon K) := by
  refine T.F20.fn.ok sc_Lon (fun vs H Q E h => len_Lon h) (fun cdv A outer s H vs Q E hr h => ?_)
  refine ⟨_, (pss_one (ps_ret (pe_ix ix_S (pv 0) (pe_op op_mod (pv 1) (pe_callB call_lenS rfl T.z_len PySem.boot_len (pa_cons (pv 0) pa_nil))) (fun _ _ => rfl)))), ?_⟩
  obtain ⟨w, k, rfl, hw, hz, q⟩ := h
  have hs : (100000 : Nat) < sizeLine := by decide
  have pw : (0 : Int) < (w.length : Int) := by have := List.length_pos_iff.mpr hw; omega
  exact ⟨_, rfl, _, rfl, _, rfl, w, rfl, by omega, _, _, rfl, rfl, pw, w, _, _, rfl, rfl, by omega, rd_atm hw _, q⟩
/-- names: 0 _law_script, 1 _law_k, 2 _law_cell, 3 _law_seed -/
theorem ok_Lbox (T : Txt K mg f0 f1 f2 f3 f4 f5 f6 f7 f8 f9 f10 f11 f12 f13 f14 f15 f16 f17 f18 f19 f20 f21 f22 f23 f24 f25 f26 f27 f28 f29 d0 d1 d2 d3 d4 d5 d6 d7 d8 d9 d10 d11 d12 d13 d14 d15 d16 d17 d18 d19 d20 d21 d22 d23 d24 d25 d26 d27 d28 d29) : FnOk P w K mg base CX0 1 f13 d13 ["_law_script", "_law_k"] (sp_Lbox K) := by
  refine T.F13.fn.ok sc_Lbox (fun vs H Q E h => len_Lbox h) (fun cdv A outer s H vs Q E hr h => ?_)
  refine ⟨_, (pss_cons (ps_set (i := 2) sc_Lbox.nd rfl (Or.inl rfl) (pe_op op_add (pe_op op_mul pe_int (pv 1)) pe_int))
      (pss_cons (ps_if (pt_cmpR op_lt (pv 1) (pe_callB (call_len_seqK K rfl) rfl T.z_len PySem.boot_len (pa_cons (pv 0) pa_nil)) (nomark _)) (pss_one (ps_set (i := 2) sc_Lbox.nd rfl (Or.inl rfl) (pe_ix (ix_listK K rfl) (pv 0) (pv 1) (fun _ _ => rfl)))) (pss_one (ps_if (pt_cmpR op_gt (pe_callB (call_len_seqK K rfl) rfl T.z_len PySem.boot_len (pa_cons (pv 0) pa_nil)) pe_int (nomark _)) (pss_one (ps_set (i := 2) sc_Lbox.nd rfl (Or.inl rfl) (pe_op op_add (pv 2) (pe_op op_mul (pe_op op_mod (pe_ix (ix_listK K rfl) (pv 0) (pe_op op_mod (pv 1) (pe_callB (call_len_seqK K rfl) rfl T.z_len PySem.boot_len (pa_cons (pv 0) pa_nil))) (fun _ _ => rfl)) pe_int) pe_int)))) pss_nil)))
      (pss_cons (ps_set (i := 3) sc_Lbox.nd rfl (Or.inl rfl) (pe_op op_mod (pe_op op_pow (pe_op op_add (pe_op op_add (pe_op op_mod (pv 2) pe_int) (pe_op op_mul pe_int (pv 1))) pe_int) pe_int) pe_int))
      (pss_one (ps_ret (pe_lst (pa_cons (pe_ix (ix_listK K rfl) (pe_lst (pa_cons pe_int (pa_cons (pv 2) pa_nil))) (pe_callTy call_int1 rfl T.z_int boot_int (pa_cons (pe_cmpR op_ge (pv 2) (pe_op op_pow pe_int pe_int) (nomark _)) pa_nil)) (fun _ _ => rfl)) (pa_cons (pe_op op_add (pe_op op_mod (pv 3) pe_int) pe_int) pa_nil)))))))), ?_⟩
  obtain ⟨a, ns, k, rfl, hS, hk, q⟩ := h
  have hp : (0 : Int) < 2147483629 := by decide
  walk_at "rd"
  refine ⟨a, _, rfl, .inl hS, ?_⟩
  walk_at "rd"
  refine ite2 (fun e => ?_) (fun e => ?_)
  · have e' : (k : Int) < ((ns.map V.int).length : Nat) := of_decide_eq_true e
    rw [List.length_map] at e'
    obtain ⟨z, hz⟩ := ints_at (ns := ns) (i := k) (by omega)
    walk_at "rd"
    refine ⟨a, _, k, _, rfl, rfl, hS, atI_nat hz, ?_⟩
    walk_at "rd"
    refine fun p1 n1 => ?_
    walk_at "rd"
    refine .inr ⟨_, rfl, ?_⟩
    obtain ⟨y, hy⟩ := box_at _ z
    refine ⟨p1, _, _, _, rfl, rfl, SqL.of upd_same, hy, ?_⟩
    walk_at "rd"
    exact fun p2 n2 => q p2 _ (Same.free (Same.upd n1) n2) ⟨_, _, upd_same⟩ ((Same.upd n1).trans (Same.upd n2))
  · walk_at "rd"
    refine ⟨a, _, rfl, .inl hS, ?_⟩
    walk_at "rd"
    refine ite2 (fun e2 => ?_) (fun e2 => ?_)
    · have e' : (0 : Int) < ((ns.map V.int).length : Nat) := of_decide_eq_true e2
      have hl : (0 : Int) < (ns.length : Int) := by rw [List.length_map] at e'; exact e'
      have m1 : 0 ≤ (k : Int) % (ns.length : Int) := Int.emod_nonneg _ (by omega)
      have m2 : (k : Int) % (ns.length : Int) < (ns.length : Int) := Int.emod_lt_of_pos _ hl
      obtain ⟨z, hz⟩ := ints_at (ns := ns) (i := ((k : Int) % (ns.length : Int)).toNat) (by omega)
      have hz' : atI (ns.map V.int) ((k : Int) % ((ns.map V.int).length : Nat)) = some (V.int z) := by
        have := atI_nat hz
        rw [Int.toNat_of_nonneg m1] at this
        rw [List.length_map]
        exact this
      walk_at "rd"
      refine ⟨a, _, rfl, .inl hS, ?_⟩
      walk_at "rd"
      refine ⟨a, _, _, _, rfl, rfl, hS, hz', ?_⟩
      walk_at "rd"
      refine fun p1 n1 => ?_
      walk_at "rd"
      refine .inr ⟨_, rfl, ?_⟩
      obtain ⟨y, hy⟩ := box_at _ _
      refine ⟨p1, _, _, _, rfl, rfl, SqL.of upd_same, hy, ?_⟩
      walk_at "rd"
      exact fun p2 n2 => q p2 _ (Same.free (Same.upd n1) n2) ⟨_, _, upd_same⟩ ((Same.upd n1).trans (Same.upd n2))
    · walk_at "rd"
      refine fun p1 n1 => ?_
      walk_at "rd"
      refine .inr ⟨_, rfl, ?_⟩
      obtain ⟨y, hy⟩ := box_at _ _
      refine ⟨p1, _, _, _, rfl, rfl, SqL.of upd_same, hy, ?_⟩
      walk_at "rd"
      exact fun p2 n2 => q p2 _ (Same.free (Same.upd n1) n2) ⟨_, _, upd_same⟩ ((Same.upd n1).trans (Same.upd n2))
/-- names: 0 _law_box_here, 1 _law_many, 2 _law_digit, 3 _law_one -/
theorem ok_Ltake (T : Txt K mg f0 f1 f2 f3 f4 f5 f6 f7 f8 f9 f10 f11 f12 f13 f14 f15 f16 f17 f18 f19 f20 f21 f22 f23 f24 f25 f26 f27 f28 f29 d0 d1 d2 d3 d4 d5 d6 d7 d8 d9 d10 d11 d12 d13 d14 d15 d16 d17 d18 d19 d20 d21 d22 d23 d24 d25 d26 d27 d28 d29) : FnOk P w K mg base CX0 1 f14 d14 ["_law_box_here", "_law_many"] (sp_Ltake K) := by
  refine T.F14.fn.ok sc_Ltake (fun vs H Q E h => len_Ltake h) (fun cdv A outer s H vs Q E hr h => ?_)
  refine ⟨_, (pss_cons (ps_if (pt_cmpR op_gt (pe_ix (ix_listK K rfl) (pv 0) pe_int (fun _ _ => rfl)) pe_int (nomark _)) (pss_cons (ps_set (i := 2) sc_Ltake.nd rfl (Or.inl rfl) (pe_op op_mod (pe_ix (ix_listK K rfl) (pv 0) pe_int (fun _ _ => rfl)) (pv 1)))
      (pss_cons (ps_asg (pe_op op_fdiv (pe_ix (ix_listK K rfl) (pv 0) pe_int (fun _ _ => rfl)) (pv 1)) (pg_sub (pv 0) pe_int set_list))
      (pss_one (ps_ret (pv 2))))) pss_nil)
      (pss_cons (ps_set (i := 3) sc_Ltake.nd rfl (Or.inl rfl) (pe_op op_mod (pe_op op_mul (pe_ix (ix_listK K rfl) (pv 0) pe_int (fun _ _ => rfl)) pe_int) pe_int))
      (pss_cons (ps_asg (pe_op op_add (pe_op op_mod (pe_op op_add (pe_op op_mul (pv 3) pe_int) pe_int) pe_int) pe_int) (pg_sub (pv 0) pe_int set_list))
      (pss_one (ps_ret (pe_op op_mod (pe_op op_fdiv (pe_op op_add (pe_op op_mul (pv 3) pe_int) (pe_ix (ix_listK K rfl) (pv 0) pe_int (fun _ _ => rfl))) pe_int) (pv 1))))))), ?_⟩
  obtain ⟨b, m, rfl, ⟨x, y, hb⟩, h1, h2, q⟩ := h
  have fin : ∀ (r x' y' : Int), 0 ≤ r → r < m → Q (.int r) (upd H b (.lst [.int x', .int y'])) := fun r x' y' h3 h4 => by
    have e : r = ((r.toNat : Nat) : Int) := by omega
    rw [e]
    exact q r.toNat _ (by omega) ⟨x', y', upd_same⟩ (SameB.upd b H _)
  refine ⟨_, rfl, b, _, 0, _, rfl, rfl, SqL.of hb, rfl, _, _, rfl, rfl, _, rfl, ite2 (fun e => ?_) (fun e => ?_)⟩
  · refine ⟨_, rfl, b, _, 0, _, rfl, rfl, SqL.of hb, rfl, _, rfl, _, _, rfl, rfl, (by omega : 0 < m), ?_⟩
    refine ⟨_, rfl, b, _, 0, _, rfl, rfl, SqL.of hb, rfl, _, rfl, _, _, rfl, rfl, ⟨by omega, by omega⟩, _, rfl, b, _, 0, 0, rfl, rfl, hb, rfl, _, rfl, ?_⟩
    exact fin (x % m) (x / m) y (Int.emod_nonneg _ (by omega)) (Int.emod_lt_of_pos _ (by omega))
  · refine ⟨_, rfl, b, _, 1, _, rfl, rfl, SqL.of hb, rfl, _, _, rfl, rfl, .inr ⟨by decide, by decide⟩, _, _, rfl, rfl, (by decide : (0 : Int) < 2147483647), ?_⟩
    refine ⟨_, rfl, _, _, rfl, rfl, .inr ⟨by decide, by decide⟩, _, _, rfl, rfl, _, _, rfl, rfl, (by decide : (0 : Int) < 2147483629), _, _, rfl, rfl, _, rfl, b, _, 1, 1, rfl, rfl, hb, rfl, ?_⟩
    refine ⟨_, rfl, _, _, rfl, rfl, .inr ⟨by decide, by decide⟩, _, rfl, b, _, 1, _, rfl, rfl, SqL.of upd_same, rfl, _, _, rfl, rfl, _, _, rfl, rfl, ⟨by decide, by decide⟩, _, rfl, _, _, rfl, rfl, (by omega : 0 < m), ?_⟩
    exact fin _ _ _ (Int.emod_nonneg _ (by omega)) (Int.emod_lt_of_pos _ (by omega))
/-- names: 0 _law_letter, 1 _law_small, 2 _law_capital -/
theorem ok_Lother (T : Txt K mg f0 f1 f2 f3 f4 f5 f6 f7 f8 f9 f10 f11 f12 f13 f14 f15 f16 f17 f18 f19 f20 f21 f22 f23 f24 f25 f26 f27 f28 f29 d0 d1 d2 d3 d4 d5 d6 d7 d8 d9 d10 d11 d12 d13 d14 d15 d16 d17 d18 d19 d20 d21 d22 d23 d24 d25 d26 d27 d28 d29) : FnOk P w K mg base CX0 1 f15 d15 ["_law_letter"] (sp_Lother K) := by
  refine T.F15.fn.ok sc_Lother (fun vs H Q E h => len_Lother h) (fun cdv A outer s H vs Q E hr h => ?_)
  refine ⟨_, (pss_cons (ps_set (i := 1) sc_Lother.nd rfl (Or.inl rfl) (pe_S [97, 98, 99, 100, 101, 102, 103, 104, 105, 106, 107, 108, 109, 110, 111, 112, 113, 114, 115, 116, 117, 118, 119, 120, 121, 122] (by decide +kernel)))
      (pss_cons (ps_set (i := 2) sc_Lother.nd rfl (Or.inl rfl) (pe_S [65, 66, 67, 68, 69, 70, 71, 72, 73, 74, 75, 76, 77, 78, 79, 80, 81, 82, 83, 84, 85, 86, 87, 88, 89, 90] (by decide +kernel)))
      (pss_cons (ps_if (pt_cmpR op_inS (pv 0) (pv 1) (by with_unfolding_all rfl)) (pss_one (ps_ret (pe_ix ix_S (pv 2) (pe_bmK K rfl PySem.F.plainAttrs_str PySem.F.slot_str_index PySem.F.type_str_index mt_indexS (pv 1) (pa_cons (pv 0) pa_nil)) (fun _ _ => rfl)))) pss_nil)
      (pss_one (ps_ret (pe_ix ix_S (pv 1) (pe_bmK K rfl PySem.F.plainAttrs_str PySem.F.slot_str_index PySem.F.type_str_index mt_indexS (pv 2) (pa_cons (pv 0) pa_nil)) (fun _ _ => rfl))))))), ?_⟩
  obtain ⟨c, rfl, hc, q⟩ := h
  refine ⟨_, rfl, _, rfl, c, smalls, rfl, rfl, _, rfl, ite2 (fun e => ?_) (fun e => ?_)⟩
  · have hm : c ∈ smalls := of_decide_eq_true e
    exact ⟨_, rfl, _, rfl, rfl, _, rfl, smalls, c, rfl, rfl, hm, caps, _, ctr c, rfl, rfl, by decide, other_small c hm, q⟩
  · have hm : c ∈ caps := hc.resolve_left fun z => e (decide_eq_true z)
    exact ⟨_, rfl, _, rfl, rfl, _, rfl, caps, c, rfl, rfl, hm, smalls, _, ctr c, rfl, rfl, by decide, other_cap c hm, q⟩
/-- names: 0 _law_box_here, 1 _law_few, 2 _law_top, 3 _law_left, 4 _law_ends, 5 _law_k, 6 _law_letter, 7 _law_found -/
theorem ok_Lyard (T : Txt K mg f0 f1 f2 f3 f4 f5 f6 f7 f8 f9 f10 f11 f12 f13 f14 f15 f16 f17 f18 f19 f20 f21 f22 f23 f24 f25 f26 f27 f28 f29 d0 d1 d2 d3 d4 d5 d6 d7 d8 d9 d10 d11 d12 d13 d14 d15 d16 d17 d18 d19 d20 d21 d22 d23 d24 d25 d26 d27 d28 d29) : FnOk P w K mg base CX0 2 f16 d16 ["_law_box_here", "_law_few", "_law_top"] (sp_Lyard K) := by
  have G_Ltake := ok_Ltake (P := P) (w := w) (base := base) T
  have G_Lother := ok_Lother (P := P) (w := w) (base := base) T
  refine T.F16.fn.ok sc_Lyard (fun vs H Q E h => len_Lyard h) (fun cdv A outer s H vs Q E hr h => ?_)
  refine ⟨_, (pss_cons (ps_set (i := 3) sc_Lyard.nd rfl (Or.inl rfl) (pe_callTy (call_listS rfl) rfl T.z_list boot_list (pa_cons (pe_S [97, 98, 99, 100, 101, 102, 103, 104, 105, 106, 107, 108, 109, 110, 111, 112, 113, 114, 115, 116, 117, 118, 119, 120, 121, 122] (by decide +kernel)) pa_nil)))
      (pss_cons (ps_set (i := 4) sc_Lyard.nd rfl (Or.inl rfl) (pe_lst pa_nil))
      (pss_cons (ps_for PassesOwn.never rfl (pi_range1 rfl T.z_range (pa_cons (pe_op op_add (pv 1) (pe_call G_Ltake (hr.mono (by decide)) rfl T.F14.mg T.F14.fn.kp T.F14.bd .nil pass0 (pa_cons (pv 0) (pa_cons (pe_op op_add (pe_op op_sub (pv 2) (pv 1)) pe_int) pa_nil)))) pa_nil)) (pg_name (i := 5) sc_Lyard.nd rfl (Or.inl rfl)) (pss_cons (ps_set (i := 6) sc_Lyard.nd rfl (Or.inl rfl) (pe_bmK K rfl PySem.F.plainAttrs_list PySem.F.slot_list_pop PySem.F.type_list_pop mt_popAt (pv 3) (pa_cons (pe_call G_Ltake (hr.mono (by decide)) rfl T.F14.mg T.F14.fn.kp T.F14.bd .nil pass0 (pa_cons (pv 0) (pa_cons (pe_callB (call_len_seqK K rfl) rfl T.z_len PySem.boot_len (pa_cons (pv 3) pa_nil)) pa_nil))) pa_nil)))
      (pss_one (ps_set (i := 4) sc_Lyard.nd rfl (Or.inl rfl) (pe_op op_cat (pv 4) (pe_lst (pa_cons (pv 6) (pa_cons (pe_call G_Lother (hr.mono (by decide)) rfl T.F15.mg T.F15.fn.kp T.F15.bd .nil pass0 (pa_cons (pv 6) pa_nil)) pa_nil))))))))
      (pss_cons (ps_set (i := 7) sc_Lyard.nd rfl (Or.inl rfl) (pe_S [] (by decide +kernel)))
      (pss_cons (ps_whileN PassesOwn.never (pt_cmpR op_gt (pe_callB (call_len_seqK K rfl) rfl T.z_len PySem.boot_len (pa_cons (pv 4) pa_nil)) pe_int (nomark _)) (pss_one (ps_set (i := 7) sc_Lyard.nd rfl (Or.inl rfl) (pe_op op_addS (pv 7) (pe_bmK K rfl PySem.F.plainAttrs_list PySem.F.slot_list_pop PySem.F.type_list_pop mt_popAt (pv 4) (pa_cons (pe_call G_Ltake (hr.mono (by decide)) rfl T.F14.mg T.F14.fn.kp T.F14.bd .nil pass0 (pa_cons (pv 0) (pa_cons (pe_callB (call_len_seqK K rfl) rfl T.z_len PySem.boot_len (pa_cons (pv 4) pa_nil)) pa_nil))) pa_nil))))))
      (pss_one (ps_ret (pv 7)))))))), ?_⟩
  obtain ⟨b, few, top, rfl, hb, h1, h2, h3, q⟩ := h
  have hs : (100000 : Nat) < sizeLine := by decide
  walk_at "rd"
  intro p1 n1
  walk_at "rd"
  intro p2 n2
  have s1 : Same H (upd (upd H p1 (.lst (sgs smalls))) p2 (.lst [])) := (Same.upd n1).trans (Same.upd n2)
  have bp1 : p1 ≠ b := hb.ne n1
  have np2 : H p2 = none := Same.free (Same.upd n1) n2
  have bp2 : p2 ≠ b := hb.ne np2
  have p12 : p1 ≠ p2 := fun z => by rw [← z, upd_same] at n2; cases n2
  walk_at "rd"
  refine ⟨b, _, rfl, hb.same s1, by omega, by omega, fun n H1 hn hb1 s2 => ?_⟩
  walk_at "rd"
  refine for_range (fun i σ H' => ∃ (pe : Addr) (L E : List Nat) (kv lv : Option V), σ = [some (.ref b), some (.int few), some (.int top), some (.ref p1), some (.ref pe), kv, lv, none] ∧ YdW i L E ∧ H' p1 = some (.lst (sgs L)) ∧ H' pe = some (.lst (sgs E)) ∧ p1 ≠ pe ∧ H pe = none ∧ BoxAt H' b ∧ SameB b H H')
    ⟨p2, smalls, [], none, none, rfl, YdW.start, s2 _ _ (by rw [upd_ne p12, upd_same]; rfl) bp1, s2 _ _ upd_same bp2, p12, np2, hb1, (SameB.of s1).trans s2⟩ ?_ ?_
  · rintro i σ H2 hi ⟨pe, L, E, kv, lv, rfl, yw, hp1, hpe, n1e, npe, hb2, s3⟩
    have hi2 : i < 26 := by simp at hi; omega
    have hll := yw.ll
    have hel := yw.el
    refine ⟨_, rfl, .inl ⟨rfl, _, SqL.of hp1⟩, ?_⟩
    walk_at "rd"
    refine ⟨p1, _, rfl, .inl (SqL.of hp1), b, _, rfl, hb2, by rw [sgs_len]; omega, by rw [sgs_len]; omega, fun r H3 hr3 hb3 s4 => ?_⟩
    rw [sgs_len] at hr3
    have hr4 : r < L.length := by omega
    have hp1' := s4 _ _ hp1 bp1
    have hpe' := s4 _ _ hpe (hb.ne npe)
    refine ⟨p1, _, _, r, _, rfl, rfl, hp1', by omega, by omega, by rw [sgs_len, seqIndex_of (by omega) (by omega), Int.toNat_natCast], sgs_at hr4, ?_⟩
    rw [sgs_erase]
    have hlt : Lt L[r] := .inl (yw.sm _ (List.getElem_mem hr4))
    have hpe2 : (upd H3 p1 (.lst (sgs (L.eraseIdx r)))) pe = some (.lst (sgs E)) := by rw [upd_ne (Ne.symm n1e)]; exact hpe'
    walk_at "rd"
    intro p3 n3
    have e3 : pe ≠ p3 := ne_of_none hpe2 n3
    refine ⟨pe, p3, _, _, rfl, rfl, by rw [upd_ne e3]; exact hpe2, upd_same, by rw [sgs_len]; show E.length + 2 ≤ _; omega, fun p4 n4 => ?_⟩
    have n3' : H p3 = none := ((s3.trans s4).updN n1).none n3 (hb3.updN bp1 |>.ne n3)
    have bx3 := (hb3.updN (o := .lst (sgs (L.eraseIdx r))) bp1).updN (o := .lst [V.str (S [L[r]]), V.str (S [ctr L[r]])]) (hb.ne n3')
    have sx3 := ((s3.trans s4).updN (o := .lst (sgs (L.eraseIdx r))) n1).updN (o := .lst [V.str (S [L[r]]), V.str (S [ctr L[r]])]) n3'
    have n4' : H p4 = none := sx3.none n4 (bx3.ne n4)
    have h14 : p1 ≠ p4 := fun z => by rw [← z] at n4; by_cases z3 : p1 = p3 <;> simp [upd, z3] at n4
    have h13 : p1 ≠ p3 := fun z => by rw [← z, upd_same] at n3; cases n3
    refine ⟨p4, L.eraseIdx r, E ++ [L[r], ctr L[r]], _, _, rfl, yw.turn hi2 hr4, by rw [upd_ne h14, upd_ne h13, upd_same], ?_, h14, n4', bx3.updN (hb.ne n4'), sx3.updN n4'⟩
    rw [upd_same, ← sgs_app]
    rfl
  · rintro σ H2 ⟨pe, L, E, kv, lv, rfl, yw, hp1, hpe, n1e, npe, hb2, s3⟩
    have hel := yw.el
    have hbe := hb.ne npe
    walk_at "rd"
    refine ⟨fun m σ H' => ∃ F E' : List Nat, σ = [some (.ref b), some (.int few), some (.int top), some (.ref p1), some (.ref pe), kv, lv, some (.str (S F))] ∧ m = E'.length ∧ (F ++ E').Perm E ∧ H' pe = some (.lst (sgs E')) ∧ BoxAt H' b ∧ SameB b H H', ⟨_, [], E, rfl, rfl, List.Perm.refl _, hpe, hb2, s3⟩, ?_⟩
    rintro m σ H3 ⟨F, E', rfl, rfl, hpm, hpe3, hb3, s4⟩
    have hlen := hpm.length_eq
    rw [List.length_append] at hlen
    have hn2 : (few : Int) + n ≤ 9 := by omega
    have hE26 : E.length ≤ 100 := by rw [hel]; omega
    walk_at "rd"
    refine ⟨pe, _, rfl, .inl (SqL.of hpe3), _, _, rfl, rfl, _, rfl, ite2 (fun e => ?_) (fun e => ?_)⟩
    · have e' : (0 : Int) < ((sgs E').length : Nat) := of_decide_eq_true e
      rw [sgs_len] at e'
      refine ⟨_, rfl, _, rfl, .inl ⟨rfl, _, SqL.of hpe3⟩, ?_⟩
      walk_at "rd"
      refine ⟨pe, _, rfl, .inl (SqL.of hpe3), b, _, rfl, hb3, by rw [sgs_len]; omega, by rw [sgs_len]; omega, fun r H4 hr4 hb4 s5 => ?_⟩
      rw [sgs_len] at hr4
      have hr5 : r < E'.length := by omega
      refine ⟨pe, _, _, r, _, rfl, rfl, s5 _ _ hpe3 hbe, by omega, by omega, by rw [sgs_len, seqIndex_of (by omega) (by omega), Int.toNat_natCast], sgs_at hr5, ?_⟩
      rw [sgs_erase]
      have hp := erase_perm (List.getElem?_eq_getElem hr5)
      have hpl := hp.length_eq
      rw [List.length_cons] at hpl
      refine ⟨F, _, rfl, rfl, by show F.length + 1 ≤ _; omega, (E'.eraseIdx r).length, by omega, F ++ [E'[r]], E'.eraseIdx r, rfl, rfl, ?_, upd_same, hb4.updN hbe, (s4.trans s5).updN npe⟩
      rw [List.append_assoc]
      exact (List.Perm.append_left F hp).trans hpm
    · have e' : E' = [] := by
        cases E' with
        | nil => rfl
        | cons c r => exact absurd (decide_eq_true (by rw [sgs_len]; show (0 : Int) < ((r.length + 1 : Nat) : Int); omega)) e
      subst e'
      rw [List.append_nil] at hpm
      have hl2 := hpm.length_eq
      refine ⟨_, rfl, q F H3 (yw.yd.perm hpm.symm) ?_ ?_ hb3 s4⟩
      · rw [hl2, hel]; omega
      · rw [hl2, hel]; omega
/-- names: 0 _law_yard_here, 1 _law_w, 2 _law_i, 3 _law_v, 4 _law_j, 5 _law_a, 6 _law_b, 7 _law_p, 8 _law_q, 9 _law_at, 10 _law_rest -/
theorem ok_Lacross (T : Txt K mg f0 f1 f2 f3 f4 f5 f6 f7 f8 f9 f10 f11 f12 f13 f14 f15 f16 f17 f18 f19 f20 f21 f22 f23 f24 f25 f26 f27 f28 f29 d0 d1 d2 d3 d4 d5 d6 d7 d8 d9 d10 d11 d12 d13 d14 d15 d16 d17 d18 d19 d20 d21 d22 d23 d24 d25 d26 d27 d28 d29) : FnOk P w K mg base CX0 2 f21 d21 ["_law_yard_here", "_law_w", "_law_i", "_law_v", "_law_j"] (sp_Lacross K) := by
  have G_Lother := ok_Lother (P := P) (w := w) (base := base) T
  have G_Lon := ok_Lon (P := P) (w := w) (base := base) T
  refine T.F21.fn.ok sc_Lacross (fun vs H Q E h => len_Lacross h) (fun cdv A outer s H vs Q E hr h => ?_)
  refine ⟨_, (pss_cons (ps_asg (pe_tup (pa_cons (pe_call G_Lother (hr.mono (by decide)) rfl T.F15.mg T.F15.fn.kp T.F15.bd .nil pass0 (pa_cons (pe_call G_Lon (hr.mono (by decide)) rfl T.F20.mg T.F20.fn.kp T.F20.bd .nil pass0 (pa_cons (pv 1) (pa_cons (pe_op op_sub (pv 2) pe_int) pa_nil))) pa_nil)) (pa_cons (pe_call G_Lon (hr.mono (by decide)) rfl T.F20.mg T.F20.fn.kp T.F20.bd .nil pass0 (pa_cons (pv 1) (pa_cons (pv 2) pa_nil))) pa_nil))) (pg_tupK (n := 2) K rfl rfl (pgs_cons (pg_name (i := 5) sc_Lacross.nd rfl (Or.inl rfl)) (pgs_cons (pg_name (i := 6) sc_Lacross.nd rfl (Or.inr rfl)) pgs_nil))))
      (pss_cons (ps_par (i := 7) (j := 8) rfl sc_Lacross.nd rfl rfl (by decide) rfl rfl (pa_cons (pe_call G_Lother (hr.mono (by decide)) rfl T.F15.mg T.F15.fn.kp T.F15.bd .nil pass0 (pa_cons (pe_call G_Lon (hr.mono (by decide)) rfl T.F20.mg T.F20.fn.kp T.F20.bd .nil pass0 (pa_cons (pv 3) (pa_cons (pe_op op_sub (pv 4) pe_int) pa_nil))) pa_nil)) (pa_cons (pe_call G_Lon (hr.mono (by decide)) rfl T.F20.mg T.F20.fn.kp T.F20.bd .nil pass0 (pa_cons (pv 3) (pa_cons (pv 4) pa_nil))) pa_nil)) rfl)
      (pss_cons (ps_if (pt_cmpR op_lt (pe_callB call_lenSet rfl T.z_len PySem.boot_len (pa_cons (pe_callTy (call_setS K rfl rfl) rfl T.z_set boot_set (pa_cons (pe_lst (pa_cons (pv 5) (pa_cons (pv 6) (pa_cons (pv 7) (pa_cons (pv 8) pa_nil))))) pa_nil)) pa_nil)) pe_int (nomark _)) (pss_one (ps_ret pe_bl)) pss_nil)
      (pss_cons (ps_set (i := 9) sc_Lacross.nd rfl (Or.inl rfl) (pe_bmK K rfl PySem.F.plainAttrs_str PySem.F.slot_str_index PySem.F.type_str_index mt_indexS (pv 0) (pa_cons (pv 5) pa_nil)))
      (pss_cons (ps_set (i := 10) sc_Lacross.nd rfl (Or.inr rfl) (pe_op op_addS (pe_slice sl_S (pv 0) (po_some (pv 9)) po_none) (pe_slice sl_S (pv 0) po_none (po_some (pv 9)))))
      (pss_one (ps_ret (pe_cmpR op_eqI (pe_callB (call_len_seqK K rfl) rfl T.z_len PySem.boot_len (pa_cons (pe_compB ["_law_end", "_law_b", "_law_rest"] [none, some 6, some 10] (pi_tupK K rfl (pe_tup (pa_cons (pv 7) (pa_cons (pv 8) pa_nil)))) ⟨⟨rfl, rfl, by first | exact .inl rfl | exact .inr rfl⟩, ⟨⟨rfl, rfl, by first | exact .inl rfl | exact .inr rfl⟩, trivial⟩⟩ (fun _ _ _ _ => (pg_name (i := 0) (by decide +kernel : List.Nodup (["_law_end", "_law_b", "_law_rest"] : List Str)) rfl (Or.inl rfl))) (fun _ _ _ _ => (pf_one (pt_cmpR op_lt (pe_bmK K rfl PySem.F.plainAttrs_str PySem.F.slot_str_index PySem.F.type_str_index mt_indexS (pv 2) (pa_cons (pv 0) pa_nil)) (pe_bmK K rfl PySem.F.plainAttrs_str PySem.F.slot_str_index PySem.F.type_str_index mt_indexS (pv 2) (pa_cons (pv 1) pa_nil)) (nomark _)))) (fun _ _ _ _ => (pv 0))) pa_nil)) pe_int (nomark _))))))))), ?_⟩
  obtain ⟨y, w, i, v, j, rfl, hy, hz, hw, hv, wz, vz, hi, hj, q⟩ := h
  have hs : (100000 : Nat) < sizeLine := by decide
  have lw : ∀ k, Lt (rd w k) := fun k => hy.lt _ (hw.rd k)
  have lv : ∀ k, Lt (rd v k) := fun k => hy.lt _ (hv.rd k)
  refine ⟨_, rfl, _, rfl, _, _, rfl, rfl, w, _, rfl, hw.ne, by omega, _, rfl, lw _, ?_⟩
  refine ⟨_, rfl, _, rfl, w, _, rfl, hw.ne, by omega, by show 2 ≤ sizeLine; decide, fun t nt => ?_⟩
  refine ⟨t, _, rfl, SqT.of upd_same, rfl, _, _, rfl, _, _, rfl, rfl, ?_⟩
  refine ⟨_, rfl, _, rfl, _, _, rfl, rfl, v, _, rfl, hv.ne, by omega, _, rfl, lv _, ?_⟩
  refine ⟨_, rfl, _, rfl, v, _, rfl, hv.ne, by omega, _, _, rfl, ?_⟩
  have ma := hy.cl _ (hw.rd ((i : Int) - 1))
  have mb := hw.rd i
  have mc := hy.cl _ (hv.rd ((j : Int) - 1))
  have md := hv.rd j
  have ab : rd w i ≠ ctr (rd w ((i : Int) - 1)) := hw.red i
  have cd : rd v j ≠ ctr (rd v ((j : Int) - 1)) := hv.red j
  unfold mAc at q
  have s1 := Same.upd (o := .tup [.str (S [ctr (rd w ((i : Int) - 1))]), .str (S [rd w i])]) nt
  generalize upd H t (.tup [.str (S [ctr (rd w ((i : Int) - 1))]), .str (S [rd w i])]) = H1 at s1 ⊢
  generalize ctr (rd w ((i : Int) - 1)) = a at q ma ab ⊢
  generalize rd w i = b at q mb ab ⊢
  generalize ctr (rd v ((j : Int) - 1)) = c at q mc cd ⊢
  generalize rd v j = d at q md cd ⊢
  unfold ac at q
  refine ⟨_, rfl, _, rfl, _, rfl, _, rfl, by show 4 ≤ sizeLine; decide, fun l nl => ?_⟩
  refine ⟨l, [[a], [b], [c], [d]], rfl, SqL.of upd_same, by show 4 ≤ 20; decide, fun st ns => ?_⟩
  have s3 := s1.trans ((Same.upd (o := .lst [.str (S [a]), .str (S [b]), .str (S [c]), .str (S [d])]) nl).trans (Same.upd (o := setO st (dd [] (([[a], [b], [c], [d]] : List (List Nat)).map S)).length) ns))
  have few := four_few (a := a) (b := b) (c := c) (d := d)
  refine ⟨st, _, rfl, upd_same, by omega, _, _, rfl, rfl, _, rfl, ite2 (fun z => ?_) (fun z => ?_)⟩
  · have hn : ¬ (a ≠ b ∧ a ≠ c ∧ a ≠ d ∧ b ≠ c ∧ b ≠ d ∧ c ≠ d) := fun g => by
      rw [four_all.mpr g] at z
      exact absurd (of_decide_eq_true z) (by decide)
    have e : c = a ∨ c = b ∨ d = a ∨ d = b := Classical.byContradiction fun g => hn ⟨Ne.symm ab, fun g2 => g (.inl g2.symm), fun g2 => g (.inr (.inr (.inl g2.symm))), fun g2 => g (.inr (.inl g2.symm)), fun g2 => g (.inr (.inr (.inr g2.symm))), Ne.symm cd⟩
    rw [if_pos e] at q
    exact q _ s3
  · have hn : a ≠ b ∧ a ≠ c ∧ a ≠ d ∧ b ≠ c ∧ b ≠ d ∧ c ≠ d := four_all.mp (by
      have : ¬ ((dd ([] : List Str) (([[a], [b], [c], [d]] : List (List Nat)).map S)).length : Int) < 4 := fun g => z (decide_eq_true g)
      omega)
    obtain ⟨h1, h2, h3, h4, h5, h6⟩ := hn
    rw [if_neg (fun g => g.elim (fun g => h2 g.symm) fun g => g.elim (fun g => h4 g.symm) fun g => g.elim (fun g => h3 g.symm) fun g => h5 g.symm)] at q
    generalize upd (upd H1 l (.lst [.str (S [a]), .str (S [b]), .str (S [c]), .str (S [d])])) st (setO st (dd [] (([[a], [b], [c], [d]] : List (List Nat)).map S)).length) = H3 at s3 ⊢
    have hlen : (cut y (some ((y.idxOf a : Nat) : Int)) none).length + (cut y none (some ((y.idxOf a : Nat) : Int))).length ≤ sizeLine := by rw [cut_to, cut_from, List.length_drop, List.length_take]; omega
    have hrot : cut y (some ((y.idxOf a : Nat) : Int)) none ++ cut y none (some ((y.idxOf a : Nat) : Int)) = y.drop (y.idxOf a) ++ y.take (y.idxOf a) := by rw [cut_to, cut_from]
    have hm : ∀ e ∈ y, e ∈ y.drop (y.idxOf a) ++ y.take (y.idxOf a) := fun e he => List.perm_append_comm.mem_iff.mp (by rw [List.take_append_drop]; exact he)
    refine ⟨_, rfl, rfl, _, rfl, y, a, rfl, rfl, ma, ?_⟩
    refine ⟨_, rfl, _, rfl, _, rfl, y, rfl, by omega, _, rfl, _, rfl, _, rfl, y, rfl, by omega, _, _, rfl, rfl, hlen, ?_⟩
    rw [hrot]
    refine ⟨_, rfl, _, rfl, by show 2 ≤ sizeLine; decide, fun t2 nt2 => ?_⟩
    have ht4 : upd H3 t2 (.tup [.str (S [c]), .str (S [d])]) t2 = some (.tup (sgs [c, d])) := upd_same
    have s4 := s3.trans (Same.upd (o := .tup [.str (S [c]), .str (S [d])]) nt2)
    generalize upd H3 t2 (.tup [.str (S [c]), .str (S [d])]) = H4 at ht4 s4 ⊢
    refine ⟨t2, rfl, ⟨_, SqT.of ht4⟩, ?_⟩
    refine comp_tup (K := K) (a := t2) (xs := sgs [c, d]) (fun n acc H' => H' = H4 ∧ acc = sgs (([c, d].take n).filter fun e => gr y a e b)) (by rw [sgs_len]; show 2 < sizeLine; decide) (fun n acc H' h => by rw [h.1]; exact SqT.of ht4) ⟨rfl, rfl⟩ ?_ ?_
    · rintro n x acc H5 Nx hn hx hal ⟨rfl, rfl⟩ nx
      obtain ⟨e, he, rfl⟩ := sgs_get hx
      have hey : e ∈ y := by
        rcases List.mem_cons.mp (List.mem_of_getElem? he) with g | g
        · rw [g]; exact mc
        · rw [List.mem_singleton.mp g]; exact md
      have ef := filter_take (p := fun e => gr y a e b) he
      refine ⟨⟨rfl, rfl, trivial⟩, ?_⟩
      refine ⟨_, rfl, rfl, _, rfl, _, e, rfl, rfl, hm e hey, _, rfl, rfl, _, rfl, _, b, rfl, rfl, hm b mb, _, _, rfl, rfl, _, rfl, ?_⟩
      have eg := gr_index (y := y) hy.nd ma hey mb
      refine ite2 (fun z2 => ?_) (fun z2 => ?_)
      · rw [if_pos (eg.symm.trans z2)] at ef
        exact ⟨_, rfl, nx _ _ (by simpa using hal) ⟨rfl, by rw [ef, ← sgs_snoc]⟩⟩
      · rw [if_neg (fun g => z2 (eg.trans g)), List.append_nil] at ef
        exact nx _ _ (Nat.le_succ_of_le hal) ⟨rfl, by rw [ef]⟩
    · rintro acc H5 D hal ⟨rfl, rfl⟩ hD
      rw [sgs_len, List.take_length]
      refine ⟨D, _, rfl, .inl (SqL.of upd_same), _, _, rfl, rfl, ?_⟩
      have e1 := one_of (gr y a c b) (gr y a d b) c d (fun e => gr y a e b) rfl rfl
      rw [← e1] at q
      have := q _ (s4.trans (Same.upd (o := .lst (sgs ([c, d].filter fun e => gr y a e b))) hD))
      rw [sgs_len]
      exact this
/-- names: 0 _law_w, 1 _law_i, 2 _law_v, 3 _law_j, 4 _law_counter, 5 _law_many, 6 _law_other_here -/
theorem ok_Lshared (T : Txt K mg f0 f1 f2 f3 f4 f5 f6 f7 f8 f9 f10 f11 f12 f13 f14 f15 f16 f17 f18 f19 f20 f21 f22 f23 f24 f25 f26 f27 f28 f29 d0 d1 d2 d3 d4 d5 d6 d7 d8 d9 d10 d11 d12 d13 d14 d15 d16 d17 d18 d19 d20 d21 d22 d23 d24 d25 d26 d27 d28 d29) : FnOk P w K mg base CX0 2 f22 d22 ["_law_w", "_law_i", "_law_v", "_law_j", "_law_counter"] (sp_Lshared K) := by
  have G_Lon := ok_Lon (P := P) (w := w) (base := base) T
  have G_Lother := ok_Lother (P := P) (w := w) (base := base) T
  refine T.F22.fn.ok sc_Lshared (fun vs H Q E h => len_Lshared h) (fun cdv A outer s H vs Q E hr h => ?_)
  refine ⟨_, (pss_cons (ps_for PassesOwn.never rfl (pi_range1 rfl T.z_range (pa_cons (pe_op op_add (pe_callB call_lenS rfl T.z_len PySem.boot_len (pa_cons (pv 0) pa_nil)) (pe_callB call_lenS rfl T.z_len PySem.boot_len (pa_cons (pv 2) pa_nil))) pa_nil)) (pg_name (i := 5) sc_Lshared.nd rfl (Or.inl rfl)) (pss_cons (ps_set (i := 6) sc_Lshared.nd rfl (Or.inl rfl) (pe_call G_Lon (hr.mono (by decide)) rfl T.F20.mg T.F20.fn.kp T.F20.bd .nil pass0 (pa_cons (pv 2) (pa_cons (pe_op op_add (pv 3) (pv 5)) pa_nil))))
      (pss_cons (ps_if (pt_val (pv 4)) (pss_one (ps_set (i := 6) sc_Lshared.nd rfl (Or.inl rfl) (pe_call G_Lother (hr.mono (by decide)) rfl T.F15.mg T.F15.fn.kp T.F15.bd .nil pass0 (pa_cons (pe_call G_Lon (hr.mono (by decide)) rfl T.F20.mg T.F20.fn.kp T.F20.bd .nil pass0 (pa_cons (pv 2) (pa_cons (pe_op op_sub (pv 3) (pv 5)) pa_nil))) pa_nil)))) pss_nil)
      (pss_one (ps_if (pt_cmpR op_neS (pe_call G_Lon (hr.mono (by decide)) rfl T.F20.mg T.F20.fn.kp T.F20.bd .nil pass0 (pa_cons (pv 0) (pa_cons (pe_op op_add (pv 1) (pv 5)) pa_nil))) (pv 6) (nomark _)) (pss_one (ps_ret (pv 5))) pss_nil)))))
      (pss_one (ps_ret (pe_un un_neg pe_int)))), ?_⟩
  obtain ⟨w, i, v, j, b, rfl, hw, hv, lv, wz, vz, q⟩ := h
  have hs : (100000 : Nat) < sizeLine := by decide
  refine ⟨_, rfl, w, rfl, by omega, _, rfl, v, rfl, by omega, _, _, rfl, rfl, _, rfl, by omega, by omega, ?_⟩
  rw [show ((w.length : Int) + (v.length : Int)).toNat = w.length + v.length by omega]
  refine for_range (fun k σ H' => H' = H ∧ ∃ mv ov : Option V, σ = [some (.str (S w)), some (.int i), some (.str (S v)), some (.int j), some (.bl b), mv, ov] ∧ ∀ t : Nat, t < k → sq w i t = wq v j b t) ⟨rfl, none, none, rfl, fun t ht => absurd ht (Nat.not_lt_zero _)⟩ ?_ ?_
  · rintro k σ H1 hk ⟨rfl, mv, ov, rfl, al⟩
    have stop : sq w i k ≠ wq v j b k → shV (sq w i) (wq v j b) (w.length + v.length) = ((0 : Int) + (k : Int)) := fun e => by
      unfold shV
      rw [dif_is al e hk, if_neg (by omega)]
      omega
    have go : sq w i k = wq v j b k → ∀ t : Nat, t < k + 1 → sq w i t = wq v j b t := fun e t ht => by
      by_cases z : t = k
      · rw [z]; exact e
      · exact al t (by omega)
    refine ⟨_, rfl, _, rfl, _, rfl, _, _, rfl, rfl, v, _, rfl, hv, by omega, ?_⟩
    cases b with
    | false =>
      refine ⟨_, rfl, _, rfl, ?_⟩
      refine iteF ?_
      refine ⟨_, rfl, _, rfl, _, rfl, _, _, rfl, rfl, w, _, rfl, hw, by omega, _, rfl, _, _, rfl, rfl, _, rfl, ite2 (fun z => ?_) (fun z => ?_)⟩
      · have e : sq w i k ≠ wq v j false k := fun g => by
          have g' : rd w (i + (0 + (k : Int))) = rd v (j + (0 + (k : Int))) := by rw [Int.zero_add]; exact g
          rw [g'] at z; simp at z
        rw [stop e] at q
        exact ⟨_, rfl, q⟩
      · have e : sq w i k = wq v j false k := by
          have g' : rd w (i + (0 + (k : Int))) = rd v (j + (0 + (k : Int))) := by simpa using z
          rw [Int.zero_add] at g'; exact g'
        exact ⟨rfl, _, _, rfl, go e⟩
    | true =>
      refine ⟨_, rfl, _, rfl, ?_⟩
      refine iteT ?_
      refine ⟨_, rfl, _, rfl, _, rfl, _, _, rfl, rfl, v, _, rfl, hv, by omega, _, rfl, lv _ (rd_mem hv _), ?_⟩
      refine ⟨_, rfl, _, rfl, _, rfl, _, _, rfl, rfl, w, _, rfl, hw, by omega, _, rfl, _, _, rfl, rfl, _, rfl, ite2 (fun z => ?_) (fun z => ?_)⟩
      · have e : sq w i k ≠ wq v j true k := fun g => by
          have g' : rd w (i + (0 + (k : Int))) = ctr (rd v (j - (0 + (k : Int)))) := by rw [Int.zero_add]; exact g
          rw [g'] at z; simp at z
        rw [stop e] at q
        exact ⟨_, rfl, q⟩
      · have e : sq w i k = wq v j true k := by
          have g' : rd w (i + (0 + (k : Int))) = ctr (rd v (j - (0 + (k : Int)))) := by simpa using z
          rw [Int.zero_add] at g'; exact g'
        exact ⟨rfl, _, _, rfl, go e⟩
  · rintro σ H1 ⟨rfl, mv, ov, rfl, al⟩
    have e : shV (sq w i) (wq v j b) (w.length + v.length) = -1 := by unfold shV; rw [dif_none al, if_pos rfl]
    rw [e] at q
    exact ⟨_, rfl, q⟩
/-- names: 0 _law_yard_here, 1 _law_x, 2 _law_y, 3 _law_z, 4 _law_at, 5 _law_rest -/
theorem ok_Lround (T : Txt K mg f0 f1 f2 f3 f4 f5 f6 f7 f8 f9 f10 f11 f12 f13 f14 f15 f16 f17 f18 f19 f20 f21 f22 f23 f24 f25 f26 f27 f28 f29 d0 d1 d2 d3 d4 d5 d6 d7 d8 d9 d10 d11 d12 d13 d14 d15 d16 d17 d18 d19 d20 d21 d22 d23 d24 d25 d26 d27 d28 d29) : FnOk P w K mg base CX0 1 f19 d19 ["_law_yard_here", "_law_x", "_law_y", "_law_z"] (sp_Lround K) := by
  refine T.F19.fn.ok sc_Lround (fun vs H Q E h => len_Lround h) (fun cdv A outer s H vs Q E hr h => ?_)
  refine ⟨_, (pss_cons (ps_set (i := 4) sc_Lround.nd rfl (Or.inl rfl) (pe_bmK K rfl PySem.F.plainAttrs_str PySem.F.slot_str_index PySem.F.type_str_index mt_indexS (pv 0) (pa_cons (pv 1) pa_nil)))
      (pss_cons (ps_set (i := 5) sc_Lround.nd rfl (Or.inl rfl) (pe_op op_addS (pe_slice sl_S (pv 0) (po_some (pv 4)) po_none) (pe_slice sl_S (pv 0) po_none (po_some (pv 4)))))
      (pss_one (ps_ret (pe_cmpR op_lt (pe_bmK K rfl PySem.F.plainAttrs_str PySem.F.slot_str_index PySem.F.type_str_index mt_indexS (pv 5) (pa_cons (pv 2) pa_nil)) (pe_bmK K rfl PySem.F.plainAttrs_str PySem.F.slot_str_index PySem.F.type_str_index mt_indexS (pv 5) (pa_cons (pv 3) pa_nil)) (nomark _)))))), ?_⟩
  obtain ⟨y, a, b, c, rfl, hn, ha, hb, hc, hz, q⟩ := h
  have hs : (100000 : Nat) < sizeLine := by decide
  have hlen : (cut y (some ((y.idxOf a : Nat) : Int)) none).length + (cut y none (some ((y.idxOf a : Nat) : Int))).length ≤ sizeLine := by rw [cut_to, cut_from, List.length_drop, List.length_take]; omega
  have hrot : cut y (some ((y.idxOf a : Nat) : Int)) none ++ cut y none (some ((y.idxOf a : Nat) : Int)) = y.drop (y.idxOf a) ++ y.take (y.idxOf a) := by rw [cut_to, cut_from]
  have hm : ∀ e ∈ y, e ∈ y.drop (y.idxOf a) ++ y.take (y.idxOf a) := fun e he => List.perm_append_comm.mem_iff.mp (by rw [List.take_append_drop]; exact he)
  refine ⟨_, rfl, rfl, _, rfl, y, a, rfl, rfl, ha, ?_⟩
  refine ⟨_, rfl, _, rfl, _, rfl, y, rfl, by omega, _, rfl, _, rfl, _, rfl, y, rfl, by omega, _, _, rfl, rfl, hlen, ?_⟩
  rw [hrot]
  refine ⟨_, rfl, rfl, _, rfl, _, b, rfl, rfl, hm b hb, _, rfl, rfl, _, rfl, _, c, rfl, rfl, hm c hc, _, _, rfl, rfl, ?_⟩
  rw [← gr_index hn ha hb hc] at q
  exact q
/-- names: 0 _law_yard_here, 1 _law_w, 2 _law_i, 3 _law_v, 4 _law_j, 5 _law_counter, 6 _law_many, 7 _law_p, 8 _law_q, 9 _law_behind, 10 _law_last, 11 _law_one -/
theorem ok_Lbegins (T : Txt K mg f0 f1 f2 f3 f4 f5 f6 f7 f8 f9 f10 f11 f12 f13 f14 f15 f16 f17 f18 f19 f20 f21 f22 f23 f24 f25 f26 f27 f28 f29 d0 d1 d2 d3 d4 d5 d6 d7 d8 d9 d10 d11 d12 d13 d14 d15 d16 d17 d18 d19 d20 d21 d22 d23 d24 d25 d26 d27 d28 d29) : FnOk P w K mg base CX0 3 f23 d23 ["_law_yard_here", "_law_w", "_law_i", "_law_v", "_law_j", "_law_counter"] (sp_Lbegins K) := by
  have G_Lshared := ok_Lshared (P := P) (w := w) (base := base) T
  have G_Lother := ok_Lother (P := P) (w := w) (base := base) T
  have G_Lon := ok_Lon (P := P) (w := w) (base := base) T
  have G_Lround := ok_Lround (P := P) (w := w) (base := base) T
  refine T.F23.fn.ok sc_Lbegins (fun vs H Q E h => len_Lbegins h) (fun cdv A outer s H vs Q E hr h => ?_)
  refine ⟨_, (pss_cons (ps_set (i := 6) sc_Lbegins.nd rfl (Or.inl rfl) (pe_call G_Lshared (hr.mono (by decide)) rfl T.F22.mg T.F22.fn.kp T.F22.bd .nil pass0 (pa_cons (pv 1) (pa_cons (pv 2) (pa_cons (pv 3) (pa_cons (pv 4) (pa_cons (pv 5) pa_nil)))))))
      (pss_cons (ps_par (i := 7) (j := 8) rfl sc_Lbegins.nd rfl rfl (by decide) rfl rfl (pa_cons (pe_call G_Lother (hr.mono (by decide)) rfl T.F15.mg T.F15.fn.kp T.F15.bd .nil pass0 (pa_cons (pe_call G_Lon (hr.mono (by decide)) rfl T.F20.mg T.F20.fn.kp T.F20.bd .nil pass0 (pa_cons (pv 1) (pa_cons (pe_op op_sub (pv 2) pe_int) pa_nil))) pa_nil)) (pa_cons (pe_call G_Lother (hr.mono (by decide)) rfl T.F15.mg T.F15.fn.kp T.F15.bd .nil pass0 (pa_cons (pe_call G_Lon (hr.mono (by decide)) rfl T.F20.mg T.F20.fn.kp T.F20.bd .nil pass0 (pa_cons (pv 3) (pa_cons (pe_op op_sub (pv 4) pe_int) pa_nil))) pa_nil)) pa_nil)) rfl)
      (pss_cons (ps_if (pt_val (pv 5)) (pss_one (ps_set (i := 8) sc_Lbegins.nd rfl (Or.inl rfl) (pe_call G_Lon (hr.mono (by decide)) rfl T.F20.mg T.F20.fn.kp T.F20.bd .nil pass0 (pa_cons (pv 3) (pa_cons (pe_op op_add (pv 4) pe_int) pa_nil))))) pss_nil)
      (pss_cons (ps_if (PW.pt (pw_or (pt_cmpR op_lt (pv 6) pe_int (nomark _)) (pw_or1 (pt_cmpR op_eqS (pv 7) (pv 8) (nomark _))))) (pss_one (ps_ret pe_int)) pss_nil)
      (pss_cons (ps_set (i := 9) sc_Lbegins.nd rfl (Or.inl rfl) (pe_call G_Lon (hr.mono (by decide)) rfl T.F20.mg T.F20.fn.kp T.F20.bd .nil pass0 (pa_cons (pv 3) (pa_cons (pe_op op_add (pv 4) (pv 6)) pa_nil))))
      (pss_cons (ps_if (pt_val (pv 5)) (pss_one (ps_set (i := 9) sc_Lbegins.nd rfl (Or.inl rfl) (pe_call G_Lother (hr.mono (by decide)) rfl T.F15.mg T.F15.fn.kp T.F15.bd .nil pass0 (pa_cons (pe_call G_Lon (hr.mono (by decide)) rfl T.F20.mg T.F20.fn.kp T.F20.bd .nil pass0 (pa_cons (pv 3) (pa_cons (pe_op op_sub (pv 4) (pv 6)) pa_nil))) pa_nil)))) pss_nil)
      (pss_cons (ps_set (i := 10) sc_Lbegins.nd rfl (Or.inl rfl) (pe_call G_Lother (hr.mono (by decide)) rfl T.F15.mg T.F15.fn.kp T.F15.bd .nil pass0 (pa_cons (pe_call G_Lon (hr.mono (by decide)) rfl T.F20.mg T.F20.fn.kp T.F20.bd .nil pass0 (pa_cons (pv 1) (pa_cons (pe_op op_sub (pe_op op_add (pv 2) (pv 6)) pe_int) pa_nil))) pa_nil)))
      (pss_cons (ps_set (i := 11) sc_Lbegins.nd rfl (Or.inl rfl) (pe_call G_Lround (hr.mono (by decide)) rfl T.F19.mg T.F19.fn.kp T.F19.bd .nil pass0 (pa_cons (pv 0) (pa_cons (pv 7) (pa_cons (pv 8) (pa_cons (pe_call G_Lon (hr.mono (by decide)) rfl T.F20.mg T.F20.fn.kp T.F20.bd .nil pass0 (pa_cons (pv 1) (pa_cons (pv 2) pa_nil))) pa_nil))))))
      (pss_one (ps_ret (pe_op op_mul (pv 6) (pe_callTy call_int1 rfl T.z_int boot_int (pa_cons (pe_cmpR op_eqB (pv 11) (pe_call G_Lround (hr.mono (by decide)) rfl T.F19.mg T.F19.fn.kp T.F19.bd .nil pass0 (pa_cons (pv 0) (pa_cons (pe_call G_Lon (hr.mono (by decide)) rfl T.F20.mg T.F20.fn.kp T.F20.bd .nil pass0 (pa_cons (pv 1) (pa_cons (pe_op op_add (pv 2) (pv 6)) pa_nil))) (pa_cons (pv 9) (pa_cons (pv 10) pa_nil))))) (nomark _)) pa_nil))))))))))))), ?_⟩
  obtain ⟨y, w, i, v, j, b, rfl, hy, hz, hw, hv, wz, vz, q⟩ := h
  have hs : (100000 : Nat) < sizeLine := by decide
  have lw : ∀ k, Lt (rd w k) := fun k => hy.lt _ (hw.rd k)
  have lv : ∀ k, Lt (rd v k) := fun k => hy.lt _ (hv.rd k)
  have gy : ∀ k, wq v j b k ∈ y := fun k => by
    unfold wq
    cases b
    · rw [if_neg (by decide)]; exact hv.rd _
    · rw [if_pos rfl]; exact hy.cl _ (hv.rd _)
  have hper := unlike_of (f := sq w i) (g := wq v j b) hw.ne hv.ne (sq_per w i) (wq_per v j b)
  refine ⟨_, rfl, _, rfl, _, rfl, _, rfl, _, rfl, w, i, v, j, b, rfl, hw.ne, hv.ne, fun c hc => hy.lt c (hv.iny c hc), wz, vz, ?_⟩
  refine ⟨_, rfl, _, rfl, _, _, rfl, rfl, w, _, rfl, hw.ne, by omega, _, rfl, lw _, ?_⟩
  refine ⟨_, rfl, _, rfl, _, _, rfl, rfl, v, _, rfl, hv.ne, by omega, _, rfl, lv _, _, _, rfl, ?_⟩
  have q1 := q _ (Same.refl H)
  clear q
  refine ⟨_, rfl, ?_⟩
  cases b with
  | false =>
    refine ⟨_, rfl, ?_⟩
    refine iteF ?_
    have hgm : ctr (wq v j false (-1)) = ctr (rd v ((j : Int) - 1)) := rfl
    refine ⟨_, rfl, _, _, rfl, rfl, _, rfl, ite2 (fun z => ?_) (fun z => ?_)⟩
    · have hsh : ¬ 0 < shV (sq w i) (wq v j false) (w.length + v.length) := by have := of_decide_eq_true z; omega
      refine iteT ?_
      rw [al_zero hsh hper] at q1
      exact q1
    · have hsh : 0 < shV (sq w i) (wq v j false) (w.length + v.length) := by
        by_cases g : 0 < shV (sq w i) (wq v j false) (w.length + v.length)
        · exact g
        · exact absurd (decide_eq_true (by omega)) z
      obtain ⟨e1, e2, e3⟩ := al_same (y := y) hsh
      refine ⟨_, rfl, _, rfl, _, _, rfl, rfl, _, rfl, ite2 (fun z2 => ?_) (fun z2 => ?_)⟩
      · have e4 : ctr (rd w ((i : Int) - 1)) = ctr (rd v ((j : Int) - 1)) := by simpa using z2
        rw [← hgm] at e4
        have e5 := ctr_inj (lw ((i : Int) - 1)) (hy.lt _ (gy _)) e4
        rw [al_back (f := sq w i) e5] at q1
        exact q1
      · have e4 : sq w i (-1) ≠ wq v j false (-1) := fun g => z2 (by
          have g2 : ctr (rd w ((i : Int) - 1)) = ctr (rd v ((j : Int) - 1)) := by rw [← hgm, ← g]; rfl
          simp [g2])
        rw [al_some e3 e4] at q1
        have dl : dif (sq w i) (wq v j false) (w.length + v.length) 0 ≤ w.length + v.length := by have := (dif_spec (sq w i) (wq v j false) (w.length + v.length) 0).2.1; omega
        rw [e1]
        generalize dif (sq w i) (wq v j false) (w.length + v.length) 0 = m at q1 dl e2 ⊢
        refine ⟨_, rfl, _, rfl, _, rfl, _, _, rfl, rfl, v, _, rfl, hv.ne, by omega, ?_⟩
        refine ⟨_, rfl, _, rfl, ?_⟩
        refine iteF ?_
        refine ⟨_, rfl, _, rfl, _, rfl, _, _, rfl, rfl, _, _, rfl, rfl, w, _, rfl, hw.ne, by omega, _, rfl, lw _, ?_⟩
        refine ⟨_, rfl, _, rfl, _, rfl, _, rfl, _, rfl, w, _, rfl, hw.ne, by omega, y, _, _, _, rfl, hy.nd, hy.cl _ (hw.rd _), by rw [← hgm]; exact hy.cl _ (gy _), hw.rd _, by omega, ?_⟩
        refine ⟨_, rfl, _, rfl, _, rfl, _, rfl, _, rfl, _, rfl, _, _, rfl, rfl, w, _, rfl, hw.ne, by omega, _, rfl, _, rfl, y, _, _, _, rfl, hy.nd, hw.rd _, gy m, hy.cl _ (hw.rd _), by omega, ?_⟩
        have f0 : sq w i 0 = rd w i := by unfold sq; rw [Int.add_zero]
        have f1 : sq w i ((m : Int) - 1) = rd w ((i : Int) + m - 1) := by unfold sq; congr 1; omega
        rw [f0, f1, hgm] at q1
        refine ⟨_, _, rfl, rfl, ?_⟩
        refine .inr ⟨_, rfl, _, _, rfl, rfl, .inl ⟨by omega, by omega⟩, ?_⟩
        have e6 : ∀ (a b : Bool), ((m : Int) * (if decide (a = b) then 1 else 0)) = (((if a = b then m else 0 : Nat)) : Int) := fun a b => by
          by_cases g : a = b
          · rw [if_pos (decide_eq_true g), if_pos g]; omega
          · rw [if_neg (fun z => g (of_decide_eq_true z)), if_neg g]; omega
        rw [← e6] at q1
        exact q1
  | true =>
    refine ⟨_, rfl, ?_⟩
    refine iteT ?_
    refine ⟨_, rfl, _, rfl, _, _, rfl, rfl, v, _, rfl, hv.ne, by omega, ?_⟩
    have hgm : ctr (wq v j true (-1)) = rd v ((j : Int) + 1) := by show ctr (ctr (rd v ((j : Int) - -1))) = _; rw [ctr_ctr (lv _)]; congr 1
    refine ⟨_, rfl, _, _, rfl, rfl, _, rfl, ite2 (fun z => ?_) (fun z => ?_)⟩
    · have hsh : ¬ 0 < shV (sq w i) (wq v j true) (w.length + v.length) := by have := of_decide_eq_true z; omega
      refine iteT ?_
      rw [al_zero hsh hper] at q1
      exact q1
    · have hsh : 0 < shV (sq w i) (wq v j true) (w.length + v.length) := by
        by_cases g : 0 < shV (sq w i) (wq v j true) (w.length + v.length)
        · exact g
        · exact absurd (decide_eq_true (by omega)) z
      obtain ⟨e1, e2, e3⟩ := al_same (y := y) hsh
      refine ⟨_, rfl, _, rfl, _, _, rfl, rfl, _, rfl, ite2 (fun z2 => ?_) (fun z2 => ?_)⟩
      · have e4 : ctr (rd w ((i : Int) - 1)) = rd v ((j : Int) + 1) := by simpa using z2
        rw [← hgm] at e4
        have e5 := ctr_inj (lw ((i : Int) - 1)) (hy.lt _ (gy _)) e4
        rw [al_back (f := sq w i) e5] at q1
        exact q1
      · have e4 : sq w i (-1) ≠ wq v j true (-1) := fun g => z2 (by
          have g2 : ctr (rd w ((i : Int) - 1)) = rd v ((j : Int) + 1) := by rw [← hgm, ← g]; rfl
          simp [g2])
        rw [al_some e3 e4] at q1
        have dl : dif (sq w i) (wq v j true) (w.length + v.length) 0 ≤ w.length + v.length := by have := (dif_spec (sq w i) (wq v j true) (w.length + v.length) 0).2.1; omega
        rw [e1]
        generalize dif (sq w i) (wq v j true) (w.length + v.length) 0 = m at q1 dl e2 ⊢
        refine ⟨_, rfl, _, rfl, _, rfl, _, _, rfl, rfl, v, _, rfl, hv.ne, by omega, ?_⟩
        refine ⟨_, rfl, _, rfl, ?_⟩
        refine iteT ?_
        refine ⟨_, rfl, _, rfl, _, rfl, _, _, rfl, rfl, v, _, rfl, hv.ne, by omega, _, rfl, lv _, ?_⟩
        refine ⟨_, rfl, _, rfl, _, rfl, _, _, rfl, rfl, _, _, rfl, rfl, w, _, rfl, hw.ne, by omega, _, rfl, lw _, ?_⟩
        refine ⟨_, rfl, _, rfl, _, rfl, _, rfl, _, rfl, w, _, rfl, hw.ne, by omega, y, _, _, _, rfl, hy.nd, hy.cl _ (hw.rd _), by rw [← hgm]; exact hy.cl _ (gy _), hw.rd _, by omega, ?_⟩
        refine ⟨_, rfl, _, rfl, _, rfl, _, rfl, _, rfl, _, rfl, _, _, rfl, rfl, w, _, rfl, hw.ne, by omega, _, rfl, _, rfl, y, _, _, _, rfl, hy.nd, hw.rd _, gy m, hy.cl _ (hw.rd _), by omega, ?_⟩
        have f0 : sq w i 0 = rd w i := by unfold sq; rw [Int.add_zero]
        have f1 : sq w i ((m : Int) - 1) = rd w ((i : Int) + m - 1) := by unfold sq; congr 1; omega
        rw [f0, f1, hgm] at q1
        refine ⟨_, _, rfl, rfl, ?_⟩
        refine .inr ⟨_, rfl, _, _, rfl, rfl, .inl ⟨by omega, by omega⟩, ?_⟩
        have e6 : ∀ (a b : Bool), ((m : Int) * (if decide (a = b) then 1 else 0)) = (((if a = b then m else 0 : Nat)) : Int) := fun a b => by
          by_cases g : a = b
          · rw [if_pos (decide_eq_true g), if_pos g]; omega
          · rw [if_neg (fun z => g (of_decide_eq_true z)), if_neg g]; omega
        rw [← e6] at q1
        exact q1
/-- names: 0 _law_yard_here, 1 _law_words_here, 2 _law_found, 3 _law_places, 4 _law_c, 5 _law_word, 6 _law_i, 7 _law_d, 8 _law_j, 9 _law_w, 10 _law_v, 11 _law_many, 12 _law_there -/
theorem ok_Lforced (T : Txt K mg f0 f1 f2 f3 f4 f5 f6 f7 f8 f9 f10 f11 f12 f13 f14 f15 f16 f17 f18 f19 f20 f21 f22 f23 f24 f25 f26 f27 f28 f29 d0 d1 d2 d3 d4 d5 d6 d7 d8 d9 d10 d11 d12 d13 d14 d15 d16 d17 d18 d19 d20 d21 d22 d23 d24 d25 d26 d27 d28 d29) : FnOk P w K mg base CX0 4 f24 d24 ["_law_yard_here", "_law_words_here"] (sp_Lforced K) := by
  have G_Lacross := ok_Lacross (P := P) (w := w) (base := base) T
  have G_Lbegins := ok_Lbegins (P := P) (w := w) (base := base) T
  refine T.F24.fn.ok sc_Lforced (fun vs H Q E h => len_Lforced h) (fun cdv A outer s H vs Q E hr h => ?_)
  refine ⟨_, (pss_cons (ps_set (i := 2) sc_Lforced.nd rfl (Or.inl rfl) (pe_lst pa_nil))
      (pss_cons (ps_set (i := 3) sc_Lforced.nd rfl (Or.inl rfl) (pe_lst pa_nil))
      (pss_cons (ps_for PassesOwn.never rfl (pi_enumT K rfl rfl T.z_enumerate (pa_cons (pv 1) pa_nil)) (pg_tupK (n := 2) K rfl rfl (pgs_cons (pg_name (i := 4) sc_Lforced.nd rfl (Or.inr rfl)) (pgs_cons (pg_name (i := 5) sc_Lforced.nd rfl (Or.inl rfl)) pgs_nil))) (pss_one (ps_expr (pe_bmK K rfl PySem.F.plainAttrs_list PySem.F.slot_list_extend PySem.F.type_list_extend mt_extend (pv 3) (pa_cons (pe_compB ["_law_i", "_law_c"] [none, some 4] (pi_range1 rfl T.z_range (pa_cons (pe_callB call_lenS rfl T.z_len PySem.boot_len (pa_cons (pv 5) pa_nil)) pa_nil)) ⟨⟨rfl, rfl, by first | exact .inl rfl | exact .inr rfl⟩, trivial⟩ (fun _ _ _ _ => (pg_name (i := 0) (by decide +kernel : List.Nodup (["_law_i", "_law_c"] : List Str)) rfl (Or.inl rfl))) (fun _ _ _ _ => pf_nil) (fun _ _ _ _ => (pe_tup (pa_cons (pv 1) (pa_cons (pv 0) pa_nil))))) pa_nil)))))
      (pss_cons (ps_for PassesOwn.never rfl (pi_listK K rfl (pv 3)) (pg_tupK (n := 2) K rfl rfl (pgs_cons (pg_name (i := 4) sc_Lforced.nd rfl (Or.inr rfl)) (pgs_cons (pg_name (i := 6) sc_Lforced.nd rfl (Or.inl rfl)) pgs_nil))) (pss_one (ps_for PassesOwn.never rfl (pi_listK K rfl (pv 3)) (pg_tupK (n := 2) K rfl rfl (pgs_cons (pg_name (i := 7) sc_Lforced.nd rfl (Or.inl rfl)) (pgs_cons (pg_name (i := 8) sc_Lforced.nd rfl (Or.inl rfl)) pgs_nil))) (pss_cons (ps_par (i := 9) (j := 10) rfl sc_Lforced.nd rfl rfl (by decide) rfl rfl (pa_cons (pe_ix (ix_tupK K rfl) (pv 1) (pv 4) (fun _ _ => rfl)) (pa_cons (pe_ix (ix_tupK K rfl) (pv 1) (pv 7) (fun _ _ => rfl)) pa_nil)) rfl)
      (pss_via (ps_if (PW.pt (pw_and (pt_cmpR (op_ltP K rfl hr) (pe_tup (pa_cons (pv 4) (pa_cons (pv 6) pa_nil))) (pe_tup (pa_cons (pv 7) (pa_cons (pv 8) pa_nil))) (nomark _)) (pw_and1 (pt_val (pe_call G_Lacross (hr.mono (by decide)) rfl T.F21.mg T.F21.fn.kp T.F21.bd .nil pass0 (pa_cons (pv 0) (pa_cons (pv 9) (pa_cons (pv 6) (pa_cons (pv 10) (pa_cons (pv 8) pa_nil)))))))))) (pss_one (ps_expr (pe_bmK K rfl PySem.F.plainAttrs_list PySem.F.slot_list_append PySem.F.type_list_append mt_append (pv 2) (pa_cons (pe_tup (pa_cons (pv 4) (pa_cons (pv 6) (pa_cons (pv 7) (pa_cons (pv 8) (pa_cons pe_int (pa_cons (pe_S [97, 99, 114, 111, 115, 115] (by decide +kernel)) pa_nil))))))) pa_nil)))) pss_nil)
      (pss_cons (ps_set (i := 11) sc_Lforced.nd rfl (Or.inl rfl) (pe_call G_Lbegins (hr.mono (by decide)) rfl T.F23.mg T.F23.fn.kp T.F23.bd .nil pass0 (pa_cons (pv 0) (pa_cons (pv 9) (pa_cons (pv 6) (pa_cons (pv 10) (pa_cons (pv 8) (pa_cons pe_bl pa_nil))))))))
      (pss_via (ps_if (PW.pt (pw_and (pt_cmpR (op_ltP K rfl hr) (pe_tup (pa_cons (pv 4) (pa_cons (pv 6) pa_nil))) (pe_tup (pa_cons (pv 7) (pa_cons (pv 8) pa_nil))) (nomark _)) (pw_and1 (pt_cmpR op_gt (pv 11) pe_int (nomark _))))) (pss_one (ps_expr (pe_bmK K rfl PySem.F.plainAttrs_list PySem.F.slot_list_append PySem.F.type_list_append mt_append (pv 2) (pa_cons (pe_tup (pa_cons (pv 4) (pa_cons (pv 6) (pa_cons (pv 7) (pa_cons (pv 8) (pa_cons (pv 11) (pa_cons (pe_S [97, 108, 111, 110, 103] (by decide +kernel)) pa_nil))))))) pa_nil)))) pss_nil)
      (pss_cons (ps_set (i := 11) sc_Lforced.nd rfl (Or.inl rfl) (pe_call G_Lbegins (hr.mono (by decide)) rfl T.F23.mg T.F23.fn.kp T.F23.bd .nil pass0 (pa_cons (pv 0) (pa_cons (pv 9) (pa_cons (pv 6) (pa_cons (pv 10) (pa_cons (pv 8) (pa_cons pe_bl pa_nil))))))))
      (pss_cons (ps_set (i := 12) sc_Lforced.nd rfl (Or.inl rfl) (pe_tup (pa_cons (pe_op op_mod (pe_op op_add (pe_op op_sub (pv 8) (pv 11)) pe_int) (pe_callB call_lenS rfl T.z_len PySem.boot_len (pa_cons (pv 10) pa_nil))) (pa_cons (pe_op op_mod (pe_op op_sub (pe_op op_add (pv 6) (pv 11)) pe_int) (pe_callB call_lenS rfl T.z_len PySem.boot_len (pa_cons (pv 9) pa_nil))) pa_nil))))
      (pss_one (ps_if (PW.pt (pw_and (pt_cmpR op_gt (pv 11) pe_int (nomark _)) (pw_and1 (PW.pt (pw_or (pt_cmpR op_lt (pv 4) (pv 7) (nomark _)) (pw_or1 (PW.pt (pw_and (pt_cmpR op_eqI (pv 4) (pv 7) (nomark _)) (pw_and1 (pt_cmpR (op_ltP K rfl hr) (pe_tup (pa_cons (pv 6) (pa_cons (pv 8) pa_nil))) (pv 12) (nomark _))))))))))) (pss_one (ps_expr (pe_bmK K rfl PySem.F.plainAttrs_list PySem.F.slot_list_append PySem.F.type_list_append mt_append (pv 2) (pa_cons (pe_tup (pa_cons (pv 4) (pa_cons (pv 6) (pa_cons (pv 7) (pa_cons (pv 8) (pa_cons (pv 11) (pa_cons (pe_S [97, 103, 97, 105, 110, 115, 116] (by decide +kernel)) pa_nil))))))) pa_nil)))) pss_nil)))))))))))
      (pss_one (ps_ret (pe_callB (call_sortedX K rfl) rfl T.z_sorted boot_sorted (pa_cons (pv 2) pa_nil)))))))), ?_⟩
  obtain ⟨y, wt, ws, rfl, hy, hz, ok, hw, q⟩ := h
  have hs : (100000 : Nat) < sizeLine := by decide
  have hsw : ∀ w ∈ ws, SW y w := fun w h => (ok.sw w h).1
  have hfew := ok.few
  have hall := ok.all
  have hpc : ∀ n, n ≤ ws.length → (plc ws n).length ≤ n * 12 := plc_few fun w h => (ok.sw w h).2
  walk_at "wk"
  intro t nt
  walk_at "wk"
  intro u nu
  have tu : t ≠ u := fun z => by rw [← z, upd_same] at nu; cases nu
  have nu0 : H u = none := Same.free (Same.upd nt) nu
  have s0 := (Same.upd (o := .lst []) nt).trans (Same.upd (o := .lst []) nu)
  have ht0 : upd (upd H t (.lst [])) u (.lst []) t = some (.lst (fav [])) := by rw [upd_ne tu, upd_same]; rfl
  have hu0 : upd (upd H t (.lst [])) u (.lst []) u = some (.lst (sdv [])) := upd_same
  have hw0 := s0 _ _ hw
  generalize upd (upd H t (.lst [])) u (.lst []) = H0 at s0 ht0 hu0 hw0 ⊢
  have wu : wt ≠ u := fun z => by rw [z, hu0] at hw0; cases hw0
  refine ⟨_, rfl, wt, rfl, ⟨_, SqT.of hw0⟩, ?_⟩
  refine for_enumT (K := K) (a := wt) (xs := txs ws) (fun n σ H' => ∃ (ps : List Sd) (cv wv : Option V), σ = [some (.str (S y)), some (.ref wt), some (.ref t), some (.ref u), cv, wv, none, none, none, none, none, none, none] ∧ H' u = some (.lst (sdv ps)) ∧ SdAll H' ps ∧ ps.map Sd.pair = plc ws n ∧ SameB u H0 H')
    ⟨[], none, none, rfl, hu0, fun _ h => absurd h List.not_mem_nil, rfl, SameB.refl _ _⟩ (fun n σ H' _ ⟨_, _, _, _, _, _, _, s⟩ => SqT.of (s _ _ hw0 wu)) ?_ ?_
  · rintro n x σ H1 T hx ⟨ps, cv, wv, rfl, hu1, hps, hpe, s1⟩ nT
    have hn : n < ws.length := by
      have := (List.getElem?_eq_some_iff.mp hx).1
      rwa [txs_len] at this
    rw [getD_at hn] at hx
    cases hx
    have hwz := (ok.sw _ (getD_in hn)).2
    have sT := Same.upd (o := .tup [.int n, .str (S (ws.getD n []))]) nT
    refine ⟨T, _, rfl, SqT.of upd_same, rfl, _, _, rfl, _, _, rfl, rfl, ?_⟩
    generalize upd H1 T (.tup [.int n, .str (S (ws.getD n []))]) = H2 at sT ⊢
    have hu2 := sT _ _ hu1
    refine ⟨_, rfl, .inl ⟨rfl, _, SqL.of hu2⟩, _, rfl, ws.getD n [], rfl, by omega, _, rfl, by omega, by omega, ?_⟩
    rw [Int.toNat_natCast]
    refine comp_rng (fun k acc H' => Same H2 H' ∧ ∃ us : List Sd, acc = sdv us ∧ SdAll H' us ∧ us.map Sd.pair = (List.range k).map fun i => (n, i)) (by omega) ⟨Same.refl _, [], rfl, fun _ h => absurd h List.not_mem_nil, rfl⟩ ?_ ?_
    · rintro k acc H3 Nx hk hal ⟨s3, us, rfl, hus, hue⟩ nx
      refine ⟨⟨rfl, trivial⟩, yes_ite ?_⟩
      refine ⟨_, rfl, _, rfl, by show 2 ≤ sizeLine; decide, fun r nr => ?_⟩
      rw [Int.zero_add]
      refine nx _ _ (by simpa using hal) ⟨s3.trans (Same.upd nr), us ++ [⟨r, n, k⟩], sdv_snoc us ⟨r, n, k⟩, fun p hp => ?_, by rw [List.map_append, hue, List.range_succ, List.map_append]; rfl⟩
      rcases List.mem_append.mp hp with g | g
      · exact (Same.upd nr) _ _ (hus p g)
      · rw [List.mem_singleton.mp g]; exact upd_same
    · rintro acc H3 D hal ⟨s3, us, rfl, hus, hue⟩ hD
      have sD := s3.trans (Same.upd (o := .lst (sdv us)) hD)
      have hul : us.length = (ws.getD n []).length := by
        have := congrArg List.length hue
        rwa [List.length_map, List.length_map, List.length_range] at this
      have hpsl : ps.length = (plc ws n).length := by rw [← hpe, List.length_map]
      have := hpc n (by omega)
      refine ⟨u, D, sdv ps, sdv us, rfl, rfl, sD _ _ hu2, upd_same, by rw [sdv_len, sdv_len]; omega, ?_⟩
      have tsu : TSame (upd H3 D (.lst (sdv us))) (upd (upd H3 D (.lst (sdv us))) u (.lst (sdv ps ++ sdv us))) := TSame.updL (sD _ _ hu2)
      refine ⟨ps ++ us, _, _, rfl, by rw [upd_same, sdv_app], fun p hp => ?_, ?_, fun a o e z => by rw [upd_ne z]; exact sD _ _ (sT _ _ (s1 a o e z))⟩
      · rcases List.mem_append.mp hp with g | g
        · exact tsu _ _ (sD _ _ (sT _ _ (hps p g)))
        · exact tsu _ _ ((Same.upd hD) _ _ (hus p g))
      · rw [List.map_append, hpe, hue]
        rfl
  rintro σ H3 ⟨ps, cv, wv, rfl, hu3, hps, hpe, s3⟩
  rw [txs_len] at hpe
  have hpe : ps.map Sd.pair = places ws := hpe
  have ht3 := s3 _ _ ht0 tu
  have hw3 := s3 _ _ hw0 wu
  have hpl : ps.length = (places ws).length := by rw [← hpe, List.length_map]
  have s03 : Same H H3 := fun a o e => s3 _ _ (s0 a o e) (ne_of_none e nu0)
  clear s3 hu0 ht0 hw0 s0
  refine ⟨_, rfl, u, rfl, ⟨_, SqL.of hu3⟩, ?_⟩
  refine for_list (K := K) (a := u) (xs := sdv ps) (fun n σ H' => ∃ (L : List Fa) (v4 v5 v6 v7 v8 v9 va vb vc : Option V), σ = [some (.str (S y)), some (.ref wt), some (.ref t), some (.ref u), v4, v5, v6, v7, v8, v9, va, vb, vc] ∧ H' t = some (.lst (fav L)) ∧ FaAll H' L ∧ L.map Fa.x = ((places ws).take n).flatMap (fun o => (places ws).flatMap fun p => fat y ws o p) ∧ L.length ≤ 72 * n ∧ SameB t H3 H')
    ⟨[], _, _, _, _, _, _, _, _, _, rfl, ht3, FaAll.nil _, rfl, Nat.zero_le _, SameB.refl _ _⟩ (fun n σ H' _ ⟨_, _, _, _, _, _, _, _, _, _, _, _, _, _, _, s⟩ => SqL.of (s _ _ hu3 (Ne.symm tu))) ?_ ?_
  · rintro n x σ H4 hx ⟨L, v4, v5, v6, v7, v8, v9, va, vb, vc, rfl, ht4, hL4, hx4, hl4, s4⟩
    obtain ⟨o, ho, rfl⟩ := sdv_at hx
    have hn : n < ps.length := (List.getElem?_eq_some_iff.mp ho).1
    have ho2 : (places ws)[n]? = some (o.c, o.i) := by rw [← hpe, List.getElem?_map, ho]; rfl
    obtain ⟨o1, o2⟩ := place_ok (List.mem_of_getElem? ho2)
    have hto := hps o (List.mem_of_getElem? ho)
    have ts4 := SameB.ts ht3 s4
    refine ⟨o.t, _, rfl, SqT.of (ts4 _ _ hto), rfl, _, _, rfl, _, _, rfl, rfl, ?_⟩
    refine ⟨_, rfl, u, rfl, ⟨_, SqL.of (s4 _ _ hu3 (Ne.symm tu))⟩, ?_⟩
    refine for_list (K := K) (a := u) (xs := sdv ps) (fun k σ H' => ∃ (L : List Fa) (v7 v8 v9 va vb vc : Option V), σ = [some (.str (S y)), some (.ref wt), some (.ref t), some (.ref u), some (.int o.c), v5, some (.int o.i), v7, v8, v9, va, vb, vc] ∧ H' t = some (.lst (fav L)) ∧ FaAll H' L ∧ L.map Fa.x = ((places ws).take n).flatMap (fun o => (places ws).flatMap fun p => fat y ws o p) ++ ((places ws).take k).flatMap (fun p => fat y ws (o.c, o.i) p) ∧ L.length ≤ 72 * n + 3 * k ∧ SameB t H3 H')
      ⟨L, _, _, _, _, _, _, rfl, ht4, hL4, by rw [hx4]; simp, by omega, s4⟩ (fun n σ H' _ ⟨_, _, _, _, _, _, _, _, _, _, _, _, s⟩ => SqL.of (s _ _ hu3 (Ne.symm tu))) ?_ ?_
    · rintro k x σ H5 hx ⟨L5, w7, w8, w9, wa, wb, wc, rfl, ht5, hL5, hx5, hl5, s5⟩
      obtain ⟨p, hp, rfl⟩ := sdv_at hx
      have hk : k < ps.length := (List.getElem?_eq_some_iff.mp hp).1
      have hp2 : (places ws)[k]? = some (p.c, p.i) := by rw [← hpe, List.getElem?_map, hp]; rfl
      obtain ⟨p1, p2⟩ := place_ok (List.mem_of_getElem? hp2)
      have htp := hps p (List.mem_of_getElem? hp)
      have ts5 := SameB.ts ht3 s5
      obtain ⟨sw, wz⟩ := ok.sw _ (getD_in o1)
      obtain ⟨sv, vz⟩ := ok.sw _ (getD_in p1)
      refine ⟨p.t, _, rfl, SqT.of (ts5 _ _ htp), rfl, _, _, rfl, _, _, rfl, rfl, ?_⟩
      refine ⟨_, rfl, _, rfl, wt, _, _, _, rfl, rfl, SqT.of (ts5 _ _ hw3), atI_nat (getD_at o1), _, rfl, _, rfl, wt, _, _, _, rfl, rfl, SqT.of (ts5 _ _ hw3), atI_nat (getD_at p1), _, _, rfl, ?_⟩
      have elf := lat_fat (ws := ws) (o := (o.c, o.i)) (p := (p.c, p.i)) hy sw
      have goal : ∀ (Z : List Fm), Z = lat y (ws.getD o.c []) (ws.getD p.c []) o.c o.i p.c p.i → ((places ws).take n).flatMap (fun o => (places ws).flatMap fun p => fat y ws o p) ++ ((places ws).take k).flatMap (fun p => fat y ws (o.c, o.i) p) ++ Z = ((places ws).take n).flatMap (fun o => (places ws).flatMap fun p => fat y ws o p) ++ ((places ws).take (k + 1)).flatMap (fun p => fat y ws (o.c, o.i) p) := fun Z e => by
        rw [flat_snoc _ hp2, List.append_assoc, e, elf]
      generalize ((places ws).take n).flatMap (fun o => (places ws).flatMap fun p => fat y ws o p) ++ ((places ws).take k).flatMap (fun p => fat y ws (o.c, o.i) p) = B5 at hx5 goal
      refine ⟨fun σ' H' => σ' = [some (.str (S y)), some (.ref wt), some (.ref t), some (.ref u), some (.int o.c), v5, some (.int o.i), some (.int p.c), some (.int p.i), some (.str (S (ws.getD o.c []))), some (.str (S (ws.getD p.c []))), wb, wc] ∧ ∃ L1 : List Fa, H' t = some (.lst (fav L1)) ∧ FaAll H' L1 ∧ L1.map Fa.x = B5 ++ (if ltP o.c o.i p.c p.i = true ∧ mAc y (ws.getD o.c []) (ws.getD p.c []) o.i p.i = true then [⟨o.c, o.i, p.c, p.i, 0, sAcross⟩] else []) ∧ L1.length ≤ L5.length + 1 ∧ SameB t H3 H', ?_, ?_⟩
      · refine ⟨_, rfl, _, rfl, by show 2 ≤ sizeLine; decide, fun a1 n1 => ?_⟩
        refine ⟨_, rfl, _, rfl, by show 2 ≤ sizeLine; decide, fun a2 n2 => ?_⟩
        have sa := (Same.upd (o := .tup [.int o.c, .int o.i]) n1).trans (Same.upd (o := .tup [.int p.c, .int p.i]) n2)
        refine ⟨a1, a2, _, _, _, _, rfl, rfl, SqT.of ((Same.upd n2) _ _ upd_same), SqT.of upd_same, _, rfl, ite2 (fun z => ?_) (fun z => ?_)⟩
        · refine ⟨_, rfl, _, rfl, _, rfl, _, rfl, _, rfl, y, _, o.i, _, p.i, rfl, hy, hz, sw, sv, wz, vz, o2, p2, fun H6 s6 => ?_⟩
          have sb := sa.trans s6
          refine ⟨_, rfl, ite2 (fun z2 => ?_) (fun z2 => ?_)⟩
          · refine ⟨_, rfl, .inl ⟨rfl, _, SqL.of (sb _ _ ht5)⟩, _, rfl, _, rfl, _, rfl, _, rfl, by show 6 ≤ sizeLine; decide, fun a3 n3 => ?_⟩
            refine ⟨t, fav L5, _, rfl, rfl, (Same.upd n3) _ _ (sb _ _ ht5), by rw [fav_len]; omega, ?_⟩
            obtain ⟨k1, k2, k3, k4⟩ := put_fb (x := ⟨o.c, o.i, p.c, p.i, 0, sAcross⟩) ht5 hL5 sb n3
            refine ⟨rfl, _, k4, k1, by rw [List.map_append, hx5, if_pos ⟨z, z2⟩]; rfl, by simp, fun a ob e zt => ?_⟩
            have := (Same.upd (o := .tup (fmV ⟨o.c, o.i, p.c, p.i, 0, sAcross⟩)) n3) _ _ (sb _ _ (s5 a ob e zt))
            rw [← this]
            exact upd_ne zt
          · exact ⟨rfl, L5, sb _ _ ht5, hL5.ts (TSame.of sb), by rw [hx5, if_neg (fun g => z2 g.2), List.append_nil], by omega, fun a ob e zt => sb _ _ (s5 a ob e zt)⟩
        · refine iteF ?_
          exact ⟨rfl, L5, sa _ _ ht5, hL5.ts (TSame.of sa), by rw [hx5, if_neg (fun g => z g.1), List.append_nil], by omega, fun a ob e zt => sa _ _ (s5 a ob e zt)⟩
      rintro σ6 H6 ⟨rfl, L6, ht6, hL6, hx6, hl6, s6⟩
      refine ⟨_, rfl, _, rfl, _, rfl, _, rfl, _, rfl, y, _, o.i, _, p.i, false, rfl, hy, hz, sw, sv, wz, vz, fun H7 s7 => ?_⟩
      have ht7 := s7 _ _ ht6
      have hL7 := hL6.ts (TSame.of s7)
      have s37 : SameB t H3 H7 := s6.after s7
      clear hx5 hL5 ht5 s5 ts5 ht6 hL6 s6 s7
      refine ⟨fun σ' H' => σ' = [some (.str (S y)), some (.ref wt), some (.ref t), some (.ref u), some (.int o.c), v5, some (.int o.i), some (.int p.c), some (.int p.i), some (.str (S (ws.getD o.c []))), some (.str (S (ws.getD p.c []))), some (.int (mAl y (ws.getD o.c []) (ws.getD p.c []) o.i p.i)), wc] ∧ ∃ L1 : List Fa, H' t = some (.lst (fav L1)) ∧ FaAll H' L1 ∧ L1.map Fa.x = B5 ++ (if ltP o.c o.i p.c p.i = true ∧ mAc y (ws.getD o.c []) (ws.getD p.c []) o.i p.i = true then [⟨o.c, o.i, p.c, p.i, 0, sAcross⟩] else []) ++ (if ltP o.c o.i p.c p.i = true ∧ 0 < mAl y (ws.getD o.c []) (ws.getD p.c []) o.i p.i then [⟨o.c, o.i, p.c, p.i, mAl y (ws.getD o.c []) (ws.getD p.c []) o.i p.i, sAlong⟩] else []) ∧ L1.length ≤ L5.length + 2 ∧ SameB t H3 H', ?_, ?_⟩
      · refine ⟨_, rfl, _, rfl, by show 2 ≤ sizeLine; decide, fun a1 n1 => ?_⟩
        refine ⟨_, rfl, _, rfl, by show 2 ≤ sizeLine; decide, fun a2 n2 => ?_⟩
        have sa := (Same.upd (o := .tup [.int o.c, .int o.i]) n1).trans (Same.upd (o := .tup [.int p.c, .int p.i]) n2)
        refine ⟨a1, a2, _, _, _, _, rfl, rfl, SqT.of ((Same.upd n2) _ _ upd_same), SqT.of upd_same, _, rfl, ite2 (fun z => ?_) (fun z => ?_)⟩
        · refine ⟨_, rfl, _, _, rfl, rfl, _, rfl, ite2 (fun z2 => ?_) (fun z2 => ?_)⟩
          · have hm : 0 < mAl y (ws.getD o.c []) (ws.getD p.c []) o.i p.i := Int.ofNat_lt.mp (of_decide_eq_true z2)
            refine ⟨_, rfl, .inl ⟨rfl, _, SqL.of (sa _ _ ht7)⟩, _, rfl, _, rfl, _, rfl, _, rfl, _, rfl, by show 6 ≤ sizeLine; decide, fun a3 n3 => ?_⟩
            refine ⟨t, fav L6, _, rfl, rfl, (Same.upd n3) _ _ (sa _ _ ht7), by rw [fav_len]; omega, ?_⟩
            obtain ⟨k1, k2, k3, k4⟩ := put_fb (x := ⟨o.c, o.i, p.c, p.i, mAl y (ws.getD o.c []) (ws.getD p.c []) o.i p.i, sAlong⟩) ht7 hL7 sa n3
            refine ⟨rfl, _, k4, k1, by rw [List.map_append, hx6, if_pos (⟨z, hm⟩ : _ ∧ 0 < mAl y (ws.getD o.c []) (ws.getD p.c []) o.i p.i)]; rfl, by simp; omega, fun a ob e zt => ?_⟩
            have := (Same.upd (o := .tup (fmV ⟨o.c, o.i, p.c, p.i, mAl y (ws.getD o.c []) (ws.getD p.c []) o.i p.i, sAlong⟩)) n3) _ _ (sa _ _ (s37 a ob e zt))
            rw [← this]
            exact upd_ne zt
          · have hm : ¬ 0 < mAl y (ws.getD o.c []) (ws.getD p.c []) o.i p.i := fun g => z2 (decide_eq_true (Int.ofNat_lt.mpr g))
            exact ⟨rfl, L6, sa _ _ ht7, hL7.ts (TSame.of sa), by rw [hx6, if_neg (fun g : _ ∧ 0 < mAl y (ws.getD o.c []) (ws.getD p.c []) o.i p.i => hm g.2), List.append_nil], by omega, fun a ob e zt => sa _ _ (s37 a ob e zt)⟩
        · refine iteF ?_
          exact ⟨rfl, L6, sa _ _ ht7, hL7.ts (TSame.of sa), by rw [hx6, if_neg (fun g : _ ∧ 0 < mAl y (ws.getD o.c []) (ws.getD p.c []) o.i p.i => z g.1), List.append_nil], by omega, fun a ob e zt => sa _ _ (s37 a ob e zt)⟩
      rintro σ8 H8 ⟨rfl, L8, ht8, hL8, hx8, hl8, s8⟩
      clear ht7 hL7 s37
      refine ⟨_, rfl, _, rfl, _, rfl, _, rfl, _, rfl, y, _, o.i, _, p.i, true, rfl, hy, hz, sw, sv, wz, vz, fun H9 s9 => ?_⟩
      have pw : (0 : Int) < ((ws.getD o.c []).length : Int) := by omega
      have pv : (0 : Int) < ((ws.getD p.c []).length : Int) := by omega
      have eag : al y (sq (ws.getD o.c []) o.i) (wq (ws.getD p.c []) p.i true) ((ws.getD o.c []).length + (ws.getD p.c []).length) = mAg y (ws.getD o.c []) (ws.getD p.c []) o.i p.i := rfl
      rw [eag]
      have mz : mAg y (ws.getD o.c []) (ws.getD p.c []) o.i p.i ≤ (ws.getD o.c []).length + (ws.getD p.c []).length := al_le _ _ _ _
      refine ⟨_, rfl, _, rfl, _, _, rfl, rfl, _, _, rfl, rfl, _, rfl, (ws.getD p.c []), rfl, by omega, _, _, rfl, rfl, pv, ?_⟩
      refine ⟨_, rfl, _, rfl, _, _, rfl, rfl, _, _, rfl, rfl, _, rfl, (ws.getD o.c []), rfl, by omega, _, _, rfl, rfl, pw, by show 2 ≤ sizeLine; decide, fun th nth => ?_⟩
      have sth := s9.trans (Same.upd (o := .tup [.int (((p.i : Int) - (mAg y (ws.getD o.c []) (ws.getD p.c []) o.i p.i : Nat) + 1) % (ws.getD p.c []).length), .int (((o.i : Int) + (mAg y (ws.getD o.c []) (ws.getD p.c []) o.i p.i : Nat) - 1) % (ws.getD o.c []).length)]) nth)
      have hth : upd H9 th (.tup [.int (((p.i : Int) - (mAg y (ws.getD o.c []) (ws.getD p.c []) o.i p.i : Nat) + 1) % (ws.getD p.c []).length), .int (((o.i : Int) + (mAg y (ws.getD o.c []) (ws.getD p.c []) o.i p.i : Nat) - 1) % (ws.getD o.c []).length)]) th = some (.tup [.int (((p.i : Int) - (mAg y (ws.getD o.c []) (ws.getD p.c []) o.i p.i : Nat) + 1) % (ws.getD p.c []).length), .int (((o.i : Int) + (mAg y (ws.getD o.c []) (ws.getD p.c []) o.i p.i : Nat) - 1) % (ws.getD o.c []).length)]) := upd_same
      generalize upd H9 th (.tup [.int (((p.i : Int) - (mAg y (ws.getD o.c []) (ws.getD p.c []) o.i p.i : Nat) + 1) % (ws.getD p.c []).length), .int (((o.i : Int) + (mAg y (ws.getD o.c []) (ws.getD p.c []) o.i p.i : Nat) - 1) % (ws.getD o.c []).length)]) = HA at sth hth ⊢
      have htA := sth _ _ ht8
      have hLA := hL8.ts (TSame.of sth)
      have s3A : SameB t H3 HA := s8.after sth
      have gno : ¬ (0 < mAg y (ws.getD o.c []) (ws.getD p.c []) o.i p.i ∧ (o.c < p.c ∨ (o.c = p.c ∧ ltP o.i p.i (((p.i : Int) - mAg y (ws.getD o.c []) (ws.getD p.c []) o.i p.i + 1) % (ws.getD p.c []).length) (((o.i : Int) + mAg y (ws.getD o.c []) (ws.getD p.c []) o.i p.i - 1) % (ws.getD o.c []).length) = true))) → L8.map Fa.x = B5 ++ lat y (ws.getD o.c []) (ws.getD p.c []) o.c o.i p.c p.i := fun hn => by
        rw [hx8]; unfold lat; rw [if_neg hn, List.append_nil, List.append_assoc]
      have gyes : (0 < mAg y (ws.getD o.c []) (ws.getD p.c []) o.i p.i ∧ (o.c < p.c ∨ (o.c = p.c ∧ ltP o.i p.i (((p.i : Int) - mAg y (ws.getD o.c []) (ws.getD p.c []) o.i p.i + 1) % (ws.getD p.c []).length) (((o.i : Int) + mAg y (ws.getD o.c []) (ws.getD p.c []) o.i p.i - 1) % (ws.getD o.c []).length) = true))) → ∀ a3, (L8 ++ [(⟨a3, ⟨o.c, o.i, p.c, p.i, mAg y (ws.getD o.c []) (ws.getD p.c []) o.i p.i, sAgainst⟩⟩ : Fa)]).map Fa.x = B5 ++ lat y (ws.getD o.c []) (ws.getD p.c []) o.c o.i p.c p.i := fun hn a3 => by
        rw [List.map_append, hx8]; unfold lat; rw [if_pos hn]; simp only [List.append_assoc]; rfl
      refine ⟨_, rfl, _, _, rfl, rfl, _, rfl, ite2 (fun z => ?_) (fun z => ?_)⟩
      · have hm : 0 < mAg y (ws.getD o.c []) (ws.getD p.c []) o.i p.i := Int.ofNat_lt.mp (of_decide_eq_true z)
        refine ⟨_, rfl, _, rfl, _, _, rfl, rfl, _, rfl, ite2 (fun z1 => ?_) (fun z1 => ?_)⟩
        · have hcd : o.c < p.c := Int.ofNat_lt.mp (of_decide_eq_true z1)
          refine iteT ?_
          refine ⟨_, rfl, .inl ⟨rfl, _, SqL.of htA⟩, _, rfl, _, rfl, _, rfl, _, rfl, _, rfl, by show 6 ≤ sizeLine; decide, fun a3 n3 => ?_⟩
          refine ⟨t, fav L8, _, rfl, rfl, (Same.upd n3) _ _ htA, by rw [fav_len]; omega, ?_⟩
          obtain ⟨k1, k2, k3, k4⟩ := put_fb (x := ⟨o.c, o.i, p.c, p.i, mAg y (ws.getD o.c []) (ws.getD p.c []) o.i p.i, sAgainst⟩) htA hLA (Same.refl _) n3
          refine ⟨_, _, _, _, _, _, _, rfl, k4, k1, (gyes ⟨hm, .inl hcd⟩ a3).trans (goal _ rfl), by simp; omega, fun a ob e zt => ?_⟩
          have := (Same.upd (o := .tup (fmV ⟨o.c, o.i, p.c, p.i, mAg y (ws.getD o.c []) (ws.getD p.c []) o.i p.i, sAgainst⟩)) n3) _ _ (s3A a ob e zt)
          rw [← this]
          exact upd_ne zt
        · have hcd : ¬ o.c < p.c := fun g => z1 (decide_eq_true (Int.ofNat_lt.mpr g))
          refine ⟨_, rfl, _, rfl, _, _, rfl, rfl, _, rfl, ite2 (fun z2 => ?_) (fun z2 => ?_)⟩
          · have hce : o.c = p.c := by have := of_decide_eq_true z2; omega
            refine ⟨_, rfl, _, rfl, by show 2 ≤ sizeLine; decide, fun r nr => ?_⟩
            have sr := Same.upd (o := .tup [.int o.i, .int p.i]) nr
            refine ⟨_, rfl, r, th, _, _, _, _, rfl, rfl, SqT.of upd_same, SqT.of (sr _ _ hth), _, rfl, ite2 (fun z3 => ?_) (fun z3 => ?_)⟩
            · refine ⟨_, rfl, .inl ⟨rfl, _, SqL.of (sr _ _ htA)⟩, _, rfl, _, rfl, _, rfl, _, rfl, _, rfl, by show 6 ≤ sizeLine; decide, fun a3 n3 => ?_⟩
              refine ⟨t, fav L8, _, rfl, rfl, (Same.upd n3) _ _ (sr _ _ htA), by rw [fav_len]; omega, ?_⟩
              obtain ⟨k1, k2, k3, k4⟩ := put_fb (x := ⟨o.c, o.i, p.c, p.i, mAg y (ws.getD o.c []) (ws.getD p.c []) o.i p.i, sAgainst⟩) htA hLA sr n3
              refine ⟨_, _, _, _, _, _, _, rfl, k4, k1, (gyes ⟨hm, .inr ⟨hce, z3⟩⟩ a3).trans (goal _ rfl), by simp; omega, fun a ob e zt => ?_⟩
              have := (Same.upd (o := .tup (fmV ⟨o.c, o.i, p.c, p.i, mAg y (ws.getD o.c []) (ws.getD p.c []) o.i p.i, sAgainst⟩)) n3) _ _ (sr _ _ (s3A a ob e zt))
              rw [← this]
              exact upd_ne zt
            · exact ⟨L8, _, _, _, _, _, _, rfl, sr _ _ htA, hLA.ts (TSame.of sr), (gno fun g => g.2.elim hcd fun g => z3 g.2).trans (goal _ rfl), by omega, fun a ob e zt => sr _ _ (s3A a ob e zt)⟩
          · have hce : ¬ o.c = p.c := fun g => z2 (decide_eq_true (by rw [g]))
            refine iteF ?_
            exact ⟨L8, _, _, _, _, _, _, rfl, htA, hLA, (gno fun g => g.2.elim hcd fun g => hce g.1).trans (goal _ rfl), by omega, s3A⟩
      · have hm : ¬ 0 < mAg y (ws.getD o.c []) (ws.getD p.c []) o.i p.i := fun g => z (decide_eq_true (Int.ofNat_lt.mpr g))
        refine iteF ?_
        exact ⟨L8, _, _, _, _, _, _, rfl, htA, hLA, (gno fun g => hm g.1).trans (goal _ rfl), by omega, s3A⟩
    · rintro σ H5 ⟨L5, w7, w8, w9, wa, wb, wc, rfl, ht5, hL5, hx5, hl5, s5⟩
      rw [sdv_len, hpl, List.take_length] at hx5
      rw [sdv_len] at hl5
      refine ⟨L5, _, _, _, _, _, _, _, _, _, rfl, ht5, hL5, ?_, by omega, s5⟩
      rw [hx5, flat_snoc _ ho2]
  · rintro σ H4 ⟨L, v4, v5, v6, v7, v8, v9, va, vb, vc, rfl, ht4, hL4, hx4, hl4, s4⟩
    rw [sdv_len, hpl, List.take_length] at hx4
    have hx : L.map Fa.x = fall y ws := hx4
    have s04 : Same H H4 := fun a ob e => s4 _ _ (s03 a ob e) (ne_of_none e nt)
    refine ⟨_, rfl, t, fav L, _, 4, rfl, .inl (SqL.of ht4), txs_v hL4, fall_next hy hsw hx, fun r nr => ?_⟩
    exact q r L _ (Same.free s04 nr) upd_same (hL4.ts (TSame.updN nr)) hx (s04.trans (Same.upd nr))
/-- names: 0 _law_box_here, 1 _law_words_here, 2 _law_due, 3 _law_c, 4 _law_d, 5 _law_thing -/
theorem ok_Lanything (T : Txt K mg f0 f1 f2 f3 f4 f5 f6 f7 f8 f9 f10 f11 f12 f13 f14 f15 f16 f17 f18 f19 f20 f21 f22 f23 f24 f25 f26 f27 f28 f29 d0 d1 d2 d3 d4 d5 d6 d7 d8 d9 d10 d11 d12 d13 d14 d15 d16 d17 d18 d19 d20 d21 d22 d23 d24 d25 d26 d27 d28 d29) : FnOk P w K mg base CX0 2 f26 d26 ["_law_box_here", "_law_words_here", "_law_due"] (sp_Lanything K) := by
  have G_Ltake := ok_Ltake (P := P) (w := w) (base := base) T
  refine T.F26.fn.ok sc_Lanything (fun vs H Q E h => len_Lanything h) (fun cdv A outer s H vs Q E hr h => ?_)
  refine ⟨_, (pss_via (ps_if (PW.pt (pw_and (pt_cmpR (op_neD K rfl hr) (pv 2) (pe_lst pa_nil) (nomark _)) (pw_and1 (pt_cmpR op_gt (pe_call G_Ltake (hr.mono (by decide)) rfl T.F14.mg T.F14.fn.kp T.F14.bd .nil pass0 (pa_cons (pv 0) (pa_cons pe_int pa_nil))) pe_int (nomark _))))) (pss_one (ps_ret (pe_ix (ix_listK K rfl) (pv 2) (pe_call G_Ltake (hr.mono (by decide)) rfl T.F14.mg T.F14.fn.kp T.F14.bd .nil pass0 (pa_cons (pv 0) (pa_cons (pe_callB (call_len_seqK K rfl) rfl T.z_len PySem.boot_len (pa_cons (pv 2) pa_nil)) pa_nil))) (fun _ _ => rfl)))) pss_nil)
      (pss_cons (ps_par (i := 3) (j := 4) rfl sc_Lanything.nd rfl rfl (by decide) rfl rfl (pa_cons (pe_call G_Ltake (hr.mono (by decide)) rfl T.F14.mg T.F14.fn.kp T.F14.bd .nil pass0 (pa_cons (pv 0) (pa_cons (pe_callB (call_len_seqK K rfl) rfl T.z_len PySem.boot_len (pa_cons (pv 1) pa_nil)) pa_nil))) (pa_cons (pe_call G_Ltake (hr.mono (by decide)) rfl T.F14.mg T.F14.fn.kp T.F14.bd .nil pass0 (pa_cons (pv 0) (pa_cons (pe_callB (call_len_seqK K rfl) rfl T.z_len PySem.boot_len (pa_cons (pv 1) pa_nil)) pa_nil))) pa_nil)) rfl)
      (pss_cons (ps_set (i := 5) sc_Lanything.nd rfl (Or.inl rfl) (pe_tup (pa_cons (pv 3) (pa_cons (pe_call G_Ltake (hr.mono (by decide)) rfl T.F14.mg T.F14.fn.kp T.F14.bd .nil pass0 (pa_cons (pv 0) (pa_cons (pe_callB call_lenS rfl T.z_len PySem.boot_len (pa_cons (pe_ix (ix_tupK K rfl) (pv 1) (pv 3) (fun _ _ => rfl)) pa_nil)) pa_nil))) (pa_cons (pv 4) (pa_cons (pe_call G_Ltake (hr.mono (by decide)) rfl T.F14.mg T.F14.fn.kp T.F14.bd .nil pass0 (pa_cons (pv 0) (pa_cons (pe_callB call_lenS rfl T.z_len PySem.boot_len (pa_cons (pe_ix (ix_tupK K rfl) (pv 1) (pv 4) (fun _ _ => rfl)) pa_nil)) pa_nil))) (pa_cons (pe_call G_Ltake (hr.mono (by decide)) rfl T.F14.mg T.F14.fn.kp T.F14.bd .nil pass0 (pa_cons (pv 0) (pa_cons pe_int pa_nil))) pa_nil)))))))
      (pss_one (ps_ret (pe_op (op_catTK K rfl) (pv 5) (pe_tup (pa_cons (pe_ix (ix_listK K rfl) (pe_lst (pa_cons (pe_S [97, 99, 114, 111, 115, 115] (by decide +kernel)) (pa_cons (pe_S [97, 108, 111, 110, 103] (by decide +kernel)) (pa_cons (pe_S [97, 103, 97, 105, 110, 115, 116] (by decide +kernel)) pa_nil)))) (pe_call G_Ltake (hr.mono (by decide)) rfl T.F14.mg T.F14.fn.kp T.F14.bd .nil pass0 (pa_cons (pv 0) (pa_cons pe_int pa_nil))) (fun _ _ => rfl)) pa_nil)))))))), ?_⟩
  obtain ⟨b, y, wt, ws, u, L, rfl, hb, ok, hne, hw, hu, hL, hx, ub, q⟩ := h
  have hs : (100000 : Nat) < sizeLine := by decide
  have hfew := ok.few
  have hwp : 0 < ws.length := List.length_pos_iff.mpr hne
  have hLl : L.length ≤ 1728 := by rw [fa_len hx]; exact fall_few ok.all
  have smd := smd_fall (y := y) ok
  rw [← hx] at smd
  refine ⟨fun σ' H' => σ' = [some (.ref b), some (.ref wt), some (.ref u), none, none, none] ∧ BoxAt H' b ∧ SameB b H H', ?_, ?_⟩
  · refine ⟨_, rfl, Nat.zero_le _, fun p np => ?_⟩
    have s0 := Same.upd (o := .lst []) np
    have hp0 : upd H p (.lst []) p = some (.lst []) := upd_same
    generalize upd H p (.lst []) = H0 at s0 hp0 ⊢
    have hL0 := hL.ts (TSame.of s0)
    have hu0 := s0 _ _ hu
    have hb0 := hb.same s0
    refine ⟨_, _, .lst (SqL.of hu0) (rdds_fa hL0), .lst (SqL.of hp0) .nil, ⟨smd.ly, rfl⟩, Nat.le_trans smd.dp (by decide), _, rfl, ite2 (fun z1 => ?_) (fun z1 => ?_)⟩
    · have hLp : 0 < L.length := by
        cases L with
        | nil => simp [PyData.eqv, PyData.eqvAll] at z1
        | cons a l => simp
      refine ⟨_, rfl, b, 4, rfl, hb0, by decide, by decide, fun r H1 hr hb1 s1 => ?_⟩
      refine ⟨_, _, rfl, rfl, _, rfl, ite2 (fun z2 => ?_) (fun z2 => ?_)⟩
      · have hu1 := s1 _ _ hu0 ub
        refine ⟨_, rfl, _, rfl, _, rfl, u, _, rfl, .inl (SqL.of hu1), b, _, rfl, hb1, by rw [fav_len]; omega, by rw [fav_len]; omega, fun r2 H2 hr2 hb2 s2 => ?_⟩
        rw [fav_len] at hr2
        have hr3 : r2 < L.length := by omega
        refine ⟨u, _, _, _, rfl, rfl, SqL.of (s2 _ _ hu1 ub), atI_nat (fav_at hr3), ?_⟩
        have hm : L[r2] ∈ L := List.getElem_mem hr3
        have hk := hL0 _ hm
        have hk2 := (TSame.box hb0 (s1.trans s2)) _ _ hk
        refine q (ofFa L[r2]) H2 ⟨hk2, small_txt (fall_small ok L[r2].x ?_)⟩ hb2 ((SameB.of s0).trans (s1.trans s2))
        rw [← hx]
        exact List.mem_map.mpr ⟨_, hm, rfl⟩
      · exact ⟨rfl, hb1, (SameB.of s0).trans s1⟩
    · exact iteF ⟨rfl, hb0, SameB.of s0⟩
  rintro σ1 H1 ⟨rfl, hb1, s1⟩
  have hw1 := (TSame.box hb s1) _ _ hw
  refine ⟨_, rfl, _, rfl, wt, _, rfl, .inr (SqT.of hw1), b, _, rfl, hb1, by rw [txs_len]; omega, by rw [txs_len]; omega, fun c H2 hc hb2 s2 => ?_⟩
  have hw2 := (TSame.box hb1 s2) _ _ hw1
  refine ⟨_, rfl, _, rfl, wt, _, rfl, .inr (SqT.of hw2), b, _, rfl, hb2, by rw [txs_len]; omega, by rw [txs_len]; omega, fun d H3 hd hb3 s3 => ?_⟩
  have hw3 := (TSame.box hb2 s3) _ _ hw2
  rw [txs_len] at hc hd
  have hc' : c < ws.length := by omega
  have hd' : d < ws.length := by omega
  obtain ⟨swc, lwc⟩ := ok.sw _ (getD_in hc')
  obtain ⟨swd, lwd⟩ := ok.sw _ (getD_in hd')
  have pc : 0 < (ws.getD c []).length := List.length_pos_iff.mpr swc.ne
  have pd : 0 < (ws.getD d []).length := List.length_pos_iff.mpr swd.ne
  refine ⟨_, _, rfl, ?_⟩
  refine ⟨_, rfl, _, rfl, _, rfl, _, rfl, wt, _, _, _, rfl, rfl, SqT.of hw3, atI_nat (getD_at hc'), _, rfl, by omega, b, _, rfl, hb3, by omega, by omega, fun i H4 hi hb4 s4 => ?_⟩
  have hw4 := (TSame.box hb3 s4) _ _ hw3
  refine ⟨_, rfl, _, rfl, _, rfl, _, rfl, wt, _, _, _, rfl, rfl, SqT.of hw4, atI_nat (getD_at hd'), _, rfl, by omega, b, _, rfl, hb4, by omega, by omega, fun j H5 hj hb5 s5 => ?_⟩
  refine ⟨_, rfl, b, 4, rfl, hb5, by decide, by decide, fun m H6 hm hb6 s6 => ?_⟩
  refine ⟨by show 5 ≤ sizeLine; decide, fun t nt => ?_⟩
  have s06 : SameB b H H6 := s1.trans (s2.trans (s3.trans (s4.trans (s5.trans s6))))
  have s7 := Same.upd (o := .tup [.int (c : Int), .int (i : Int), .int (d : Int), .int (j : Int), .int (m : Int)]) nt
  have ht7 : upd H6 t (.tup [.int (c : Int), .int (i : Int), .int (d : Int), .int (j : Int), .int (m : Int)]) t = some (.tup [.int (c : Int), .int (i : Int), .int (d : Int), .int (j : Int), .int (m : Int)]) := upd_same
  have hb7 := hb6.same s7
  generalize upd H6 t (.tup [.int (c : Int), .int (i : Int), .int (d : Int), .int (j : Int), .int (m : Int)]) = H7 at s7 ht7 hb7 ⊢
  refine ⟨_, rfl, by show 3 ≤ sizeLine; decide, fun p np => ?_⟩
  have s8 := Same.upd (o := .lst [.str (S [97, 99, 114, 111, 115, 115]), .str (S [97, 108, 111, 110, 103]), .str (S [97, 103, 97, 105, 110, 115, 116])]) np
  have hp8 : upd H7 p (.lst [.str (S [97, 99, 114, 111, 115, 115]), .str (S [97, 108, 111, 110, 103]), .str (S [97, 103, 97, 105, 110, 115, 116])]) p = some (.lst [.str (S [97, 99, 114, 111, 115, 115]), .str (S [97, 108, 111, 110, 103]), .str (S [97, 103, 97, 105, 110, 115, 116])]) := upd_same
  have hb8 := hb7.same s8
  have pb : p ≠ b := hb7.ne np
  generalize upd H7 p (.lst [.str (S [97, 99, 114, 111, 115, 115]), .str (S [97, 108, 111, 110, 103]), .str (S [97, 103, 97, 105, 110, 115, 116])]) = H8 at s8 hp8 hb8 ⊢
  refine ⟨_, rfl, b, 3, rfl, hb8, by decide, by decide, fun r H9 hr hb9 s9 => ?_⟩
  obtain ⟨wd, hwd, hlt⟩ : ∃ wd : List Nat, atI [V.str (S [97, 99, 114, 111, 115, 115]), .str (S [97, 108, 111, 110, 103]), .str (S [97, 103, 97, 105, 110, 115, 116])] (r : Int) = some (.str (S wd)) ∧ ∀ c ∈ wd, c < 128 := by
    have h3 : r = 0 ∨ r = 1 ∨ r = 2 := by omega
    rcases h3 with g | g | g <;> subst g
    · exact ⟨_, rfl, by decide⟩
    · exact ⟨_, rfl, by decide⟩
    · exact ⟨_, rfl, by decide⟩
  refine ⟨p, _, _, _, rfl, rfl, SqL.of (s9 _ _ hp8 pb), hwd, ?_⟩
  refine ⟨by show 1 ≤ sizeLine; decide, fun t2 nt2 => ?_⟩
  have ht9 := (TSame.box hb8 s9) _ _ (s8 _ _ ht7)
  refine ⟨t, t2, _, _, rfl, rfl, SqT.of ((Same.upd nt2) _ _ ht9), SqT.of upd_same, by simp, by show 5 + 1 ≤ sizeLine; decide, fun z => (by cases z), fun _ t3 nt3 => ?_⟩
  have sA := (Same.upd (o := .tup [.str (S wd)]) nt2).trans (Same.upd (o := .tup ([.int (c : Int), .int (i : Int), .int (d : Int), .int (j : Int), .int (m : Int)] ++ [.str (S wd)])) nt3)
  exact q ⟨t3, c, i, d, j, m, wd⟩ _ ⟨upd_same, hlt⟩ (hb9.same sA) ((((s06.after s7).after s8).trans s9).after sA)
/-- names: 0 _law_box_here, 1 _law_words_here, 2 _law_thing, 3 _law_form, 4 _law_c, 5 _law_i, 6 _law_d, 7 _law_j, 8 _law_many, 9 _law_word, 10 _law_at, 11 _law_some -/
theorem ok_Lotherwise (T : Txt K mg f0 f1 f2 f3 f4 f5 f6 f7 f8 f9 f10 f11 f12 f13 f14 f15 f16 f17 f18 f19 f20 f21 f22 f23 f24 f25 f26 f27 f28 f29 d0 d1 d2 d3 d4 d5 d6 d7 d8 d9 d10 d11 d12 d13 d14 d15 d16 d17 d18 d19 d20 d21 d22 d23 d24 d25 d26 d27 d28 d29) : FnOk P w K mg base CX0 2 f27 d27 ["_law_box_here", "_law_words_here", "_law_thing"] (sp_Lotherwise K) := by
  have G_Ltake := ok_Ltake (P := P) (w := w) (base := base) T
  refine T.F27.fn.ok sc_Lotherwise (fun vs H Q E h => len_Lotherwise h) (fun cdv A outer s H vs Q E hr h => ?_)
  refine ⟨_, (pss_cons (ps_set (i := 3) sc_Lotherwise.nd rfl (Or.inl rfl) (pe_call G_Ltake (hr.mono (by decide)) rfl T.F14.mg T.F14.fn.kp T.F14.bd .nil pass0 (pa_cons (pv 0) (pa_cons pe_int pa_nil))))
      (pss_cons (ps_asg (pv 2) (pg_tupK (n := 6) K rfl rfl (pgs_cons (pg_name (i := 4) sc_Lotherwise.nd rfl (Or.inl rfl)) (pgs_cons (pg_name (i := 5) sc_Lotherwise.nd rfl (Or.inl rfl)) (pgs_cons (pg_name (i := 6) sc_Lotherwise.nd rfl (Or.inl rfl)) (pgs_cons (pg_name (i := 7) sc_Lotherwise.nd rfl (Or.inl rfl)) (pgs_cons (pg_name (i := 8) sc_Lotherwise.nd rfl (Or.inl rfl)) (pgs_cons (pg_name (i := 9) sc_Lotherwise.nd rfl (Or.inl rfl)) pgs_nil))))))))
      (pss_via (ps_if (pt_cmpR op_eqI (pv 3) pe_int (nomark _)) (pss_one (ps_ret (pe_tup (pa_cons (pv 6) (pa_cons (pv 7) (pa_cons (pv 4) (pa_cons (pv 5) (pa_cons (pv 8) (pa_cons (pv 9) pa_nil))))))))) pss_nil)
      (pss_via (ps_if (pt_cmpR op_eqI (pv 3) pe_int (nomark _)) (pss_one (ps_ret (pe_tup (pa_cons (pv 4) (pa_cons (pv 5) (pa_cons (pv 6) (pa_cons (pv 7) (pa_cons (pv 8) (pa_cons (pe_ix (ix_listK K rfl) (pe_lst (pa_cons (pe_S [97, 99, 114, 111, 115, 115] (by decide +kernel)) (pa_cons (pe_S [97, 108, 111, 110, 103] (by decide +kernel)) (pa_cons (pe_S [97, 103, 97, 105, 110, 115, 116] (by decide +kernel)) (pa_cons (pe_S [] (by decide +kernel)) (pa_cons (pe_S [65, 108, 111, 110, 103] (by decide +kernel)) pa_nil)))))) (pe_call G_Ltake (hr.mono (by decide)) rfl T.F14.mg T.F14.fn.kp T.F14.bd .nil pass0 (pa_cons (pv 0) (pa_cons pe_int pa_nil))) (fun _ _ => rfl)) pa_nil))))))))) pss_nil)
      (pss_via (ps_if (PW.pt (pw_and (pt_cmpR op_eqI (pv 3) pe_int (nomark _)) (pw_and (pt_chain op_le op_lt pe_int (pv 4) (pe_callB (call_len_seqK K rfl) rfl T.z_len PySem.boot_len (pa_cons (pv 1) pa_nil))) (pw_and1 (pt_chain op_le op_lt pe_int (pv 6) (pe_callB (call_len_seqK K rfl) rfl T.z_len PySem.boot_len (pa_cons (pv 1) pa_nil))))))) (pss_one (ps_ret (pe_tup (pa_cons (pv 6) (pa_cons (pe_op op_mod (pe_op op_add (pe_op op_sub (pv 7) (pv 8)) pe_int) (pe_callB call_lenS rfl T.z_len PySem.boot_len (pa_cons (pe_ix (ix_tupK K rfl) (pv 1) (pv 6) (fun _ _ => rfl)) pa_nil))) (pa_cons (pv 4) (pa_cons (pe_op op_mod (pe_op op_sub (pe_op op_add (pv 5) (pv 8)) pe_int) (pe_callB call_lenS rfl T.z_len PySem.boot_len (pa_cons (pe_ix (ix_tupK K rfl) (pv 1) (pv 4) (fun _ _ => rfl)) pa_nil))) (pa_cons (pv 8) (pa_cons (pv 9) pa_nil))))))))) pss_nil)
      (pss_cons (ps_set (i := 10) sc_Lotherwise.nd rfl (Or.inl rfl) (pe_call G_Ltake (hr.mono (by decide)) rfl T.F14.mg T.F14.fn.kp T.F14.bd .nil pass0 (pa_cons (pv 0) (pa_cons pe_int pa_nil))))
      (pss_cons (ps_set (i := 11) sc_Lotherwise.nd rfl (Or.inl rfl) (pe_lst (pa_cons pe_int (pa_cons (pe_un un_neg pe_int) (pa_cons (pe_op op_pow pe_int pe_int) (pa_cons (pe_op op_sub pe_int pe_int) (pa_cons (pe_callB (call_len_seqK K rfl) rfl T.z_len PySem.boot_len (pa_cons (pv 1) pa_nil)) (pa_cons (pe_callB call_lenS rfl T.z_len PySem.boot_len (pa_cons (pe_ix (ix_tupK K rfl) (pv 1) pe_int (fun _ _ => rfl)) pa_nil)) (pa_cons (pe_callB call_lenS rfl T.z_len PySem.boot_len (pa_cons (pe_ix (ix_tupK K rfl) (pv 1) (pe_un un_neg pe_int) (fun _ _ => rfl)) pa_nil)) (pa_cons (pe_op op_sub pe_int (pe_callB call_lenS rfl T.z_len PySem.boot_len (pa_cons (pe_ix (ix_tupK K rfl) (pv 1) pe_int (fun _ _ => rfl)) pa_nil))) pa_nil))))))))))
      (pss_one (ps_ret (pe_op (op_catX K rfl) (pe_op (op_catX K rfl) (pe_slice (sl_tupK K rfl) (pv 2) po_none (po_some (pv 10))) (pe_tup (pa_cons (pe_op op_add (pe_ix (ix_tupK K rfl) (pv 2) (pv 10) (fun _ _ => rfl)) (pe_ix (ix_listK K rfl) (pv 11) (pe_call G_Ltake (hr.mono (by decide)) rfl T.F14.mg T.F14.fn.kp T.F14.bd .nil pass0 (pa_cons (pv 0) (pa_cons pe_int pa_nil))) (fun _ _ => rfl))) pa_nil))) (pe_slice (sl_tupK K rfl) (pv 2) (po_some (pe_op op_add (pv 10) pe_int)) po_none))))))))))), ?_⟩
  obtain ⟨b, y, wt, ws, ⟨t, c, i, d, j, m, w⟩, rfl, hb, ok, hne, hw, hg, q⟩ := h
  have hs : (100000 : Nat) < sizeLine := by decide
  have hfew := ok.few
  have hwp : 0 < ws.length := List.length_pos_iff.mpr hne
  have ht : H t = some (.tup [.int c, .int i, .int d, .int j, .int m, .str (S w)]) := hg.at_
  refine ⟨_, rfl, b, 9, rfl, hb, by decide, by decide, fun f H1 hf hb1 s1 => ?_⟩
  have ts1 := TSame.box hb s1
  have ht1 := ts1 _ _ ht
  have hw1 := ts1 _ _ hw
  refine ⟨_, rfl, t, _, rfl, SqT.of ht1, rfl, _, _, rfl, _, _, rfl, _, _, rfl, _, _, rfl, _, _, rfl, _, _, rfl, rfl, ?_⟩
  have give : ∀ (g : Tg) (H' : Hp) (xs : List V), H' g.t = none → xs = tgV g → (∀ c ∈ g.w, c < 128) → BoxAt H' b → SameB b H H' → Q (.ref g.t) (upd H' g.t (.tup xs)) := fun g H' xs n e hl hb' s' => by
    subst e
    exact q g _ ⟨upd_same, hl⟩ (hb'.same (Same.upd n)) (s'.after (Same.upd n))
  refine ⟨fun σ' H' => H' = H1 ∧ σ' = [some (.ref b), some (.ref wt), some (.ref t), some (.int f), some (.int c), some (.int i), some (.int d), some (.int j), some (.int m), some (.str (S w)), none, none], ?_, ?_⟩
  · refine ⟨_, rfl, _, _, rfl, rfl, _, rfl, ite2 (fun z => ?_) (fun z => ?_)⟩
    · refine ⟨_, rfl, _, rfl, _, rfl, _, rfl, _, rfl, _, rfl, by show 6 ≤ sizeLine; decide, fun t2 nt2 => ?_⟩
      exact give ⟨t2, d, j, c, i, m, w⟩ _ _ nt2 rfl hg.ok hb1 s1
    · exact ⟨rfl, rfl⟩
  rintro σ2 H2 ⟨rfl, rfl⟩
  refine ⟨fun σ' H' => H' = H2 ∧ σ' = [some (.ref b), some (.ref wt), some (.ref t), some (.int f), some (.int c), some (.int i), some (.int d), some (.int j), some (.int m), some (.str (S w)), none, none], ?_, ?_⟩
  · refine ⟨_, rfl, _, _, rfl, rfl, _, rfl, ite2 (fun z => ?_) (fun z => ?_)⟩
    · refine ⟨_, rfl, _, rfl, _, rfl, _, rfl, _, rfl, by show 5 ≤ sizeLine; decide, fun p np => ?_⟩
      have s3 := Same.upd (o := .lst [.str (S [97, 99, 114, 111, 115, 115]), .str (S [97, 108, 111, 110, 103]), .str (S [97, 103, 97, 105, 110, 115, 116]), .str (S []), .str (S [65, 108, 111, 110, 103])]) np
      have hp3 : upd H2 p (.lst [.str (S [97, 99, 114, 111, 115, 115]), .str (S [97, 108, 111, 110, 103]), .str (S [97, 103, 97, 105, 110, 115, 116]), .str (S []), .str (S [65, 108, 111, 110, 103])]) p = some (.lst [.str (S [97, 99, 114, 111, 115, 115]), .str (S [97, 108, 111, 110, 103]), .str (S [97, 103, 97, 105, 110, 115, 116]), .str (S []), .str (S [65, 108, 111, 110, 103])]) := upd_same
      have hb3 := hb1.same s3
      have pb : p ≠ b := hb1.ne np
      generalize upd H2 p (.lst [.str (S [97, 99, 114, 111, 115, 115]), .str (S [97, 108, 111, 110, 103]), .str (S [97, 103, 97, 105, 110, 115, 116]), .str (S []), .str (S [65, 108, 111, 110, 103])]) = H3 at s3 hp3 hb3 ⊢
      refine ⟨_, rfl, b, 5, rfl, hb3, by decide, by decide, fun r H4 hr hb4 s4 => ?_⟩
      obtain ⟨wd, hwd, hlt⟩ : ∃ wd : List Nat, atI [V.str (S [97, 99, 114, 111, 115, 115]), .str (S [97, 108, 111, 110, 103]), .str (S [97, 103, 97, 105, 110, 115, 116]), .str (S []), .str (S [65, 108, 111, 110, 103])] (r : Int) = some (.str (S wd)) ∧ ∀ c ∈ wd, c < 128 := by
        have h3 : r = 0 ∨ r = 1 ∨ r = 2 ∨ r = 3 ∨ r = 4 := by omega
        rcases h3 with g | g | g | g | g <;> subst g
        · exact ⟨_, rfl, by decide⟩
        · exact ⟨_, rfl, by decide⟩
        · exact ⟨_, rfl, by decide⟩
        · exact ⟨_, rfl, by decide⟩
        · exact ⟨_, rfl, by decide⟩
      refine ⟨p, _, _, _, rfl, rfl, SqL.of (s4 _ _ hp3 pb), hwd, ?_⟩
      refine ⟨by show 6 ≤ sizeLine; decide, fun t2 nt2 => ?_⟩
      exact give ⟨t2, c, i, d, j, m, wd⟩ _ _ nt2 rfl hlt hb4 ((s1.after s3).trans s4)
    · exact ⟨rfl, rfl⟩
  rintro σ3 H3 ⟨rfl, rfl⟩
  refine ⟨fun σ' H' => H' = H3 ∧ σ' = [some (.ref b), some (.ref wt), some (.ref t), some (.int f), some (.int c), some (.int i), some (.int d), some (.int j), some (.int m), some (.str (S w)), none, none], ?_, ?_⟩
  · refine ⟨_, rfl, _, _, rfl, rfl, _, rfl, ite2 (fun z => ?_) (fun z => ?_)⟩
    · refine ⟨_, rfl, _, _, rfl, rfl, _, rfl, ite2 (fun z1 => ?_) (fun z1 => ?_)⟩
      · refine ⟨_, rfl, wt, _, rfl, .inr (SqT.of hw1), _, _, rfl, rfl, _, rfl, ite2 (fun z2 => ?_) (fun z2 => ?_)⟩
        · refine ⟨_, rfl, _, _, rfl, rfl, _, rfl, ite2 (fun z3 => ?_) (fun z3 => ?_)⟩
          · refine ⟨_, rfl, wt, _, rfl, .inr (SqT.of hw1), _, _, rfl, rfl, _, rfl, ite2 (fun z4 => ?_) (fun z4 => ?_)⟩
            · rw [txs_len] at z2 z4
              have y1 := of_decide_eq_true z1
              have y2 := of_decide_eq_true z2
              have y3 := of_decide_eq_true z3
              have y4 := of_decide_eq_true z4
              obtain ⟨c', rfl⟩ : ∃ a : Nat, c = a := ⟨c.toNat, by omega⟩
              obtain ⟨d', rfl⟩ : ∃ a : Nat, d = a := ⟨d.toNat, by omega⟩
              have hc' : c' < ws.length := by omega
              have hd' : d' < ws.length := by omega
              obtain ⟨swc, lwc⟩ := ok.sw _ (getD_in hc')
              obtain ⟨swd, lwd⟩ := ok.sw _ (getD_in hd')
              have pc : 0 < (ws.getD c' []).length := List.length_pos_iff.mpr swc.ne
              have pd : 0 < (ws.getD d' []).length := List.length_pos_iff.mpr swd.ne
              refine ⟨_, rfl, _, rfl, _, rfl, _, _, rfl, rfl, _, _, rfl, rfl, _, rfl, _, rfl, wt, _, _, _, rfl, rfl, SqT.of hw1, atI_nat (getD_at hd'), _, rfl, by omega, _, _, rfl, rfl, by omega, ?_⟩
              refine ⟨_, rfl, _, rfl, _, rfl, _, _, rfl, rfl, _, _, rfl, rfl, _, rfl, _, rfl, wt, _, _, _, rfl, rfl, SqT.of hw1, atI_nat (getD_at hc'), _, rfl, by omega, _, _, rfl, rfl, by omega, ?_⟩
              refine ⟨_, rfl, _, rfl, by show 6 ≤ sizeLine; decide, fun t2 nt2 => ?_⟩
              exact give ⟨t2, _, _, _, _, _, _⟩ _ _ nt2 rfl hg.ok hb1 s1
            · exact ⟨rfl, rfl⟩
          · exact ⟨_, rfl, iteF ⟨rfl, rfl⟩⟩
        · exact iteF ⟨rfl, rfl⟩
      · exact ⟨_, rfl, iteF (iteF ⟨rfl, rfl⟩)⟩
    · exact iteF ⟨rfl, rfl⟩
  rintro σ4 H4 ⟨rfl, rfl⟩
  refine ⟨_, rfl, b, 5, rfl, hb1, by decide, by decide, fun k H5 hk hb5 s5 => ?_⟩
  have ts5 := TSame.box hb1 s5
  have ht5 := ts5 _ _ ht1
  have hw5 := ts5 _ _ hw1
  have s05 := s1.trans s5
  obtain ⟨sw0, lw0⟩ := ok.sw _ (getD_in hwp)
  obtain ⟨wl, hwl, hat⟩ := txs_last hne
  have lwl := (ok.sw _ hwl).2
  have h0 : atI (txs ws) 0 = some (V.str (S (ws.getD 0 []))) := atI_nat (j := 0) (getD_at hwp)
  have hk5 : k < 5 := by omega
  have hpw : CPow 10 12 := ⟨by decide, by decide, by decide⟩
  refine ⟨_, rfl, _, _, rfl, rfl, hpw, _, _, rfl, rfl, _, rfl, wt, _, rfl, .inr (SqT.of hw5), _, rfl, wt, _, 0, _, rfl, rfl, SqT.of hw5, h0, _, rfl, by omega, _, rfl, _, rfl, wt, _, _, _, rfl, rfl, SqT.of hw5, hat, _, rfl, by omega, _, rfl, wt, _, 0, _, rfl, rfl, SqT.of hw5, h0, _, rfl, by omega, _, _, rfl, rfl, by show 8 ≤ sizeLine; decide, fun p np => ?_⟩
  have s6 := Same.upd (o := .lst [.int 1, .int (-1), .int (10 ^ 12), .int (0 - 9), .int ((txs ws).length : Nat), .int ((ws.getD 0 []).length : Nat), .int (wl.length : Nat), .int (0 - ((ws.getD 0 []).length : Nat))]) np
  have hp6 : upd H5 p (.lst [.int 1, .int (-1), .int (10 ^ 12), .int (0 - 9), .int ((txs ws).length : Nat), .int ((ws.getD 0 []).length : Nat), .int (wl.length : Nat), .int (0 - ((ws.getD 0 []).length : Nat))]) p = some (.lst [.int 1, .int (-1), .int (10 ^ 12), .int (0 - 9), .int ((txs ws).length : Nat), .int ((ws.getD 0 []).length : Nat), .int (wl.length : Nat), .int (0 - ((ws.getD 0 []).length : Nat))]) := upd_same
  have pb : p ≠ b := hb5.ne np
  have ht6 := s6 _ _ ht5
  have hb6 := hb5.same s6
  have s06 := s05.after s6
  refine ⟨_, rfl, _, rfl, _, rfl, t, _, rfl, SqT.of ht6, ?_, fun p1 np1 => ?_⟩
  · show ¬ (HT.sIx 6 0 none = 0 ∧ HT.sIx 6 6 (some (k : Int)) = 6)
    rw [HT.sIx_nat]
    omega
  rw [cutV_to (by show k ≤ 6; omega)]
  have s7 := Same.upd (o := .tup ([V.int c, .int i, .int d, .int j, .int m, .str (S w)].take k)) np1
  obtain ⟨nk, hnk⟩ := five (c := c) (i := i) (d := d) (j := j) (m := m) (w := w) hk5
  refine ⟨_, rfl, _, rfl, t, _, _, _, rfl, rfl, SqT.of (s7 _ _ ht6), hnk, ?_⟩
  refine ⟨_, rfl, _, rfl, b, 8, rfl, hb6.same s7, by decide, by decide, fun r H8 hr hb8 s8 => ?_⟩
  obtain ⟨nr, hnr⟩ := eight (a := 1) (b := -1) (c := 10 ^ 12) (d := 0 - 9) (e := ((txs ws).length : Nat)) (f := ((ws.getD 0 []).length : Nat)) (g := (wl.length : Nat)) (h := 0 - ((ws.getD 0 []).length : Nat)) (r := r) (by omega)
  refine ⟨p, _, _, _, rfl, rfl, SqL.of (s8 _ _ (s7 _ _ hp6) pb), hnr, ?_⟩
  refine ⟨_, _, rfl, rfl, by show 1 ≤ sizeLine; decide, fun p2 np2 => ?_⟩
  have ts8 := TSame.box (hb6.same s7) s8
  have sB := Same.upd (o := .tup [.int (nk + nr)]) np2
  have hp1 := sB _ _ (ts8 _ _ upd_same)
  have htB := sB _ _ (ts8 _ _ (s7 _ _ ht6))
  have hbB := hb8.same sB
  have s0B := (((s06.after s7).trans s8).after sB)
  have hp2 : upd H8 p2 (.tup [.int (nk + nr)]) p2 = some (.tup [.int (nk + nr)]) := upd_same
  generalize upd H8 p2 (.tup [.int (nk + nr)]) = HB at sB hp1 htB hbB s0B hp2 ⊢
  have hnot2 : ¬ (HT.sIx 6 0 (some ((k : Int) + 1)) = 0 ∧ HT.sIx 6 6 none = 6) := by
    have e : ((k : Int) + 1) = ((k + 1 : Nat) : Int) := by omega
    rw [e, HT.sIx_nat]
    omega
  have hdn : [V.int c, .int i, .int d, .int j, .int m, .str (S w)].drop (k + 1) ≠ [] := fun z => by
    have := congrArg List.length z
    rw [List.length_drop] at this
    simp at this
    omega
  by_cases k0 : k = 0
  · have e0 : [V.int c, .int i, .int d, .int j, .int m, .str (S w)].take k = [] := by rw [k0]; rfl
    rw [e0] at hp1
    refine .inr ⟨p1, p2, _, rfl, rfl, SqT.of hp1, SqT.of hp2, ?_⟩
    have hu : HB p2 = some (.tup ([V.int c, .int i, .int d, .int j, .int m, .str (S w)].take k ++ [.int (nk + nr)])) := by rw [e0]; exact hp2
    refine ⟨_, rfl, _, rfl, _, _, rfl, rfl, _, rfl, t, _, rfl, SqT.of htB, hnot2, fun p4 np4 => ?_⟩
    rw [cutV_from (by show k + 1 ≤ 6; omega)]
    have s9 := Same.upd (o := .tup ([V.int c, .int i, .int d, .int j, .int m, .str (S w)].drop (k + 1))) np4
    refine .inl ⟨p2, p4, _, _, rfl, rfl, SqT.of (s9 _ _ hu), SqT.of upd_same, by simp, by rw [List.length_drop]; simp only [List.length_append, List.length_take, List.length_cons, List.length_nil]; omega, fun z => absurd z hdn, fun _ p5 np5 => ?_⟩
    obtain ⟨g2, rfl, g3, g4⟩ := put_tg (c := c) (i := i) (d := d) (j := j) (m := m) (w := w) hk5 (nk + nr) p5
    exact give g2 _ _ np5 g4 (by rw [g3]; exact hg.ok) ((hbB).same s9) ((s0B).after s9)
  · refine .inl ⟨p1, p2, _, _, rfl, rfl, SqT.of hp1, SqT.of hp2, fun z => ?_, by simp only [List.length_take, List.length_cons, List.length_nil]; omega, fun z => (by cases z), fun _ p3 np3 => ?_⟩
    · have := congrArg List.length z
      rw [List.length_take] at this
      simp at this
      omega
    have sC := Same.upd (o := .tup ([V.int c, .int i, .int d, .int j, .int m, .str (S w)].take k ++ [.int (nk + nr)])) np3
    have hu : upd HB p3 (.tup ([V.int c, .int i, .int d, .int j, .int m, .str (S w)].take k ++ [.int (nk + nr)])) p3 = some (.tup ([V.int c, .int i, .int d, .int j, .int m, .str (S w)].take k ++ [.int (nk + nr)])) := upd_same
    refine ⟨_, rfl, _, rfl, _, _, rfl, rfl, _, rfl, t, _, rfl, SqT.of (sC _ _ htB), hnot2, fun p4 np4 => ?_⟩
    rw [cutV_from (by show k + 1 ≤ 6; omega)]
    have s9 := Same.upd (o := .tup ([V.int c, .int i, .int d, .int j, .int m, .str (S w)].drop (k + 1))) np4
    refine .inl ⟨p3, p4, _, _, rfl, rfl, SqT.of (s9 _ _ hu), SqT.of upd_same, by simp, by rw [List.length_drop]; simp only [List.length_append, List.length_take, List.length_cons, List.length_nil]; omega, fun z => absurd z hdn, fun _ p5 np5 => ?_⟩
    obtain ⟨g2, rfl, g3, g4⟩ := put_tg (c := c) (i := i) (d := d) (j := j) (m := m) (w := w) hk5 (nk + nr) p5
    exact give g2 _ _ np5 g4 (by rw [g3]; exact hg.ok) ((hbB.same sC).same s9) ((s0B.after sC).after s9)
/-- names: 0 words, 1 cord, 2 place -/
theorem ok_is_strand (T : Txt K mg f0 f1 f2 f3 f4 f5 f6 f7 f8 f9 f10 f11 f12 f13 f14 f15 f16 f17 f18 f19 f20 f21 f22 f23 f24 f25 f26 f27 f28 f29 d0 d1 d2 d3 d4 d5 d6 d7 d8 d9 d10 d11 d12 d13 d14 d15 d16 d17 d18 d19 d20 d21 d22 d23 d24 d25 d26 d27 d28 d29) : FnOk P w K mg base CX0 1 f11 d11 ["words", "cord", "place"] (sp_is_strand K) := by
  refine T.F11.fn.ok sc_is_strand (fun vs H Q E h => len_is_strand h) (fun cdv A outer s H vs Q E hr h => ?_)
  refine ⟨_, (pss_one (ps_ret (pe_and (pe_chain op_le op_lt pe_int (pv 1) (pe_callB (call_len_seqK K rfl) rfl T.z_len PySem.boot_len (pa_cons (pv 0) pa_nil))) (pe_one (pe_chain op_le op_lt pe_int (pv 2) (pe_callB call_lenS rfl T.z_len PySem.boot_len (pa_cons (pe_ix (ix_tupK K rfl) (pv 0) (pv 1) (fun _ _ => rfl)) pa_nil))))))), ?_⟩
  obtain ⟨wt, ws, c, i, rfl, hw, hf, hl, q⟩ := h
  have hs : (100000 : Nat) < sizeLine := by decide
  have key : ∀ b, b = isS ws c i → Q (.bl b) H := fun b e => by rw [e]; exact q
  refine ⟨_, rfl, _, _, rfl, rfl, _, rfl, ite2 (fun z1 => ?_) (fun z1 => ?_)⟩
  · refine ⟨_, rfl, wt, _, rfl, .inr (SqT.of hw), _, _, rfl, rfl, _, rfl, ite2 (fun z2 => ?_) (fun z2 => ?_)⟩
    · rw [txs_len] at z2
      have p1 := of_decide_eq_true z1
      have p2 := of_decide_eq_true z2
      obtain ⟨a, rfl⟩ : ∃ a : Nat, c = a := ⟨c.toNat, by omega⟩
      have ha : a < ws.length := by omega
      have hwl := hl _ (getD_in ha)
      refine ⟨_, rfl, _, _, rfl, rfl, _, rfl, ite2 (fun z3 => ?_) (fun z3 => ?_)⟩
      · refine ⟨_, rfl, _, rfl, wt, _, _, _, rfl, rfl, SqT.of hw, atI_nat (getD_at ha), _, rfl, by omega, _, _, rfl, rfl, ?_⟩
        refine key _ ?_
        unfold isS
        rw [z1, z2, z3, Int.toNat_natCast]
        rfl
      · refine key _ ?_
        unfold isS
        rw [Bool.eq_false_iff.mpr z3, Bool.false_and, Bool.and_false]
    · rw [txs_len] at z2
      refine key _ ?_
      unfold isS
      rw [Bool.eq_false_iff.mpr z2, Bool.and_false, Bool.false_and]
  · refine ⟨_, rfl, iteN rfl ?_⟩
    refine key _ ?_
    unfold isS
    rw [Bool.eq_false_iff.mpr z1, Bool.false_and, Bool.false_and]
/-- names: 0 letter -/
theorem ok_contrary (T : Txt K mg f0 f1 f2 f3 f4 f5 f6 f7 f8 f9 f10 f11 f12 f13 f14 f15 f16 f17 f18 f19 f20 f21 f22 f23 f24 f25 f26 f27 f28 f29 d0 d1 d2 d3 d4 d5 d6 d7 d8 d9 d10 d11 d12 d13 d14 d15 d16 d17 d18 d19 d20 d21 d22 d23 d24 d25 d26 d27 d28 d29) : FnOk P w K mg base CX0 1 f0 d0 ["letter"] (sp_contrary K) := by
  refine T.F0.fn.ok sc_contrary (fun vs H Q E h => len_contrary h) (fun cdv A outer s H vs Q E hr h => ?_)
  refine ⟨_, (pss_cons (ps_if (pt_val (pe_bm0K K rfl PySem.F.plainAttrs_str PySem.F.slot_str_islower PySem.F.type_str_islower mt_islower (pv 0))) (pss_one (ps_ret (pe_bm0K K rfl PySem.F.plainAttrs_str PySem.F.slot_str_upper PySem.F.type_str_upper mt_upper (pv 0)))) pss_nil)
      (pss_one (ps_ret (pe_bm0K K rfl PySem.F.plainAttrs_str PySem.F.slot_str_lower PySem.F.type_str_lower mt_lower (pv 0))))), ?_⟩
  obtain ⟨c, rfl, hc, q⟩ := h
  refine ⟨_, rfl, rfl, c, rfl, rfl, hc, _, rfl, ite2 (fun e => ?_) (fun e => ?_)⟩
  · refine ⟨_, rfl, rfl, c, rfl, rfl, hc, ?_⟩
    have z : ctr c = PyProof.Rows.up1 c := if_pos e
    rw [← z]
    exact q
  · refine ⟨_, rfl, rfl, c, rfl, rfl, hc, ?_⟩
    have z : ctr c = PyProof.Rows.lo1 c := if_neg e
    rw [← z]
    exact q
/-- names: 0 word -/
theorem ok_turned (T : Txt K mg f0 f1 f2 f3 f4 f5 f6 f7 f8 f9 f10 f11 f12 f13 f14 f15 f16 f17 f18 f19 f20 f21 f22 f23 f24 f25 f26 f27 f28 f29 d0 d1 d2 d3 d4 d5 d6 d7 d8 d9 d10 d11 d12 d13 d14 d15 d16 d17 d18 d19 d20 d21 d22 d23 d24 d25 d26 d27 d28 d29) : FnOk P w K mg base CX0 2 f1 d1 ["word"] (sp_turned K) := by
  have G_contrary := ok_contrary (P := P) (w := w) (base := base) T
  refine T.F1.fn.ok sc_turned (fun vs H Q E h => len_turned h) (fun cdv A outer s H vs Q E hr h => ?_)
  refine ⟨_, (pss_one (ps_ret (pe_bmK K rfl PySem.F.plainAttrs_str PySem.F.slot_str_join PySem.F.type_str_join (mt_joinK K rfl) (pe_S [] (by decide +kernel)) (pa_cons (pe_compB ["letter"] [none] (pi_rev rfl T.z_reversed (pa_cons (pv 0) pa_nil)) trivial (fun _ _ _ _ => (pg_name (i := 0) (by decide +kernel : List.Nodup (["letter"] : List Str)) rfl (Or.inl rfl))) (fun _ _ _ _ => pf_nil) (fun _ _ _ _ => (pe_call G_contrary (hr.mono (by decide)) rfl T.F0.mg T.F0.fn.kp T.F0.bd .nil pass0 (pa_cons (pv 0) pa_nil)))) pa_nil)))), ?_⟩
  obtain ⟨l, rfl, hc, hz, q⟩ := h
  have hs : (1000 : Nat) < sizeLine := by decide
  refine ⟨rfl, _, rfl, l, rfl, by omega, ?_⟩
  rw [sgs_rev]
  refine comp_fix (xs := sgs l.reverse) (fun i acc H' => Same H H' ∧ acc = sgs ((l.reverse.take i).map ctr)) (by rw [sgs_len, List.length_reverse]; omega) ⟨Same.refl H, rfl⟩ ?_ ?_
  · rintro i x acc H1 Nx hi hx hl ⟨s1, rfl⟩ nx
    obtain ⟨c, hc', rfl⟩ := sgs_get hx
    refine ⟨trivial, yes_ite ⟨_, rfl, c, rfl, hc c (List.mem_reverse.mp (List.mem_of_getElem? hc')), nx _ _ (by simpa using hl) ⟨s1, ?_⟩⟩⟩
    rw [sgs_snoc, ← take_snoc hc', List.map_append]
    rfl
  · rintro acc H1 D hl ⟨s1, rfl⟩ hD
    refine ⟨D, (tnd l).map fun c => [c], rfl, rfl, SqL.of ?_, ?_, ?_⟩
    · rw [upd_same, ← sgs_lists, sgs_len, List.take_of_length_le (Nat.le_refl _), List.map_reverse]
      rfl
    · rw [sum1]
      unfold tnd
      rw [List.length_reverse, List.length_map]
      omega
    · rw [flat1]
      exact q _ (s1.trans (Same.upd hD))
/-- names: 0 word, 1 place -/
theorem ok_corner_ends (T : Txt K mg f0 f1 f2 f3 f4 f5 f6 f7 f8 f9 f10 f11 f12 f13 f14 f15 f16 f17 f18 f19 f20 f21 f22 f23 f24 f25 f26 f27 f28 f29 d0 d1 d2 d3 d4 d5 d6 d7 d8 d9 d10 d11 d12 d13 d14 d15 d16 d17 d18 d19 d20 d21 d22 d23 d24 d25 d26 d27 d28 d29) : FnOk P w K mg base CX0 2 f4 d4 ["word", "place"] (sp_corner_ends K) := by
  have G_contrary := ok_contrary (P := P) (w := w) (base := base) T
  refine T.F4.fn.ok sc_corner_ends (fun vs H Q E h => len_corner_ends h) (fun cdv A outer s H vs Q E hr h => ?_)
  refine ⟨_, (pss_one (ps_ret (pe_tup (pa_cons (pe_call G_contrary (hr.mono (by decide)) rfl T.F0.mg T.F0.fn.kp T.F0.bd .nil pass0 (pa_cons (pe_ix ix_S (pv 0) (pe_op op_sub (pv 1) pe_int) (fun _ _ => rfl)) pa_nil)) (pa_cons (pe_ix ix_S (pv 0) (pv 1) (fun _ _ => rfl)) pa_nil))))), ?_⟩
  obtain ⟨w, i, rfl, hl, hz, hi, q⟩ := h
  have hs : (100000 : Nat) < sizeLine := by decide
  have hne : w ≠ [] := fun z => by rw [z] at hi; simp at hi
  refine ⟨_, rfl, _, rfl, _, _, rfl, rfl, w, _, _, rfl, rfl, by omega, rd_at (by omega) (by omega), _, rfl, (hl _ (rd_mem hne _)).lt, ?_⟩
  refine ⟨_, rfl, _, rfl, w, _, _, rfl, rfl, by omega, rd_at (by omega) (by omega), by show 2 ≤ sizeLine; decide, fun t nt => ?_⟩
  exact q t _ nt upd_same (Same.upd nt)
/-- names: 0 yard, 1 start, 2 end -/
theorem ok_steps_round (T : Txt K mg f0 f1 f2 f3 f4 f5 f6 f7 f8 f9 f10 f11 f12 f13 f14 f15 f16 f17 f18 f19 f20 f21 f22 f23 f24 f25 f26 f27 f28 f29 d0 d1 d2 d3 d4 d5 d6 d7 d8 d9 d10 d11 d12 d13 d14 d15 d16 d17 d18 d19 d20 d21 d22 d23 d24 d25 d26 d27 d28 d29) : FnOk P w K mg base CX0 1 f2 d2 ["yard", "start", "end"] (sp_steps_round K) := by
  refine T.F2.fn.ok sc_steps_round (fun vs H Q E h => len_steps_round h) (fun cdv A outer s H vs Q E hr h => ?_)
  refine ⟨_, (pss_one (ps_ret (pe_op op_mod (pe_op op_sub (pe_bmK K rfl PySem.F.plainAttrs_str PySem.F.slot_str_find PySem.F.type_str_find mt_findS (pv 0) (pa_cons (pv 2) pa_nil)) (pe_bmK K rfl PySem.F.plainAttrs_str PySem.F.slot_str_find PySem.F.type_str_find mt_findS (pv 0) (pa_cons (pv 1) pa_nil))) (pe_callB call_lenS rfl T.z_len PySem.boot_len (pa_cons (pv 0) pa_nil))))), ?_⟩
  obtain ⟨y, a, b, rfl, ha, hb, hz, q⟩ := h
  have hs : (1000 : Nat) < sizeLine := by decide
  have hp : (0 : Int) < (y.length : Int) := by have := List.length_pos_of_mem ha; omega
  refine ⟨_, rfl, rfl, _, rfl, y, b, rfl, rfl, ?_⟩
  rw [if_pos hb]
  refine ⟨_, rfl, rfl, _, rfl, y, a, rfl, rfl, ?_⟩
  rw [if_pos ha]
  exact ⟨_, _, rfl, rfl, _, rfl, y, rfl, by omega, _, _, rfl, rfl, hp, q⟩
/-- names: 0 yard, 1 x, 2 y, 3 z -/
theorem ok_goes_round (T : Txt K mg f0 f1 f2 f3 f4 f5 f6 f7 f8 f9 f10 f11 f12 f13 f14 f15 f16 f17 f18 f19 f20 f21 f22 f23 f24 f25 f26 f27 f28 f29 d0 d1 d2 d3 d4 d5 d6 d7 d8 d9 d10 d11 d12 d13 d14 d15 d16 d17 d18 d19 d20 d21 d22 d23 d24 d25 d26 d27 d28 d29) : FnOk P w K mg base CX0 2 f3 d3 ["yard", "x", "y", "z"] (sp_goes_round K) := by
  have G_steps_round := ok_steps_round (P := P) (w := w) (base := base) T
  refine T.F3.fn.ok sc_goes_round (fun vs H Q E h => len_goes_round h) (fun cdv A outer s H vs Q E hr h => ?_)
  refine ⟨_, (pss_one (ps_ret (pe_cmpR op_lt (pe_call G_steps_round (hr.mono (by decide)) rfl T.F2.mg T.F2.fn.kp T.F2.bd .nil pass0 (pa_cons (pv 0) (pa_cons (pv 1) (pa_cons (pv 2) pa_nil)))) (pe_call G_steps_round (hr.mono (by decide)) rfl T.F2.mg T.F2.fn.kp T.F2.bd .nil pass0 (pa_cons (pv 0) (pa_cons (pv 1) (pa_cons (pv 3) pa_nil)))) (nomark _)))), ?_⟩
  obtain ⟨y, a, b, c, rfl, ha, hb, hc, hz, q⟩ := h
  refine ⟨_, rfl, _, rfl, _, rfl, y, a, b, rfl, ha, hb, hz, ?_⟩
  refine ⟨_, rfl, _, rfl, _, rfl, y, a, c, rfl, ha, hc, hz, ?_⟩
  exact ⟨_, _, rfl, rfl, q⟩
/-- names: 0 yard, 1 one, 2 i, 3 other, 4 j, 5 ends, 6 others -/
theorem ok_meets_across (T : Txt K mg f0 f1 f2 f3 f4 f5 f6 f7 f8 f9 f10 f11 f12 f13 f14 f15 f16 f17 f18 f19 f20 f21 f22 f23 f24 f25 f26 f27 f28 f29 d0 d1 d2 d3 d4 d5 d6 d7 d8 d9 d10 d11 d12 d13 d14 d15 d16 d17 d18 d19 d20 d21 d22 d23 d24 d25 d26 d27 d28 d29) : FnOk P w K mg base CX0 3 f5 d5 ["yard", "one", "i", "other", "j"] (sp_meets_across K) := by
  have G_corner_ends := ok_corner_ends (P := P) (w := w) (base := base) T
  have G_goes_round := ok_goes_round (P := P) (w := w) (base := base) T
  refine T.F5.fn.ok sc_meets_across (fun vs H Q E h => len_meets_across h) (fun cdv A outer s H vs Q E hr h => ?_)
  refine ⟨_, (pss_cons (ps_set (i := 5) sc_meets_across.nd rfl (Or.inl rfl) (pe_call G_corner_ends (hr.mono (by decide)) rfl T.F4.mg T.F4.fn.kp T.F4.bd .nil pass0 (pa_cons (pv 1) (pa_cons (pv 2) pa_nil))))
      (pss_cons (ps_set (i := 6) sc_meets_across.nd rfl (Or.inl rfl) (pe_call G_corner_ends (hr.mono (by decide)) rfl T.F4.mg T.F4.fn.kp T.F4.bd .nil pass0 (pa_cons (pv 3) (pa_cons (pv 4) pa_nil))))
      (pss_cons (ps_if (PW.pt (pw_or (pt_cmpR (op_inK K rfl) (pe_ix (ix_tupK K rfl) (pv 6) pe_int (fun _ _ => rfl)) (pv 5) (by with_unfolding_all rfl)) (pw_or1 (pt_cmpR (op_inK K rfl) (pe_ix (ix_tupK K rfl) (pv 6) pe_int (fun _ _ => rfl)) (pv 5) (by with_unfolding_all rfl))))) (pss_one (ps_ret pe_bl)) pss_nil)
      (pss_one (ps_ret (pe_cmpR op_neB (pe_call G_goes_round (hr.mono (by decide)) rfl T.F3.mg T.F3.fn.kp T.F3.bd .nil pass0 (pa_cons (pv 0) (pa_cons (pe_ix (ix_tupK K rfl) (pv 5) pe_int (fun _ _ => rfl)) (pa_cons (pe_ix (ix_tupK K rfl) (pv 6) pe_int (fun _ _ => rfl)) (pa_cons (pe_ix (ix_tupK K rfl) (pv 5) pe_int (fun _ _ => rfl)) pa_nil))))) (pe_call G_goes_round (hr.mono (by decide)) rfl T.F3.mg T.F3.fn.kp T.F3.bd .nil pass0 (pa_cons (pv 0) (pa_cons (pe_ix (ix_tupK K rfl) (pv 5) pe_int (fun _ _ => rfl)) (pa_cons (pe_ix (ix_tupK K rfl) (pv 6) pe_int (fun _ _ => rfl)) (pa_cons (pe_ix (ix_tupK K rfl) (pv 5) pe_int (fun _ _ => rfl)) pa_nil))))) (nomark _))))))), ?_⟩
  obtain ⟨y, w, i, v, j, rfl, hy, hz, hw, hv, wz, vz, hi, hj, q⟩ := h
  have hs : (100000 : Nat) < sizeLine := by decide
  have lw : ∀ c ∈ w, Lt c := fun c hc => hy.lt c (hw.iny c hc)
  have lv : ∀ c ∈ v, Lt c := fun c hc => hy.lt c (hv.iny c hc)
  refine ⟨_, rfl, _, rfl, w, i, rfl, lw, by omega, hi, fun p1 H1 np hp s1 => ?_⟩
  refine ⟨_, rfl, _, rfl, v, j, rfl, lv, by omega, hj, fun p2 H2 nr hr2 s2 => ?_⟩
  have hp2 := s2 _ _ hp
  have s12 := s1.trans s2
  have ma := hy.cl _ (hw.rd ((i : Int) - 1))
  have mb := hw.rd i
  have mp := hy.cl _ (hv.rd ((j : Int) - 1))
  have mq := hv.rd j
  unfold mAc at q
  generalize ctr (rd w ((i : Int) - 1)) = a at q hp hp2 ma
  generalize rd w i = b at q hp hp2 mb
  generalize ctr (rd v ((j : Int) - 1)) = c at q hr2 mp
  generalize rd v j = d at q hr2 mq
  unfold ac at q
  have i1 := inV_two c a b
  have i2 := inV_two d a b
  have fl : [V.str (S [a]), V.str (S [b])].all flatV = true := rfl
  refine ⟨_, rfl, p2, _, 0, _, rfl, rfl, SqT.of hr2, rfl, _, rfl, p1, _, rfl, .inr (SqT.of hp2), rfl, fl, ?_⟩
  rw [i1]
  refine ⟨_, rfl, ite2 (fun z => ?_) (fun z => ?_)⟩
  · refine iteT ?_
    have e : c = a ∨ c = b := by simpa using z
    rw [if_pos (e.elim .inl fun e => .inr (.inl e))] at q
    exact q _ s12
  · have e : ¬ (c = a ∨ c = b) := by simpa using z
    refine ⟨_, rfl, p2, _, 1, _, rfl, rfl, SqT.of hr2, rfl, _, rfl, p1, _, rfl, .inr (SqT.of hp2), rfl, fl, ?_⟩
    rw [i2]
    refine ⟨_, rfl, ite2 (fun z2 => ?_) (fun z2 => ?_)⟩
    · have e2 : d = a ∨ d = b := by simpa using z2
      rw [if_pos (.inr (.inr e2))] at q
      exact q _ s12
    · have e2 : ¬ (d = a ∨ d = b) := by simpa using z2
      rw [if_neg (fun g => g.elim (fun g => e (.inl g)) fun g => g.elim (fun g => e (.inr g)) e2)] at q
      refine ⟨_, rfl, _, rfl, p1, _, 0, _, rfl, rfl, SqT.of hp2, rfl, _, rfl, p2, _, 0, _, rfl, rfl, SqT.of hr2, rfl, _, rfl, p1, _, 1, _, rfl, rfl, SqT.of hp2, rfl, y, a, c, b, rfl, ma, mp, mb, by omega, ?_⟩
      refine ⟨_, rfl, _, rfl, p1, _, 0, _, rfl, rfl, SqT.of hp2, rfl, _, rfl, p2, _, 1, _, rfl, rfl, SqT.of hr2, rfl, _, rfl, p1, _, 1, _, rfl, rfl, SqT.of hp2, rfl, y, a, d, b, rfl, ma, mq, mb, by omega, ?_⟩
      refine ⟨_, _, rfl, rfl, ?_⟩
      have e3 : (gr y a c b != gr y a d b) = !decide (gr y a c b = gr y a d b) := by cases gr y a c b <;> cases gr y a d b <;> rfl
      rw [e3] at q
      exact q _ s12
/-- names: 0 one, 1 i, 2 other, 3 j, 4 many -/
theorem ok_letters_shared (T : Txt K mg f0 f1 f2 f3 f4 f5 f6 f7 f8 f9 f10 f11 f12 f13 f14 f15 f16 f17 f18 f19 f20 f21 f22 f23 f24 f25 f26 f27 f28 f29 d0 d1 d2 d3 d4 d5 d6 d7 d8 d9 d10 d11 d12 d13 d14 d15 d16 d17 d18 d19 d20 d21 d22 d23 d24 d25 d26 d27 d28 d29) : FnOk P w K mg base CX0 1 f6 d6 ["one", "i", "other", "j"] (sp_letters_shared K) := by
  refine T.F6.fn.ok sc_letters_shared (fun vs H Q E h => len_letters_shared h) (fun cdv A outer s H vs Q E hr h => ?_)
  refine ⟨_, (pss_cons (ps_set (i := 4) sc_letters_shared.nd rfl (Or.inl rfl) pe_int)
      (pss_cons (ps_whileN PassesOwn.never (pt_cmpR op_eqS (pe_ix ix_S (pv 0) (pe_op op_mod (pe_op op_add (pv 1) (pv 4)) (pe_callB call_lenS rfl T.z_len PySem.boot_len (pa_cons (pv 0) pa_nil))) (fun _ _ => rfl)) (pe_ix ix_S (pv 2) (pe_op op_mod (pe_op op_add (pv 3) (pv 4)) (pe_callB call_lenS rfl T.z_len PySem.boot_len (pa_cons (pv 2) pa_nil))) (fun _ _ => rfl)) (nomark _)) (pss_one (ps_aug (i := 4) sc_letters_shared.nd rfl (Or.inl rfl) pe_int ip_add)))
      (pss_one (ps_ret (pv 4))))), ?_⟩
  obtain ⟨w, i, v, j, m, rfl, hw, hv, wz, vz, iz, jz, mz, hm, hn, q⟩ := h
  have hs : (100000 : Nat) < sizeLine := by decide
  have pw : (0 : Int) < (w.length : Int) := by have := List.length_pos_iff.mpr hw; omega
  have pv : (0 : Int) < (v.length : Int) := by have := List.length_pos_iff.mpr hv; omega
  refine ⟨fun t σ H' => H' = H ∧ ∃ k : Nat, σ = [some (.str (S w)), some (.int i), some (.str (S v)), some (.int j), some (.int k)] ∧ t = m - k ∧ k ≤ m, ⟨_, rfl, 0, rfl, rfl, Nat.zero_le _⟩, ?_⟩
  rintro t σ H1 ⟨rfl, k, rfl, rfl, hk⟩
  refine ⟨_, rfl, _, rfl, _, rfl, _, _, rfl, rfl, _, rfl, w, rfl, by omega, _, _, rfl, rfl, pw, w, _, _, rfl, rfl, by omega, rd_atm hw _, ?_⟩
  refine ⟨_, rfl, _, rfl, _, rfl, _, _, rfl, rfl, _, rfl, v, rfl, by omega, _, _, rfl, rfl, pv, v, _, _, rfl, rfl, by omega, rd_atm hv _, ?_⟩
  refine ⟨[rd w (i + k)], [rd v (j + k)], rfl, rfl, _, rfl, ite2 (fun z => ?_) (fun z => ?_)⟩
  · have e : rd w (i + k) = rd v (j + k) := by simpa using z
    have hkm : k < m := Nat.lt_of_le_of_ne hk fun g => hn (by rw [← g]; exact e)
    refine ⟨_, rfl, _, _, rfl, rfl, ?_⟩
    exact ⟨m - (k + 1), by omega, rfl, k + 1, rfl, rfl, hkm⟩
  · have e : rd w (i + k) ≠ rd v (j + k) := fun g => z (by simp [g])
    have hkm : k = m := by
      by_cases g : k < m
      · exact absurd (hm k g) e
      · omega
    rw [hkm]
    exact ⟨_, rfl, q⟩
/-- names: 0 yard, 1 one, 2 i, 3 other, 4 j, 5 many, 6 last, 7 ahead, 8 behind -/
theorem ok_letters_along (T : Txt K mg f0 f1 f2 f3 f4 f5 f6 f7 f8 f9 f10 f11 f12 f13 f14 f15 f16 f17 f18 f19 f20 f21 f22 f23 f24 f25 f26 f27 f28 f29 d0 d1 d2 d3 d4 d5 d6 d7 d8 d9 d10 d11 d12 d13 d14 d15 d16 d17 d18 d19 d20 d21 d22 d23 d24 d25 d26 d27 d28 d29) : FnOk P w K mg base CX0 3 f7 d7 ["yard", "one", "i", "other", "j"] (sp_letters_along K) := by
  have G_letters_shared := ok_letters_shared (P := P) (w := w) (base := base) T
  have G_goes_round := ok_goes_round (P := P) (w := w) (base := base) T
  have G_contrary := ok_contrary (P := P) (w := w) (base := base) T
  refine T.F7.fn.ok sc_letters_along (fun vs H Q E h => len_letters_along h) (fun cdv A outer s H vs Q E hr h => ?_)
  refine ⟨_, (pss_cons (ps_if (PW.pt (pw_or (pt_cmpR op_neS (pe_ix ix_S (pv 1) (pv 2) (fun _ _ => rfl)) (pe_ix ix_S (pv 3) (pv 4) (fun _ _ => rfl)) (nomark _)) (pw_or1 (pt_cmpR op_eqS (pe_ix ix_S (pv 1) (pe_op op_sub (pv 2) pe_int) (fun _ _ => rfl)) (pe_ix ix_S (pv 3) (pe_op op_sub (pv 4) pe_int) (fun _ _ => rfl)) (nomark _))))) (pss_one (ps_ret pe_int)) pss_nil)
      (pss_cons (ps_set (i := 5) sc_letters_along.nd rfl (Or.inl rfl) (pe_call G_letters_shared (hr.mono (by decide)) rfl T.F6.mg T.F6.fn.kp T.F6.bd .nil pass0 (pa_cons (pv 1) (pa_cons (pv 2) (pa_cons (pv 3) (pa_cons (pv 4) pa_nil))))))
      (pss_cons (ps_set (i := 6) sc_letters_along.nd rfl (Or.inl rfl) (pe_ix ix_S (pv 1) (pe_op op_mod (pe_op op_sub (pe_op op_add (pv 2) (pv 5)) pe_int) (pe_callB call_lenS rfl T.z_len PySem.boot_len (pa_cons (pv 1) pa_nil))) (fun _ _ => rfl)))
      (pss_cons (ps_set (i := 7) sc_letters_along.nd rfl (Or.inl rfl) (pe_call G_goes_round (hr.mono (by decide)) rfl T.F3.mg T.F3.fn.kp T.F3.bd .nil pass0 (pa_cons (pv 0) (pa_cons (pe_call G_contrary (hr.mono (by decide)) rfl T.F0.mg T.F0.fn.kp T.F0.bd .nil pass0 (pa_cons (pe_ix ix_S (pv 1) (pe_op op_sub (pv 2) pe_int) (fun _ _ => rfl)) pa_nil)) (pa_cons (pe_call G_contrary (hr.mono (by decide)) rfl T.F0.mg T.F0.fn.kp T.F0.bd .nil pass0 (pa_cons (pe_ix ix_S (pv 3) (pe_op op_sub (pv 4) pe_int) (fun _ _ => rfl)) pa_nil)) (pa_cons (pe_ix ix_S (pv 1) (pv 2) (fun _ _ => rfl)) pa_nil))))))
      (pss_cons (ps_set (i := 8) sc_letters_along.nd rfl (Or.inl rfl) (pe_call G_goes_round (hr.mono (by decide)) rfl T.F3.mg T.F3.fn.kp T.F3.bd .nil pass0 (pa_cons (pv 0) (pa_cons (pe_ix ix_S (pv 1) (pe_op op_mod (pe_op op_add (pv 2) (pv 5)) (pe_callB call_lenS rfl T.z_len PySem.boot_len (pa_cons (pv 1) pa_nil))) (fun _ _ => rfl)) (pa_cons (pe_ix ix_S (pv 3) (pe_op op_mod (pe_op op_add (pv 4) (pv 5)) (pe_callB call_lenS rfl T.z_len PySem.boot_len (pa_cons (pv 3) pa_nil))) (fun _ _ => rfl)) (pa_cons (pe_call G_contrary (hr.mono (by decide)) rfl T.F0.mg T.F0.fn.kp T.F0.bd .nil pass0 (pa_cons (pv 6) pa_nil)) pa_nil))))))
      (pss_one (ps_ret (pe_ifExp (pt_cmpR op_eqB (pv 7) (pv 8) (nomark _)) (pv 5) pe_int)))))))), ?_⟩
  obtain ⟨y, w, i, v, j, rfl, hy, hz, hwy, hvy, wz, vz, hi, hj, q⟩ := h
  have hs : (100000 : Nat) < sizeLine := by decide
  have hw : w ≠ [] := fun z => by rw [z] at hi; simp at hi
  have hv : v ≠ [] := fun z => by rw [z] at hj; simp at hj
  have pw : (0 : Int) < (w.length : Int) := by omega
  have pv : (0 : Int) < (v.length : Int) := by omega
  have my : ∀ k : Int, rd w k ∈ y := fun k => hwy _ (rd_mem hw k)
  have vy : ∀ k : Int, rd v k ∈ y := fun k => hvy _ (rd_mem hv k)
  unfold al at q
  have f0 : sq w i 0 = rd w i := by unfold sq; rw [Int.add_zero]
  have g0 : sq v j 0 = rd v j := by unfold sq; rw [Int.add_zero]
  have f1 : sq w i (-1) = rd w ((i : Int) - 1) := rfl
  have g1 : sq v j (-1) = rd v ((j : Int) - 1) := rfl
  refine ⟨_, rfl, _, rfl, w, _, _, rfl, rfl, by omega, rd_at (by omega) (by omega), _, rfl, _, rfl, v, _, _, rfl, rfl, by omega, rd_at (by omega) (by omega), ?_⟩
  refine ⟨[rd w i], [rd v j], rfl, rfl, _, rfl, ite2 (fun z => ?_) (fun z => ?_)⟩
  · have e : rd w i ≠ rd v j := fun g => by rw [g] at z; simp at z
    refine iteT ?_
    rw [if_pos (.inl (by rw [f0, g0]; exact e))] at q
    exact q
  · have e : rd w i = rd v j := by simpa using z
    refine ⟨_, rfl, _, rfl, _, _, rfl, rfl, w, _, _, rfl, rfl, by omega, rd_at (by omega) (by omega), _, rfl, _, rfl, _, _, rfl, rfl, v, _, _, rfl, rfl, by omega, rd_at (by omega) (by omega), ?_⟩
    refine ⟨[rd w ((i : Int) - 1)], [rd v ((j : Int) - 1)], rfl, rfl, _, rfl, ite2 (fun z2 => ?_) (fun z2 => ?_)⟩
    · have e2 : rd w ((i : Int) - 1) = rd v ((j : Int) - 1) := by simpa using z2
      rw [if_pos (.inr (by rw [f1, g1]; exact e2))] at q
      exact q
    · have e2 : rd w ((i : Int) - 1) ≠ rd v ((j : Int) - 1) := fun g => z2 (by simp [g])
      rw [if_neg (fun g => g.elim (fun g => g (by rw [f0, g0]; exact e)) fun g => e2 (by rw [← f1, ← g1]; exact g))] at q
      obtain ⟨d1, d2⟩ := unlike_of (f := sq w i) (g := sq v j) hw hv (sq_per w i) (sq_per v j) (by rw [f1, g1]; exact e2)
      have d3 := (dif_spec (sq w i) (sq v j) (w.length + v.length) 0).2.2.1
      generalize dif (sq w i) (sq v j) (w.length + v.length) 0 = m at q d1 d2 d3
      refine ⟨_, rfl, _, rfl, _, rfl, _, rfl, w, i, v, j, m, rfl, hw, hv, by omega, by omega, by omega, by omega, by omega, fun k hk => d3 k (Nat.zero_le _) hk, d2, ?_⟩
      refine ⟨_, rfl, _, rfl, _, rfl, _, _, rfl, rfl, _, _, rfl, rfl, _, rfl, w, rfl, by omega, _, _, rfl, rfl, pw, w, _, _, rfl, rfl, by omega, rd_atm hw _, ?_⟩
      refine ⟨_, rfl, _, rfl, _, rfl, _, _, rfl, rfl, w, _, _, rfl, rfl, by omega, rd_at (by omega) (by omega), _, rfl, (hy.lt _ (my _)).lt, ?_⟩
      refine ⟨_, rfl, _, rfl, _, _, rfl, rfl, v, _, _, rfl, rfl, by omega, rd_at (by omega) (by omega), _, rfl, (hy.lt _ (vy _)).lt, ?_⟩
      refine ⟨_, rfl, _, rfl, w, _, _, rfl, rfl, by omega, rd_at (by omega) (by omega), y, _, _, _, rfl, hy.cl _ (my _), hy.cl _ (vy _), my _, by omega, ?_⟩
      refine ⟨_, rfl, _, rfl, _, rfl, _, rfl, _, _, rfl, rfl, _, rfl, w, rfl, by omega, _, _, rfl, rfl, pw, w, _, _, rfl, rfl, by omega, rd_atm hw _, ?_⟩
      refine ⟨_, rfl, _, rfl, _, rfl, _, _, rfl, rfl, _, rfl, v, rfl, by omega, _, _, rfl, rfl, pv, v, _, _, rfl, rfl, by omega, rd_atm hv _, ?_⟩
      refine ⟨_, rfl, _, rfl, (hy.lt _ (my _)).lt, y, _, _, _, rfl, my _, vy _, hy.cl _ (my _), by omega, ?_⟩
      have e3 : sq w i ((m : Int) - 1) = rd w ((i : Int) + m - 1) := by unfold sq; congr 1; omega
      have f2 : sq w i m = rd w ((i : Int) + m) := rfl
      have g2 : sq v j m = rd v ((j : Int) + m) := rfl
      rw [f0, f1, g1, e3, f2, g2] at q
      refine ⟨_, rfl, _, rfl, _, _, rfl, rfl, _, rfl, ite2 (fun z3 => ?_) (fun z3 => ?_)⟩
      · rw [if_pos (of_decide_eq_true z3)] at q
        exact ⟨_, rfl, q⟩
      · rw [if_neg (fun u => z3 (decide_eq_true u))] at q
        exact q
/-- names: 0 yard, 1 words, 2 one, 3 other, 4 word, 5 other_word, 6 told, 7 many -/
theorem ok_forced_onward (T : Txt K mg f0 f1 f2 f3 f4 f5 f6 f7 f8 f9 f10 f11 f12 f13 f14 f15 f16 f17 f18 f19 f20 f21 f22 f23 f24 f25 f26 f27 f28 f29 d0 d1 d2 d3 d4 d5 d6 d7 d8 d9 d10 d11 d12 d13 d14 d15 d16 d17 d18 d19 d20 d21 d22 d23 d24 d25 d26 d27 d28 d29) : FnOk P w K mg base CX0 4 f8 d8 ["yard", "words", "one", "other"] (sp_forced_onward K) := by
  have G_meets_across := ok_meets_across (P := P) (w := w) (base := base) T
  have G_letters_along := ok_letters_along (P := P) (w := w) (base := base) T
  refine T.F8.fn.ok sc_forced_onward (fun vs H Q E h => len_forced_onward h) (fun cdv A outer s H vs Q E hr h => ?_)
  refine ⟨_, (pss_cons (ps_set (i := 4) sc_forced_onward.nd rfl (Or.inl rfl) (pe_ix (ix_tupK K rfl) (pv 1) (pe_ix (ix_tupK K rfl) (pv 2) pe_int (fun _ _ => rfl)) (fun _ _ => rfl)))
      (pss_cons (ps_set (i := 5) sc_forced_onward.nd rfl (Or.inl rfl) (pe_ix (ix_tupK K rfl) (pv 1) (pe_ix (ix_tupK K rfl) (pv 3) pe_int (fun _ _ => rfl)) (fun _ _ => rfl)))
      (pss_cons (ps_set (i := 6) sc_forced_onward.nd rfl (Or.inl rfl) (pe_lst pa_nil))
      (pss_cons (ps_if (pt_val (pe_call G_meets_across (hr.mono (by decide)) rfl T.F5.mg T.F5.fn.kp T.F5.bd .nil pass0 (pa_cons (pv 0) (pa_cons (pv 4) (pa_cons (pe_ix (ix_tupK K rfl) (pv 2) pe_int (fun _ _ => rfl)) (pa_cons (pv 5) (pa_cons (pe_ix (ix_tupK K rfl) (pv 3) pe_int (fun _ _ => rfl)) pa_nil))))))) (pss_one (ps_expr (pe_bmK K rfl PySem.F.plainAttrs_list PySem.F.slot_list_append PySem.F.type_list_append mt_append (pv 6) (pa_cons (pe_op (op_catTK K rfl) (pe_op (op_catTK K rfl) (pv 2) (pv 3)) (pe_tup (pa_cons pe_int (pa_cons (pe_S [97, 99, 114, 111, 115, 115] (by decide +kernel)) pa_nil)))) pa_nil)))) pss_nil)
      (pss_cons (ps_set (i := 7) sc_forced_onward.nd rfl (Or.inl rfl) (pe_call G_letters_along (hr.mono (by decide)) rfl T.F7.mg T.F7.fn.kp T.F7.bd .nil pass0 (pa_cons (pv 0) (pa_cons (pv 4) (pa_cons (pe_ix (ix_tupK K rfl) (pv 2) pe_int (fun _ _ => rfl)) (pa_cons (pv 5) (pa_cons (pe_ix (ix_tupK K rfl) (pv 3) pe_int (fun _ _ => rfl)) pa_nil)))))))
      (pss_cons (ps_if (pt_cmpR op_gt (pv 7) pe_int (nomark _)) (pss_one (ps_expr (pe_bmK K rfl PySem.F.plainAttrs_list PySem.F.slot_list_append PySem.F.type_list_append mt_append (pv 6) (pa_cons (pe_op (op_catTK K rfl) (pe_op (op_catTK K rfl) (pv 2) (pv 3)) (pe_tup (pa_cons (pv 7) (pa_cons (pe_S [97, 108, 111, 110, 103] (by decide +kernel)) pa_nil)))) pa_nil)))) pss_nil)
      (pss_one (ps_ret (pv 6))))))))), ?_⟩
  obtain ⟨y, wt, ws, o, p, c, i, d, j, rfl, ts, q⟩ := h
  have hs : (100000 : Nat) < sizeLine := by decide
  obtain ⟨sw, wz⟩ := ts.w
  obtain ⟨sv, vz⟩ := ts.v
  have hi := ts.hi
  have hj := ts.hj
  refine ⟨_, rfl, _, rfl, o, _, 0, _, rfl, rfl, SqT.of ts.o, rfl, wt, _, _, _, rfl, rfl, SqT.of ts.wt, atI_nat (getD_at ts.hc), ?_⟩
  refine ⟨_, rfl, _, rfl, p, _, 0, _, rfl, rfl, SqT.of ts.p, rfl, wt, _, _, _, rfl, rfl, SqT.of ts.wt, atI_nat (getD_at ts.hd), ?_⟩
  walk_at "wk"
  intro t nt
  have ts1 := ts.ts (TSame.of (Same.upd (o := .lst []) nt))
  have ht1 : upd H t (.lst []) t = some (.lst []) := upd_same
  have s1 := Same.upd (o := .lst []) nt
  generalize upd H t (.lst []) = H1 at ts1 ht1 s1 ⊢
  refine ⟨_, rfl, _, rfl, _, rfl, o, _, 1, _, rfl, rfl, SqT.of ts1.o, rfl, _, rfl, _, rfl, p, _, 1, _, rfl, rfl, SqT.of ts1.p, rfl, y, _, i, _, j, rfl, ts.yd, ts.yz, sw, sv, wz, vz, hi, hj, fun H2 s2 => ?_⟩
  have ts2 := ts1.ts (TSame.of s2)
  have ht2 := s2 _ _ ht1
  have s02 := s1.trans s2
  refine ⟨_, rfl, ite2 (fun z => ?_) (fun z => ?_)⟩
  · refine ⟨_, rfl, .inl ⟨rfl, _, SqL.of ht2⟩, _, rfl, _, rfl, o, p, _, _, rfl, rfl, SqT.of ts2.o, SqT.of ts2.p, by simp, by show 4 ≤ sizeLine; decide, (fun e => by simp at e), fun _ a1 n1 => ?_⟩
    refine ⟨by show 2 ≤ sizeLine; decide, fun a2 n2 => ?_⟩
    have sa := (Same.upd (o := .tup [.int c, .int i, .int d, .int j]) n1).trans (Same.upd (o := .tup [.int 0, .str (S sAcross)]) n2)
    refine ⟨a1, a2, _, _, rfl, rfl, SqT.of ((Same.upd n2) _ _ upd_same), SqT.of upd_same, by simp, by show 6 ≤ sizeLine; decide, (fun e => by simp at e), fun _ a3 n3 => ?_⟩
    have ha3 : t ≠ a3 := ne_of_none (sa _ _ ht2) n3
    refine ⟨t, _, _, rfl, rfl, by rw [upd_ne ha3]; exact sa _ _ ht2, by show 0 < sizeLine; decide, ?_⟩
    obtain ⟨k1, k2, k3, ht4⟩ := put_fa (L := []) (x := ⟨c, i, d, j, 0, sAcross⟩) ht2 (FaAll.nil _) sa n3
    have ts4 := ts2.ts k2
    have s4 := k3 _ nt s02
    have m4 : ([] ++ [⟨a3, ⟨c, i, d, j, 0, sAcross⟩⟩] : List Fa).map Fa.x = if mAc y (ws.getD c []) (ws.getD d []) i j = true then [⟨c, i, d, j, 0, sAcross⟩] else [] := by rw [if_pos z]; rfl
    have l4 : ([] ++ [⟨a3, ⟨c, i, d, j, 0, sAcross⟩⟩] : List Fa).length ≤ 1 := Nat.le_refl _
    refine ⟨_, rfl, _, rfl, _, rfl, o, _, 1, _, rfl, rfl, SqT.of ts4.o, rfl, _, rfl, _, rfl, p, _, 1, _, rfl, rfl, SqT.of ts4.p, rfl, y, _, i, _, j, rfl, ts.yd, ts.yz, sw.iny, sv.iny, wz, vz, hi, hj, ?_⟩
    refine ⟨_, rfl, _, _, rfl, rfl, _, rfl, ite2 (fun z2 => ?_) (fun z2 => ?_)⟩
    · have hm : 0 < mAl y (ws.getD c []) (ws.getD d []) i j := Int.ofNat_lt.mp (of_decide_eq_true z2)
      refine ⟨_, rfl, .inl ⟨rfl, _, SqL.of ht4⟩, _, rfl, _, rfl, o, p, _, _, rfl, rfl, SqT.of ts4.o, SqT.of ts4.p, by simp, by show 4 ≤ sizeLine; decide, (fun e => by simp at e), fun _ b1 nb1 => ?_⟩
      refine ⟨_, rfl, by show 2 ≤ sizeLine; decide, fun b2 nb2 => ?_⟩
      have sb := (Same.upd (o := .tup [.int c, .int i, .int d, .int j]) nb1).trans (Same.upd (o := .tup [.int (mAl y (ws.getD c []) (ws.getD d []) i j), .str (S sAlong)]) nb2)
      refine ⟨b1, b2, _, _, rfl, rfl, SqT.of ((Same.upd nb2) _ _ upd_same), SqT.of upd_same, by simp, by show 6 ≤ sizeLine; decide, (fun e => by simp at e), fun _ b3 nb3 => ?_⟩
      have hb3 : t ≠ b3 := ne_of_none (sb _ _ ht4) nb3
      refine ⟨t, fav ([] ++ [⟨a3, ⟨c, i, d, j, 0, sAcross⟩⟩]), _, rfl, rfl, by rw [upd_ne hb3]; exact sb _ _ ht4, by rw [fav_len]; omega, ?_⟩
      obtain ⟨k1, k2, k3, k4⟩ := put_fa (x := ⟨c, i, d, j, mAl y (ws.getD c []) (ws.getD d []) i j, sAlong⟩) ht4 k1 sb nb3
      refine ⟨_, rfl, q t _ _ nt k4 k1 ?_ (k3 _ nt s4)⟩
      rw [List.map_append, m4]
      unfold fonw
      rw [if_pos hm]
      rfl
    · have hm : ¬ 0 < mAl y (ws.getD c []) (ws.getD d []) i j := fun g => z2 (decide_eq_true (Int.ofNat_lt.mpr g))
      refine ⟨_, rfl, q t _ _ nt ht4 k1 ?_ s4⟩
      rw [m4]
      unfold fonw
      rw [if_neg hm, List.append_nil]
  · have m2 : ([] : List Fa).map Fa.x = if mAc y (ws.getD c []) (ws.getD d []) i j = true then [⟨c, i, d, j, 0, sAcross⟩] else [] := by rw [if_neg z]; rfl
    have l2 : ([] : List Fa).length ≤ 1 := Nat.zero_le _
    have ht2 : H2 t = some (.lst (fav [])) := ht2
    have k1 := FaAll.nil H2
    refine ⟨_, rfl, _, rfl, _, rfl, o, _, 1, _, rfl, rfl, SqT.of ts2.o, rfl, _, rfl, _, rfl, p, _, 1, _, rfl, rfl, SqT.of ts2.p, rfl, y, _, i, _, j, rfl, ts.yd, ts.yz, sw.iny, sv.iny, wz, vz, hi, hj, ?_⟩
    refine ⟨_, rfl, _, _, rfl, rfl, _, rfl, ite2 (fun z2 => ?_) (fun z2 => ?_)⟩
    · have hm : 0 < mAl y (ws.getD c []) (ws.getD d []) i j := Int.ofNat_lt.mp (of_decide_eq_true z2)
      refine ⟨_, rfl, .inl ⟨rfl, _, SqL.of ht2⟩, _, rfl, _, rfl, o, p, _, _, rfl, rfl, SqT.of ts2.o, SqT.of ts2.p, by simp, by show 4 ≤ sizeLine; decide, (fun e => by simp at e), fun _ b1 nb1 => ?_⟩
      refine ⟨_, rfl, by show 2 ≤ sizeLine; decide, fun b2 nb2 => ?_⟩
      have sb := (Same.upd (o := .tup [.int c, .int i, .int d, .int j]) nb1).trans (Same.upd (o := .tup [.int (mAl y (ws.getD c []) (ws.getD d []) i j), .str (S sAlong)]) nb2)
      refine ⟨b1, b2, _, _, rfl, rfl, SqT.of ((Same.upd nb2) _ _ upd_same), SqT.of upd_same, by simp, by show 6 ≤ sizeLine; decide, (fun e => by simp at e), fun _ b3 nb3 => ?_⟩
      have hb3 : t ≠ b3 := ne_of_none (sb _ _ ht2) nb3
      refine ⟨t, fav [], _, rfl, rfl, by rw [upd_ne hb3]; exact sb _ _ ht2, by rw [fav_len]; omega, ?_⟩
      obtain ⟨k1, k2, k3, k4⟩ := put_fa (x := ⟨c, i, d, j, mAl y (ws.getD c []) (ws.getD d []) i j, sAlong⟩) ht2 k1 sb nb3
      refine ⟨_, rfl, q t _ _ nt k4 k1 ?_ (k3 _ nt s02)⟩
      rw [List.map_append, m2]
      unfold fonw
      rw [if_pos hm]
      rfl
    · have hm : ¬ 0 < mAl y (ws.getD c []) (ws.getD d []) i j := fun g => z2 (decide_eq_true (Int.ofNat_lt.mpr g))
      refine ⟨_, rfl, q t _ _ nt ht2 k1 ?_ s02⟩
      rw [m2]
      unfold fonw
      rw [if_neg hm, List.append_nil]
/-- names: 0 yard, 1 words, 2 backs, 3 one, 4 other, 5 word, 6 back, 7 many, 8 turn -/
theorem ok_forced_against (T : Txt K mg f0 f1 f2 f3 f4 f5 f6 f7 f8 f9 f10 f11 f12 f13 f14 f15 f16 f17 f18 f19 f20 f21 f22 f23 f24 f25 f26 f27 f28 f29 d0 d1 d2 d3 d4 d5 d6 d7 d8 d9 d10 d11 d12 d13 d14 d15 d16 d17 d18 d19 d20 d21 d22 d23 d24 d25 d26 d27 d28 d29) : FnOk P w K mg base CX0 4 f9 d9 ["yard", "words", "backs", "one", "other"] (sp_forced_against K) := by
  have G_letters_along := ok_letters_along (P := P) (w := w) (base := base) T
  refine T.F9.fn.ok sc_forced_against (fun vs H Q E h => len_forced_against h) (fun cdv A outer s H vs Q E hr h => ?_)
  refine ⟨_, (pss_cons (ps_set (i := 5) sc_forced_against.nd rfl (Or.inl rfl) (pe_ix (ix_tupK K rfl) (pv 1) (pe_ix (ix_tupK K rfl) (pv 3) pe_int (fun _ _ => rfl)) (fun _ _ => rfl)))
      (pss_cons (ps_set (i := 6) sc_forced_against.nd rfl (Or.inl rfl) (pe_ix (ix_listK K rfl) (pv 2) (pe_ix (ix_tupK K rfl) (pv 4) pe_int (fun _ _ => rfl)) (fun _ _ => rfl)))
      (pss_cons (ps_set (i := 7) sc_forced_against.nd rfl (Or.inl rfl) (pe_call G_letters_along (hr.mono (by decide)) rfl T.F7.mg T.F7.fn.kp T.F7.bd .nil pass0 (pa_cons (pv 0) (pa_cons (pv 5) (pa_cons (pe_ix (ix_tupK K rfl) (pv 3) pe_int (fun _ _ => rfl)) (pa_cons (pv 6) (pa_cons (pe_op op_sub (pe_op op_sub (pe_callB call_lenS rfl T.z_len PySem.boot_len (pa_cons (pv 6) pa_nil)) pe_int) (pe_ix (ix_tupK K rfl) (pv 4) pe_int (fun _ _ => rfl))) pa_nil)))))))
      (pss_cons (ps_set (i := 8) sc_forced_against.nd rfl (Or.inl rfl) (pe_tup (pa_cons (pe_op op_mod (pe_op op_add (pe_op op_sub (pe_ix (ix_tupK K rfl) (pv 4) pe_int (fun _ _ => rfl)) (pv 7)) pe_int) (pe_callB call_lenS rfl T.z_len PySem.boot_len (pa_cons (pv 5) pa_nil))) (pa_cons (pe_op op_mod (pe_op op_sub (pe_op op_add (pe_ix (ix_tupK K rfl) (pv 3) pe_int (fun _ _ => rfl)) (pv 7)) pe_int) (pe_callB call_lenS rfl T.z_len PySem.boot_len (pa_cons (pv 5) pa_nil))) pa_nil))))
      (pss_cons (ps_if (PW.pt (pw_or (pt_cmpR op_eqI (pv 7) pe_int (nomark _)) (pw_or1 (PW.pt (pw_and (pt_cmpR op_eqI (pe_ix (ix_tupK K rfl) (pv 3) pe_int (fun _ _ => rfl)) (pe_ix (ix_tupK K rfl) (pv 4) pe_int (fun _ _ => rfl)) (nomark _)) (pw_and1 (pt_cmpR (op_ltP K rfl hr) (pv 8) (pe_tup (pa_cons (pe_ix (ix_tupK K rfl) (pv 3) pe_int (fun _ _ => rfl)) (pa_cons (pe_ix (ix_tupK K rfl) (pv 4) pe_int (fun _ _ => rfl)) pa_nil))) (nomark _)))))))) (pss_one (ps_ret (pe_lst pa_nil))) pss_nil)
      (pss_one (ps_ret (pe_lst (pa_cons (pe_op (op_catTK K rfl) (pe_op (op_catTK K rfl) (pv 3) (pv 4)) (pe_tup (pa_cons (pv 7) (pa_cons (pe_S [97, 103, 97, 105, 110, 115, 116] (by decide +kernel)) pa_nil)))) pa_nil))))))))), ?_⟩
  obtain ⟨y, wt, ws, bk, o, p, c, i, d, j, rfl, ts, hb, q⟩ := h
  have hs : (100000 : Nat) < sizeLine := by decide
  obtain ⟨sw, wz⟩ := ts.w
  obtain ⟨sv, vz⟩ := ts.v
  have hi := ts.hi
  have hj := ts.hj
  have hlt := tnd_len (ws.getD d [])
  have hiny : ∀ e ∈ tnd (ws.getD d []), e ∈ y := (sv.tnd ts.yd).iny
  have em : al y (sq (ws.getD c []) i) (sq (tnd (ws.getD d [])) (((ws.getD d []).length - 1 - j : Nat) : Int)) ((ws.getD c []).length + (tnd (ws.getD d [])).length) = mAg y (ws.getD c []) (ws.getD d []) i j := by
    unfold mAg
    rw [hlt, show (((ws.getD d []).length - 1 - j : Nat) : Int) = ((ws.getD d []).length : Int) - 1 - j by omega, sq_tnd sv.ne]
  refine ⟨_, rfl, _, rfl, o, _, 0, _, rfl, rfl, SqT.of ts.o, rfl, wt, _, _, _, rfl, rfl, SqT.of ts.wt, atI_nat (getD_at ts.hc), ?_⟩
  refine ⟨_, rfl, _, rfl, p, _, 0, _, rfl, rfl, SqT.of ts.p, rfl, bk, _, _, _, rfl, rfl, SqL.of hb, atI_nat (getD_tnd ts.hd), ?_⟩
  have pw : (0 : Int) < ((ws.getD c []).length : Int) := by omega
  have two : ∀ H' : Hp, TSame H H' → TwoS H' y wt ws o p c i d j := fun H' t => ts.ts t
  generalize ws.getD c [] = w at *
  generalize ws.getD d [] = v at *
  refine ⟨_, rfl, _, rfl, _, rfl, o, _, 1, _, rfl, rfl, SqT.of ts.o, rfl, _, rfl, _, rfl, _, rfl, by omega, _, _, rfl, rfl, _, rfl, p, _, 1, _, rfl, rfl, SqT.of ts.p, rfl, _, _, rfl, rfl, ?_⟩
  refine ⟨y, w, i, tnd v, v.length - 1 - j, by show [_, _, _, _, V.int (((tnd v).length : Int) - 1 - (j : Int))] = _; rw [show (((tnd v).length : Int) - 1 - (j : Int)) = ((v.length - 1 - j : Nat) : Int) by omega], ts.yd, ts.yz, sw.iny, hiny, wz, by omega, hi, by omega, ?_⟩
  rw [em]
  have mz : mAg y w v i j ≤ 1000 := by
    have : mAg y w v i j ≤ w.length + v.length := al_le _ _ _ _
    omega
  unfold fag at q
  unfold tBack at q
  generalize hm : mAg y w v i j = m at q mz ⊢
  refine ⟨_, rfl, p, _, 1, _, rfl, rfl, SqT.of ts.p, rfl, _, rfl, _, _, rfl, rfl, _, _, rfl, rfl, _, rfl, w, rfl, by omega, _, _, rfl, rfl, pw, ?_⟩
  refine ⟨_, rfl, o, _, 1, _, rfl, rfl, SqT.of ts.o, rfl, _, rfl, _, _, rfl, rfl, _, _, rfl, rfl, _, rfl, w, rfl, by omega, _, _, rfl, rfl, pw, by show 2 ≤ sizeLine; decide, fun u nu => ?_⟩
  have su := Same.upd (o := .tup [.int (((j : Int) - m + 1) % w.length), .int (((i : Int) + m - 1) % w.length)]) nu
  have hu : upd H u (.tup [.int (((j : Int) - m + 1) % w.length), .int (((i : Int) + m - 1) % w.length)]) u = some (.tup [.int (((j : Int) - m + 1) % w.length), .int (((i : Int) + m - 1) % w.length)]) := upd_same
  generalize upd H u (.tup [.int (((j : Int) - m + 1) % w.length), .int (((i : Int) + m - 1) % w.length)]) = H1 at su hu ⊢
  have ts1 := two _ (TSame.of su)
  refine ⟨_, rfl, _, _, rfl, rfl, _, rfl, ite2 (fun z => ?_) (fun z => ?_)⟩
  · have e : m = 0 := by have := of_decide_eq_true z; omega
    refine iteT ?_
    refine ⟨Nat.zero_le _, fun l nl => ?_⟩
    rw [if_pos (.inl e)] at q
    exact q l [] _ (Same.free su nl) upd_same (FaAll.nil _) rfl (su.trans (Same.upd nl))
  · have e : m ≠ 0 := fun g => z (decide_eq_true (by rw [g]; rfl))
    refine ⟨_, rfl, o, _, 0, _, rfl, rfl, SqT.of ts1.o, rfl, _, rfl, p, _, 0, _, rfl, rfl, SqT.of ts1.p, rfl, _, _, rfl, rfl, _, rfl, ite2 (fun z2 => ?_) (fun z2 => ?_)⟩
    · have e2 : c = d := by have := of_decide_eq_true z2; omega
      refine ⟨_, rfl, _, rfl, o, _, 1, _, rfl, rfl, SqT.of ts1.o, rfl, _, rfl, p, _, 1, _, rfl, rfl, SqT.of ts1.p, rfl, by show 2 ≤ sizeLine; decide, fun r nr => ?_⟩
      have sr := su.trans (Same.upd (o := .tup [.int i, .int j]) nr)
      have ts2 := two _ (TSame.of sr)
      refine ⟨u, r, _, _, _, _, rfl, rfl, SqT.of ((Same.upd nr) _ _ hu), SqT.of upd_same, _, rfl, ite2 (fun z3 => ?_) (fun z3 => ?_)⟩
      · refine ⟨Nat.zero_le _, fun l nl => ?_⟩
        rw [if_pos (.inr ⟨e2, z3⟩)] at q
        exact q l [] _ (Same.free sr nl) upd_same (FaAll.nil _) rfl (sr.trans (Same.upd nl))
      · rw [if_neg (fun g => g.elim e fun g => z3 g.2)] at q
        refine ⟨_, rfl, _, rfl, o, p, _, _, rfl, rfl, SqT.of ts2.o, SqT.of ts2.p, by simp, by show 4 ≤ sizeLine; decide, (fun e => by simp at e), fun _ b1 nb1 => ?_⟩
        refine ⟨_, rfl, by show 2 ≤ sizeLine; decide, fun b2 nb2 => ?_⟩
        have sb := (Same.upd (o := .tup [.int c, .int i, .int d, .int j]) nb1).trans (Same.upd (o := .tup [.int m, .str (S sAgainst)]) nb2)
        refine ⟨b1, b2, _, _, rfl, rfl, SqT.of ((Same.upd nb2) _ _ upd_same), SqT.of upd_same, by simp, by show 6 ≤ sizeLine; decide, (fun e => by simp at e), fun _ b3 nb3 => ?_⟩
        refine ⟨by show 1 ≤ sizeLine; decide, fun l nl => ?_⟩
        have sc := sb.trans (Same.upd (o := .tup (fmV ⟨c, i, d, j, m, sAgainst⟩)) nb3)
        have sl := sr.trans (sc.trans (Same.upd (o := .lst (fav [⟨b3, ⟨c, i, d, j, m, sAgainst⟩⟩])) nl))
        refine q l [⟨b3, ⟨c, i, d, j, m, sAgainst⟩⟩] _ (Same.free sr (Same.free sc nl)) upd_same (fun k hk => ?_) rfl sl
        rw [List.mem_singleton.mp hk]
        exact (Same.upd nl) _ _ upd_same
    · have e2 : c ≠ d := fun g => z2 (decide_eq_true (by rw [g]))
      rw [if_neg (fun g => g.elim e fun g => e2 g.1)] at q
      refine iteF ?_
      refine ⟨_, rfl, _, rfl, o, p, _, _, rfl, rfl, SqT.of ts1.o, SqT.of ts1.p, by simp, by show 4 ≤ sizeLine; decide, (fun e => by simp at e), fun _ b1 nb1 => ?_⟩
      refine ⟨_, rfl, by show 2 ≤ sizeLine; decide, fun b2 nb2 => ?_⟩
      have sb := (Same.upd (o := .tup [.int c, .int i, .int d, .int j]) nb1).trans (Same.upd (o := .tup [.int m, .str (S sAgainst)]) nb2)
      refine ⟨b1, b2, _, _, rfl, rfl, SqT.of ((Same.upd nb2) _ _ upd_same), SqT.of upd_same, by simp, by show 6 ≤ sizeLine; decide, (fun e => by simp at e), fun _ b3 nb3 => ?_⟩
      refine ⟨by show 1 ≤ sizeLine; decide, fun l nl => ?_⟩
      have sc := sb.trans (Same.upd (o := .tup (fmV ⟨c, i, d, j, m, sAgainst⟩)) nb3)
      have sl := su.trans (sc.trans (Same.upd (o := .lst (fav [⟨b3, ⟨c, i, d, j, m, sAgainst⟩⟩])) nl))
      refine q l [⟨b3, ⟨c, i, d, j, m, sAgainst⟩⟩] _ (Same.free su (Same.free sc nl)) upd_same (fun k hk => ?_) rfl sl
      rw [List.mem_singleton.mp hk]
      exact (Same.upd nl) _ _ upd_same
/-- names: 0 yard, 1 words, 2 backs, 3 one, 4 other, 5 told -/
theorem ok_forced_at (T : Txt K mg f0 f1 f2 f3 f4 f5 f6 f7 f8 f9 f10 f11 f12 f13 f14 f15 f16 f17 f18 f19 f20 f21 f22 f23 f24 f25 f26 f27 f28 f29 d0 d1 d2 d3 d4 d5 d6 d7 d8 d9 d10 d11 d12 d13 d14 d15 d16 d17 d18 d19 d20 d21 d22 d23 d24 d25 d26 d27 d28 d29) : FnOk P w K mg base CX0 5 f10 d10 ["yard", "words", "backs", "one", "other"] (sp_forced_at K) := by
  have G_forced_onward := ok_forced_onward (P := P) (w := w) (base := base) T
  have G_forced_against := ok_forced_against (P := P) (w := w) (base := base) T
  refine T.F10.fn.ok sc_forced_at (fun vs H Q E h => len_forced_at h) (fun cdv A outer s H vs Q E hr h => ?_)
  refine ⟨_, (pss_cons (ps_set (i := 5) sc_forced_at.nd rfl (Or.inl rfl) (pe_lst pa_nil))
      (pss_cons (ps_if (pt_cmpR (op_ltP K rfl hr) (pv 3) (pv 4) (nomark _)) (pss_one (ps_expr (pe_bmK K rfl PySem.F.plainAttrs_list PySem.F.slot_list_extend PySem.F.type_list_extend mt_extend (pv 5) (pa_cons (pe_call G_forced_onward (hr.mono (by decide)) rfl T.F8.mg T.F8.fn.kp T.F8.bd .nil pass0 (pa_cons (pv 0) (pa_cons (pv 1) (pa_cons (pv 3) (pa_cons (pv 4) pa_nil))))) pa_nil)))) pss_nil)
      (pss_cons (ps_if (pt_cmpR op_le (pe_ix (ix_tupK K rfl) (pv 3) pe_int (fun _ _ => rfl)) (pe_ix (ix_tupK K rfl) (pv 4) pe_int (fun _ _ => rfl)) (nomark _)) (pss_one (ps_expr (pe_bmK K rfl PySem.F.plainAttrs_list PySem.F.slot_list_extend PySem.F.type_list_extend mt_extend (pv 5) (pa_cons (pe_call G_forced_against (hr.mono (by decide)) rfl T.F9.mg T.F9.fn.kp T.F9.bd .nil pass0 (pa_cons (pv 0) (pa_cons (pv 1) (pa_cons (pv 2) (pa_cons (pv 3) (pa_cons (pv 4) pa_nil)))))) pa_nil)))) pss_nil)
      (pss_one (ps_ret (pv 5)))))), ?_⟩
  obtain ⟨y, wt, ws, bk, o, p, c, i, d, j, rfl, ts, hb, q⟩ := h
  have hs : (100000 : Nat) < sizeLine := by decide
  walk_at "wk"
  intro t nt
  have s1 := Same.upd (o := .lst []) nt
  have ts1 := ts.ts (TSame.of s1)
  have hb1 := s1 _ _ hb
  have ht1 : upd H t (.lst []) t = some (.lst []) := upd_same
  generalize upd H t (.lst []) = H1 at s1 ts1 hb1 ht1 ⊢
  refine ⟨_, rfl, _, rfl, o, p, _, _, _, _, rfl, rfl, SqT.of ts1.o, SqT.of ts1.p, _, rfl, ite2 (fun z => ?_) (fun z => ?_)⟩
  · refine ⟨_, rfl, .inl ⟨rfl, _, SqL.of ht1⟩, _, rfl, _, rfl, _, rfl, _, rfl, y, wt, ws, o, p, c, i, d, j, rfl, ts1, fun r L H2 nr hr2 hL hx s2 => ?_⟩
    have l2 := fonw_few y (ws.getD c []) (ws.getD d []) c i d j
    rw [← fa_len hx] at l2
    refine ⟨t, r, fav [], fav L, rfl, rfl, s2 _ _ ht1, hr2, by rw [fav_len, fav_len]; show 0 + _ ≤ _; omega, ?_⟩
    obtain ⟨k1, k2, k3, ht3⟩ := ext_fa (L := []) (s2 _ _ ht1) (FaAll.nil _) hL
    have s3 := k3 _ nt (s1.trans s2)
    have ts3 := (ts1.ts (TSame.of s2)).ts k2
    have hb3 := s3 _ _ hb
    have m3 : ([] ++ L).map Fa.x = if ltP c i d j = true then fonw y (ws.getD c []) (ws.getD d []) c i d j else [] := by rw [if_pos z]; exact hx
    have l3 : ([] ++ L).length ≤ 2 := l2
    refine ⟨_, rfl, o, _, 0, _, rfl, rfl, SqT.of ts3.o, rfl, _, rfl, p, _, 0, _, rfl, rfl, SqT.of ts3.p, rfl, _, _, rfl, rfl, _, rfl, ite2 (fun z2 => ?_) (fun z2 => ?_)⟩
    · have e2 : c ≤ d := by have := of_decide_eq_true z2; omega
      refine ⟨_, rfl, .inl ⟨rfl, _, SqL.of ht3⟩, _, rfl, _, rfl, _, rfl, _, rfl, _, rfl, y, wt, ws, bk, o, p, c, i, d, j, rfl, ts3, hb3, fun r2 L2 H4 nr4 hr4 hL4 hx4 s4 => ?_⟩
      have l4 := fag_few y (ws.getD c []) (ws.getD d []) c i d j
      rw [← fa_len hx4] at l4
      refine ⟨t, r2, fav ([] ++ L), fav L2, rfl, rfl, s4 _ _ ht3, hr4, by rw [fav_len, fav_len]; omega, ?_⟩
      obtain ⟨k1, k2, k3, k4⟩ := ext_fa (s4 _ _ ht3) (k1.ts (TSame.of s4)) hL4
      refine ⟨_, rfl, q t _ _ nt k4 k1 ?_ (k3 _ nt (s3.trans s4))⟩
      rw [List.map_append, m3, hx4]
      unfold fat
      rw [if_pos e2]
    · have e2 : ¬ c ≤ d := fun g => z2 (decide_eq_true (by omega))
      refine ⟨_, rfl, q t _ _ nt ht3 k1 ?_ s3⟩
      rw [m3]
      unfold fat
      rw [if_neg e2, List.append_nil]
  · have m3 : ([] : List Fa).map Fa.x = if ltP c i d j = true then fonw y (ws.getD c []) (ws.getD d []) c i d j else [] := by rw [if_neg z]; rfl
    have l3 : ([] : List Fa).length ≤ 2 := Nat.zero_le _
    have k1 := FaAll.nil H1
    have ht1 : H1 t = some (.lst (fav [])) := ht1
    refine ⟨_, rfl, o, _, 0, _, rfl, rfl, SqT.of ts1.o, rfl, _, rfl, p, _, 0, _, rfl, rfl, SqT.of ts1.p, rfl, _, _, rfl, rfl, _, rfl, ite2 (fun z2 => ?_) (fun z2 => ?_)⟩
    · have e2 : c ≤ d := by have := of_decide_eq_true z2; omega
      refine ⟨_, rfl, .inl ⟨rfl, _, SqL.of ht1⟩, _, rfl, _, rfl, _, rfl, _, rfl, _, rfl, y, wt, ws, bk, o, p, c, i, d, j, rfl, ts1, hb1, fun r2 L2 H4 nr4 hr4 hL4 hx4 s4 => ?_⟩
      have l4 := fag_few y (ws.getD c []) (ws.getD d []) c i d j
      rw [← fa_len hx4] at l4
      refine ⟨t, r2, fav [], fav L2, rfl, rfl, s4 _ _ ht1, hr4, by rw [fav_len, fav_len]; omega, ?_⟩
      obtain ⟨k1, k2, k3, k4⟩ := ext_fa (s4 _ _ ht1) (k1.ts (TSame.of s4)) hL4
      refine ⟨_, rfl, q t _ _ nt k4 k1 ?_ (k3 _ nt (s1.trans s4))⟩
      rw [List.map_append, m3, hx4]
      unfold fat
      rw [if_pos e2]
    · have e2 : ¬ c ≤ d := fun g => z2 (decide_eq_true (by omega))
      refine ⟨_, rfl, q t _ _ nt ht1 k1 ?_ s1⟩
      rw [m3]
      unfold fat
      rw [if_neg e2, List.append_nil]
/-- names: 0 yard, 1 words, 2 thing, 3 backs -/
theorem ok_is_forced (T : Txt K mg f0 f1 f2 f3 f4 f5 f6 f7 f8 f9 f10 f11 f12 f13 f14 f15 f16 f17 f18 f19 f20 f21 f22 f23 f24 f25 f26 f27 f28 f29 d0 d1 d2 d3 d4 d5 d6 d7 d8 d9 d10 d11 d12 d13 d14 d15 d16 d17 d18 d19 d20 d21 d22 d23 d24 d25 d26 d27 d28 d29) : FnOk P w K mg base CX0 6 f12 d12 ["yard", "words", "thing"] (sp_is_forced K) := by
  have G_is_strand := ok_is_strand (P := P) (w := w) (base := base) T
  have G_turned := ok_turned (P := P) (w := w) (base := base) T
  have G_forced_at := ok_forced_at (P := P) (w := w) (base := base) T
  refine T.F12.fn.ok sc_is_forced (fun vs H Q E h => len_is_forced h) (fun cdv A outer s H vs Q E hr h => ?_)
  refine ⟨_, (pss_cons (ps_if (PW.pt (pw_or (pt_not (pt_val (pe_call G_is_strand (hr.mono (by decide)) rfl T.F11.mg T.F11.fn.kp T.F11.bd .nil pass0 (pa_cons (pv 1) (pa_cons (pe_ix (ix_tupK K rfl) (pv 2) pe_int (fun _ _ => rfl)) (pa_cons (pe_ix (ix_tupK K rfl) (pv 2) pe_int (fun _ _ => rfl)) pa_nil)))))) (pw_or1 (pt_not (pt_val (pe_call G_is_strand (hr.mono (by decide)) rfl T.F11.mg T.F11.fn.kp T.F11.bd .nil pass0 (pa_cons (pv 1) (pa_cons (pe_ix (ix_tupK K rfl) (pv 2) pe_int (fun _ _ => rfl)) (pa_cons (pe_ix (ix_tupK K rfl) (pv 2) pe_int (fun _ _ => rfl)) pa_nil))))))))) (pss_one (ps_ret pe_bl)) pss_nil)
      (pss_cons (ps_setCB (i := 3) ["word"] [none] sc_is_forced.nd rfl (Or.inl rfl) (pi_tupK K rfl (pv 1)) trivial (fun _ _ _ _ => (pg_name (i := 0) (by decide +kernel : List.Nodup (["word"] : List Str)) rfl (Or.inl rfl))) (fun _ _ _ _ => pf_nil) (fun _ _ _ _ => (pe_call G_turned (hr.mono (by decide)) rfl T.F1.mg T.F1.fn.kp T.F1.bd .nil pass0 (pa_cons (pv 0) pa_nil))))
      (pss_one (ps_ret (pe_cmpR (op_inD K rfl hr) (pv 2) (pe_call G_forced_at (hr.mono (by decide)) rfl T.F10.mg T.F10.fn.kp T.F10.bd .nil pass0 (pa_cons (pv 0) (pa_cons (pv 1) (pa_cons (pv 3) (pa_cons (pe_tup (pa_cons (pe_ix (ix_tupK K rfl) (pv 2) pe_int (fun _ _ => rfl)) (pa_cons (pe_ix (ix_tupK K rfl) (pv 2) pe_int (fun _ _ => rfl)) pa_nil))) (pa_cons (pe_tup (pa_cons (pe_ix (ix_tupK K rfl) (pv 2) pe_int (fun _ _ => rfl)) (pa_cons (pe_ix (ix_tupK K rfl) (pv 2) pe_int (fun _ _ => rfl)) pa_nil))) pa_nil)))))) (by with_unfolding_all rfl)))))), ?_⟩
  obtain ⟨y, wt, ws, ⟨t, c, i, d, j, m, w⟩, rfl, hy, hz, ok, hw, hg, q⟩ := h
  have hs : (100000 : Nat) < sizeLine := by decide
  have ht : H t = some (.tup [.int c, .int i, .int d, .int j, .int m, .str (S w)]) := hg.at_
  have hl12 : ∀ w ∈ ws, w.length ≤ 12 := fun w h => (ok.sw w h).2
  have hfew := ok.few
  have key0 : ¬ (isS ws c i = true ∧ isS ws d j = true) → Q (.bl false) H := fun n => by
    have := q H (Same.refl _)
    rw [none_fall (g := ⟨t, c, i, d, j, m, w⟩) n] at this
    exact this
  refine ⟨_, rfl, _, rfl, t, _, 0, _, rfl, rfl, SqT.of ht, rfl, _, rfl, t, _, 1, _, rfl, rfl, SqT.of ht, rfl, wt, ws, c, i, rfl, hw, hfew, hl12, _, rfl, ite2 (fun z1 => ?_) (fun z1 => ?_)⟩
  · exact iteT (key0 fun n => by rw [n.1] at z1; cases z1)
  refine ⟨_, rfl, _, rfl, t, _, 2, _, rfl, rfl, SqT.of ht, rfl, _, rfl, t, _, 3, _, rfl, rfl, SqT.of ht, rfl, wt, ws, d, j, rfl, hw, hfew, hl12, _, rfl, ite2 (fun z2 => ?_) (fun z2 => ?_)⟩
  · exact key0 fun n => by rw [n.2] at z2; cases z2
  have e1 : isS ws c i = true := by simpa using z1
  have e2 : isS ws d j = true := by simpa using z2
  obtain ⟨a, b, rfl, rfl, h5, h6⟩ := isS_iff.mp e1
  obtain ⟨a', b', rfl, rfl, h7, h8⟩ := isS_iff.mp e2
  refine ⟨_, rfl, wt, rfl, ⟨_, SqT.of hw⟩, ?_⟩
  refine comp_tup (K := K) (a := wt) (xs := txs ws) (fun n acc H' => Same H H' ∧ acc = txs ((ws.take n).map tnd)) (by rw [txs_len]; omega) (fun n acc H' h => SqT.of (h.1 _ _ hw)) ⟨Same.refl _, rfl⟩ ?_ ?_
  · rintro n x acc H1 Nx hn hx hal ⟨s1, rfl⟩ nx
    rw [txs_len] at hn
    rw [txs_at hn] at hx
    cases hx
    obtain ⟨w1, w2⟩ := ok.sw _ (List.getElem_mem hn)
    refine ⟨trivial, yes_ite ?_⟩
    refine ⟨_, rfl, ws[n], rfl, lt128 fun c hc => hy.lt c (w1.iny c hc), by omega, fun H2 s2 => ?_⟩
    refine nx _ _ (by simpa using hal) ⟨s1.trans s2, ?_⟩
    rw [txs_snoc, ← take_snoc (List.getElem?_eq_getElem hn), List.map_append]
    rfl
  rintro acc H1 bk hal ⟨s1, rfl⟩ hbk
  rw [txs_len, List.take_length]
  have s2 := s1.trans (Same.upd (o := .lst (txs (ws.map tnd))) hbk)
  have hb2 : upd H1 bk (.lst (txs (ws.map tnd))) bk = some (.lst (txs (ws.map tnd))) := upd_same
  generalize upd H1 bk (.lst (txs (ws.map tnd))) = H2 at s2 hb2 ⊢
  have ht2 := s2 _ _ ht
  refine ⟨_, rfl, _, rfl, _, rfl, _, rfl, _, rfl, t, _, 0, _, rfl, rfl, SqT.of ht2, rfl, _, rfl, t, _, 1, _, rfl, rfl, SqT.of ht2, rfl, by show 2 ≤ sizeLine; decide, fun o no => ?_⟩
  have s3 := Same.upd (o := .tup [.int (a : Int), .int (b : Int)]) no
  have ho3 : upd H2 o (.tup [.int (a : Int), .int (b : Int)]) o = some (.tup [.int (a : Int), .int (b : Int)]) := upd_same
  generalize upd H2 o (.tup [.int (a : Int), .int (b : Int)]) = H3 at s3 ho3 ⊢
  have ht3 := s3 _ _ ht2
  refine ⟨_, rfl, t, _, 2, _, rfl, rfl, SqT.of ht3, rfl, _, rfl, t, _, 3, _, rfl, rfl, SqT.of ht3, rfl, by show 2 ≤ sizeLine; decide, fun p np => ?_⟩
  have s4 := Same.upd (o := .tup [.int (a' : Int), .int (b' : Int)]) np
  have hp4 : upd H3 p (.tup [.int (a' : Int), .int (b' : Int)]) p = some (.tup [.int (a' : Int), .int (b' : Int)]) := upd_same
  generalize upd H3 p (.tup [.int (a' : Int), .int (b' : Int)]) = H4 at s4 hp4 ⊢
  have s04 : Same H H4 := s2.trans (s3.trans s4)
  refine ⟨y, wt, ws, bk, o, p, a, b, a', b', rfl, ⟨hy, hz, ok, s04 _ _ hw, s4 _ _ ho3, hp4, h5, h6, h7, h8⟩, s4 _ _ (s3 _ _ hb2), fun f L H5 nf hf hL hx s5 => ?_⟩
  have s05 := s04.trans s5
  have hg5 := hg.ts (TSame.of s05)
  have hxs : ∀ x ∈ L.map Fa.x, ∀ c ∈ x.t, c < 128 := fun x hx' => by
    rw [hx] at hx'
    exact small_txt (fall_small ok x (List.mem_flatMap.mpr ⟨(a, b), plc_mem.mpr ⟨h5, h6⟩, List.mem_flatMap.mpr ⟨(a', b'), plc_mem.mpr ⟨h7, h8⟩, hx'⟩⟩))
  refine ⟨_, _, hg5.rd, .lst (SqL.of hf) (rdds_fa hL), ⟨hg5.lay, lay_fms hxs⟩, tg_dep _, ?_⟩
  rw [any_map_hit, hx, any_fall (g := ⟨t, a, b, a', b', m, w⟩) rfl rfl rfl rfl h5 h6 h7 h8]
  exact q _ s05
/-- names: 0 _law_box_here, 1 _law_yard_here, 2 _law_words_here, 3 _law_due, 4 _law_turn, 5 _law_good, 6 _law_odd, 7 _law_other_here, 8 _law_thing, 9 _law_found -/
theorem ok_Lright (T : Txt K mg f0 f1 f2 f3 f4 f5 f6 f7 f8 f9 f10 f11 f12 f13 f14 f15 f16 f17 f18 f19 f20 f21 f22 f23 f24 f25 f26 f27 f28 f29 d0 d1 d2 d3 d4 d5 d6 d7 d8 d9 d10 d11 d12 d13 d14 d15 d16 d17 d18 d19 d20 d21 d22 d23 d24 d25 d26 d27 d28 d29) : FnOk P w K mg base CX0 7 f28 d28 ["_law_box_here", "_law_yard_here", "_law_words_here"] (sp_Lright K) := by
  have G_Lforced := ok_Lforced (P := P) (w := w) (base := base) T
  have G_Lanything := ok_Lanything (P := P) (w := w) (base := base) T
  have G_Ltake := ok_Ltake (P := P) (w := w) (base := base) T
  have G_Lotherwise := ok_Lotherwise (P := P) (w := w) (base := base) T
  have G_is_forced := ok_is_forced (P := P) (w := w) (base := base) T
  refine T.F28.fn.ok sc_Lright (fun vs H Q E h => len_Lright h) (fun cdv A outer s H vs Q E hr h => ?_)
  refine ⟨_, (pss_cons (ps_set (i := 3) sc_Lright.nd rfl (Or.inl rfl) (pe_call G_Lforced (hr.mono (by decide)) rfl T.F24.mg T.F24.fn.kp T.F24.bd .nil pass0 (pa_cons (pv 1) (pa_cons (pv 2) pa_nil))))
      (pss_cons (ps_for PassesOwn.never rfl (pi_range1 rfl T.z_range (pa_cons pe_int pa_nil)) (pg_name (i := 4) sc_Lright.nd rfl (Or.inl rfl)) (pss_cons (ps_set (i := 5) sc_Lright.nd rfl (Or.inl rfl) (pe_call G_Lanything (hr.mono (by decide)) rfl T.F26.mg T.F26.fn.kp T.F26.bd .nil pass0 (pa_cons (pv 0) (pa_cons (pv 2) (pa_cons (pv 3) pa_nil)))))
      (pss_cons (ps_set (i := 6) sc_Lright.nd rfl (Or.inl rfl) (pv 5))
      (pss_cons (ps_for PassesOwn.never rfl (pi_range1 rfl T.z_range (pa_cons (pe_op op_add pe_int (pe_call G_Ltake (hr.mono (by decide)) rfl T.F14.mg T.F14.fn.kp T.F14.bd .nil pass0 (pa_cons (pv 0) (pa_cons pe_int pa_nil)))) pa_nil)) (pg_name (i := 7) sc_Lright.nd rfl (Or.inl rfl)) (pss_one (ps_set (i := 6) sc_Lright.nd rfl (Or.inl rfl) (pe_call G_Lotherwise (hr.mono (by decide)) rfl T.F27.mg T.F27.fn.kp T.F27.bd .nil pass0 (pa_cons (pv 0) (pa_cons (pv 2) (pa_cons (pv 6) pa_nil)))))))
      (pss_one (ps_for PassesOwn.never rfl (pi_tupK K rfl (pe_tup (pa_cons (pv 5) (pa_cons (pv 6) (pa_cons (pv 5) pa_nil))))) (pg_name (i := 8) sc_Lright.nd rfl (Or.inl rfl)) (pss_cons (ps_set (i := 9) sc_Lright.nd rfl (Or.inl rfl) (pe_call G_is_forced (hr.mono (by decide)) rfl T.F12.mg T.F12.fn.kp T.F12.bd .nil pass0 (pa_cons (pv 1) (pa_cons (pv 2) (pa_cons (pv 8) pa_nil)))))
      (pss_one (ps_if (PW.pt (pw_or (pt_not (pt_val (pe_callB call_isBool rfl T.z_isinstance boot_isinstance (pa_cons (pv 9) (pa_cons (pe_bltn (v := .ty "bool") rfl T.z_bool boot_bool rfl) pa_nil))))) (pw_or1 (pt_cmpR op_neB (pv 9) (pe_cmpR (op_inD K rfl hr) (pv 8) (pv 3) (by with_unfolding_all rfl)) (nomark _))))) (pss_one (ps_ret pe_bl)) pss_nil)))))))))
      (pss_one (ps_ret (pe_callB (call_allK K rfl rfl) rfl T.z_all boot_all (pa_cons (pe_compB ["_law_thing", "_law_yard_here", "_law_words_here"] [none, some 1, some 2] (pi_listK K rfl (pv 3)) ⟨⟨rfl, rfl, by first | exact .inl rfl | exact .inr rfl⟩, ⟨⟨rfl, rfl, by first | exact .inl rfl | exact .inr rfl⟩, trivial⟩⟩ (fun _ _ _ _ => (pg_name (i := 0) (by decide +kernel : List.Nodup (["_law_thing", "_law_yard_here", "_law_words_here"] : List Str)) rfl (Or.inl rfl))) (fun _ _ _ _ => pf_nil) (fun _ _ _ _ => (pe_cmpR op_isB (pe_call G_is_forced (hr.mono (by decide)) rfl T.F12.mg T.F12.fn.kp T.F12.bd .nil pass0 (pa_cons (pv 1) (pa_cons (pv 2) (pa_cons (pv 0) pa_nil)))) pe_bl (nomark _)))) pa_nil)))))), ?_⟩
  obtain ⟨b, y, wt, ws, rfl, hb, hy, hz, ok, hne, hw, q⟩ := h
  have hs : (100000 : Nat) < sizeLine := by decide
  refine ⟨_, rfl, _, rfl, y, wt, ws, rfl, hy, hz, ok, hw, fun u L H1 nu hu hL hx s1 => ?_⟩
  have hb1 := hb.same s1
  have hw1 := s1 _ _ hw
  have ub : u ≠ b := hb.ne nu
  have hLl : L.length ≤ 1728 := by rw [fa_len hx]; exact fall_few ok.all
  have smd := smd_fall (y := y) ok
  rw [← hx] at smd
  have hlay : PyData.canLayAll0 ((L.map Fa.x).map fmD) = true := smd.ly
  refine ⟨6, rfl, by decide, by decide, ?_⟩
  refine for_range (fun n σ H' => ∃ (v4 v5 v6 v7 v8 v9 : Option V), σ = [some (.ref b), some (.str (S y)), some (.ref wt), some (.ref u), v4, v5, v6, v7, v8, v9] ∧ BoxAt H' b ∧ SameB b H1 H')
    ⟨none, none, none, none, none, none, rfl, hb1, SameB.refl _ _⟩ ?_ ?_
  · rintro n σ H2 hn ⟨v4, v5, v6, v7, v8, v9, rfl, hb2, s2⟩
    have ts2 := TSame.box hb1 s2
    refine ⟨_, rfl, _, rfl, _, rfl, b, y, wt, ws, u, L, rfl, hb2, ok, hne, ts2 _ _ hw1, s2 _ _ hu ub, hL.ts ts2, hx, ub, fun g H3 hg hb3 s3 => ?_⟩
    refine ⟨_, rfl, ?_⟩
    refine ⟨_, rfl, b, 2, rfl, hb3, by decide, by decide, fun r H4 hr hb4 s4 => ?_⟩
    refine ⟨_, _, rfl, rfl, _, rfl, by omega, by omega, ?_⟩
    rw [show ((1 : Int) + (r : Int)).toNat = 1 + r by omega]
    have hg4 := hg.ts (TSame.box hb3 s4)
    have s14 := s2.trans (s3.trans s4)
    refine for_range (fun k σ H' => ∃ (g2 : Tg) (w7 : Option V), σ = [some (.ref b), some (.str (S y)), some (.ref wt), some (.ref u), some (.int (0 + (n : Int))), some (.ref g.t), some (.ref g2.t), w7, v8, v9] ∧ TgOk H' g ∧ TgOk H' g2 ∧ BoxAt H' b ∧ SameB b H1 H')
      ⟨g, v7, rfl, hg4, hg4, hb4, s14⟩ ?_ ?_
    · rintro k σ H5 hk ⟨g2, w7, rfl, hg5, hg6, hb5, s5⟩
      refine ⟨_, rfl, _, rfl, _, rfl, b, y, wt, ws, g2, rfl, hb5, ok, hne, (TSame.box hb1 s5) _ _ hw1, hg6, fun g3 H6 hg7 hb6 s6 => ?_⟩
      exact ⟨g3, _, rfl, hg5.ts (TSame.box hb5 s6), hg7, hb6, s5.trans s6⟩
    rintro σ H5 ⟨g2, w7, rfl, hg5, hg6, hb5, s5⟩
    refine ⟨_, rfl, _, rfl, _, rfl, by show 3 ≤ sizeLine; decide, fun t nt => ?_⟩
    have s6 := Same.upd (o := .tup [.ref g.t, .ref g2.t, .ref g.t]) nt
    have ht6 : upd H5 t (.tup [.ref g.t, .ref g2.t, .ref g.t]) t = some (.tup [.ref g.t, .ref g2.t, .ref g.t]) := upd_same
    have hb6 := hb5.same s6
    have s16 := s5.after s6
    have hg7 := hg5.ts (TSame.of s6)
    have hg8 := hg6.ts (TSame.of s6)
    generalize upd H5 t (.tup [.ref g.t, .ref g2.t, .ref g.t]) = H6 at s6 ht6 hb6 s16 hg7 hg8 ⊢
    refine ⟨t, rfl, ⟨_, SqT.of ht6⟩, ?_⟩
    refine for_tup (K := K) (a := t) (xs := [.ref g.t, .ref g2.t, .ref g.t]) (fun k σ H' => ∃ (w8 w9 : Option V), σ = [some (.ref b), some (.str (S y)), some (.ref wt), some (.ref u), some (.int (0 + (n : Int))), some (.ref g.t), some (.ref g2.t), w7, w8, w9] ∧ Same H6 H')
      ⟨_, _, rfl, Same.refl _⟩ (fun k σ H' _ ⟨_, _, _, s⟩ => SqT.of (s _ _ ht6)) ?_ ?_
    · rintro k x σ H7 hx7 ⟨w8, w9, rfl, s7⟩
      obtain ⟨g3, rfl, hg9⟩ : ∃ g3 : Tg, x = .ref g3.t ∧ TgOk H7 g3 := by
        have hk : k < 3 := (List.getElem?_eq_some_iff.mp hx7).1
        have h3 : k = 0 ∨ k = 1 ∨ k = 2 := by omega
        rcases h3 with e | e | e <;> subst e <;> cases hx7
        · exact ⟨g, rfl, hg7.ts (TSame.of s7)⟩
        · exact ⟨g2, rfl, hg8.ts (TSame.of s7)⟩
        · exact ⟨g, rfl, hg7.ts (TSame.of s7)⟩
      have s17 := s16.after s7
      have ts17 := TSame.box hb1 s17
      refine ⟨_, rfl, _, rfl, _, rfl, y, wt, ws, g3, rfl, hy, hz, ok, ts17 _ _ hw1, hg9, fun H8 s8 => ?_⟩
      have s18 := s17.after s8
      have hg10 := hg9.ts (TSame.of s8)
      refine ⟨_, rfl, _, rfl, _, rfl, iteN rfl ?_⟩
      refine ⟨_, rfl, _, rfl, _, rfl, _, _, hg10.rd, .lst (SqL.of (s18 _ _ hu ub)) (rdds_fa (hL.ts (TSame.box hb1 s18))), ⟨hg10.lay, hlay⟩, tg_dep _, ?_⟩
      rw [any_map_hit, hx]
      refine ⟨_, _, rfl, rfl, _, rfl, iteN (by simp) ?_⟩
      exact ⟨_, _, rfl, s7.trans s8⟩
    · rintro σ H7 ⟨w8, w9, rfl, s7⟩
      exact ⟨_, _, _, _, _, _, rfl, hb6.same s7, s16.after s7⟩
  rintro σ H2 ⟨v4, v5, v6, v7, v8, v9, rfl, hb2, s2⟩
  have ts2 := TSame.box hb1 s2
  have hu2 := s2 _ _ hu ub
  have hL2 := hL.ts ts2
  refine ⟨_, rfl, u, rfl, ⟨_, SqL.of hu2⟩, ?_⟩
  refine comp_list (K := K) (a := u) (xs := fav L) (fun k acc H' => Same H2 H' ∧ acc = (List.replicate k true).map V.bl) (by rw [fav_len]; omega) (fun k acc H' h => SqL.of (h.1 _ _ hu2)) ⟨Same.refl _, rfl⟩ ?_ ?_
  · rintro k x acc H3 Nx hk hx3 hal ⟨s3, rfl⟩ nx
    rw [fav_len] at hk
    rw [fav_at hk] at hx3
    cases hx3
    have hm : L[k] ∈ L := List.getElem_mem hk
    have hg : TgOk H3 (ofFa L[k]) := ⟨s3 _ _ (hL2 _ hm), small_txt (fall_small ok L[k].x (by rw [← hx]; exact List.mem_map.mpr ⟨_, hm, rfl⟩))⟩
    refine ⟨⟨rfl, rfl, trivial⟩, yes_ite ?_⟩
    refine ⟨_, rfl, _, rfl, _, rfl, y, wt, ws, ofFa L[k], rfl, hy, hz, ok, s3 _ _ (ts2 _ _ hw1), hg, fun H4 s4 => ?_⟩
    rw [hit_self hx hm]
    refine ⟨_, _, rfl, rfl, ?_⟩
    exact nx _ _ (by simpa using hal) ⟨s3.trans s4, rep_snoc _⟩
  rintro acc H3 D hal ⟨s3, rfl⟩ hD
  refine ⟨D, List.replicate (fav L).length true, rfl, SqL.of upd_same, ?_⟩
  rw [all_rep]
  exact q _ ((hb2.same s3).same (Same.upd hD)) (((SameB.of s1).trans s2).after (s3.trans (Same.upd hD)))
/-- names: 0 _law_box_here, 1 _law_yard_here, 2 _law_top, 3 _law_many, 4 _law_form, 5 _law_word, 6 _law_letter -/
theorem ok_Lshort (T : Txt K mg f0 f1 f2 f3 f4 f5 f6 f7 f8 f9 f10 f11 f12 f13 f14 f15 f16 f17 f18 f19 f20 f21 f22 f23 f24 f25 f26 f27 f28 f29 d0 d1 d2 d3 d4 d5 d6 d7 d8 d9 d10 d11 d12 d13 d14 d15 d16 d17 d18 d19 d20 d21 d22 d23 d24 d25 d26 d27 d28 d29) : FnOk P w K mg base CX0 2 f17 d17 ["_law_box_here", "_law_yard_here", "_law_top"] (sp_Lshort K) := by
  have G_Ltake := ok_Ltake (P := P) (w := w) (base := base) T
  have G_Lother := ok_Lother (P := P) (w := w) (base := base) T
  refine T.F17.fn.ok sc_Lshort (fun vs H Q E h => len_Lshort h) (fun cdv A outer s H vs Q E hr h => ?_)
  refine ⟨_, (pss_cons (ps_set (i := 3) sc_Lshort.nd rfl (Or.inl rfl) (pe_op op_add pe_int (pe_call G_Ltake (hr.mono (by decide)) rfl T.F14.mg T.F14.fn.kp T.F14.bd .nil pass0 (pa_cons (pv 0) (pa_cons (pv 2) pa_nil)))))
      (pss_cons (ps_set (i := 4) sc_Lshort.nd rfl (Or.inl rfl) (pe_call G_Ltake (hr.mono (by decide)) rfl T.F14.mg T.F14.fn.kp T.F14.bd .nil pass0 (pa_cons (pv 0) (pa_cons pe_int pa_nil))))
      (pss_cons (ps_set (i := 5) sc_Lshort.nd rfl (Or.inl rfl) (pe_S [] (by decide +kernel)))
      (pss_via (ps_whileN PassesOwn.never (pt_cmpR op_lt (pe_callB call_lenS rfl T.z_len PySem.boot_len (pa_cons (pv 5) pa_nil)) (pv 3) (nomark _)) (pss_cons (ps_set (i := 6) sc_Lshort.nd rfl (Or.inl rfl) (pe_ix ix_S (pv 1) (pe_call G_Ltake (hr.mono (by decide)) rfl T.F14.mg T.F14.fn.kp T.F14.bd .nil pass0 (pa_cons (pv 0) (pa_cons (pe_callB call_lenS rfl T.z_len PySem.boot_len (pa_cons (pv 1) pa_nil)) pa_nil))) (fun _ _ => rfl)))
      (pss_via (ps_if (PW.pt (pw_and (pt_cmpR op_eqI (pv 4) pe_int (nomark _)) (pw_and (pt_cmpR op_gt (pe_callB call_lenS rfl T.z_len PySem.boot_len (pa_cons (pv 5) pa_nil)) pe_int (nomark _)) (pw_and1 (pt_cmpR op_lt (pe_callB call_lenS rfl T.z_len PySem.boot_len (pa_cons (pv 5) pa_nil)) pe_int (nomark _)))))) (pss_one (ps_set (i := 6) sc_Lshort.nd rfl (Or.inl rfl) (pe_ix ix_S (pv 5) (pe_op op_mod (pe_callB call_lenS rfl T.z_len PySem.boot_len (pa_cons (pv 5) pa_nil)) pe_int) (fun _ _ => rfl)))) pss_nil)
      (pss_one (ps_if (PW.pt (pw_or (pt_cmpR op_eqS (pv 5) (pe_S [] (by decide +kernel)) (nomark _)) (pw_or1 (pt_cmpR op_neS (pv 6) (pe_call G_Lother (hr.mono (by decide)) rfl T.F15.mg T.F15.fn.kp T.F15.bd .nil pass0 (pa_cons (pe_ix ix_S (pv 5) (pe_un un_neg pe_int) (fun _ _ => rfl)) pa_nil)) (nomark _))))) (pss_one (ps_set (i := 5) sc_Lshort.nd rfl (Or.inl rfl) (pe_op op_addS (pv 5) (pv 6)))) (pss_one (ps_set (i := 5) sc_Lshort.nd rfl (Or.inl rfl) (pe_op op_addS (pv 5) (pe_ix ix_S (pv 5) (pe_un un_neg pe_int) (fun _ _ => rfl))))))))))
      (pss_via (ps_whileN PassesOwn.never (PW.pt (pw_and (pt_cmpR op_gt (pe_callB call_lenS rfl T.z_len PySem.boot_len (pa_cons (pv 5) pa_nil)) pe_int (nomark _)) (pw_and1 (pt_cmpR op_eqS (pe_ix ix_S (pv 5) pe_int (fun _ _ => rfl)) (pe_call G_Lother (hr.mono (by decide)) rfl T.F15.mg T.F15.fn.kp T.F15.bd .nil pass0 (pa_cons (pe_ix ix_S (pv 5) (pe_un un_neg pe_int) (fun _ _ => rfl)) pa_nil)) (nomark _))))) (pss_one (ps_set (i := 5) sc_Lshort.nd rfl (Or.inl rfl) (pe_slice sl_S (pv 5) po_none (po_some (pe_un un_neg pe_int))))))
      (pss_via (ps_if (PW.pt (pw_and (pt_cmpR op_eqI (pv 4) pe_int (nomark _)) (pw_and1 (pt_cmpR op_le (pe_op op_mul (pe_callB call_lenS rfl T.z_len PySem.boot_len (pa_cons (pv 5) pa_nil)) pe_int) (pv 2) (nomark _))))) (pss_one (ps_set (i := 5) sc_Lshort.nd rfl (Or.inl rfl) (pe_op op_addS (pv 5) (pv 5)))) pss_nil)
      (pss_one (ps_ret (pv 5))))))))), ?_⟩
  obtain ⟨b, y, top, rfl, hb, hy, hy1, hy2, ht1, ht2, q⟩ := h
  have hs : (100000 : Nat) < sizeLine := by decide
  have hyz : y.length ≤ sizeLine := by omega
  refine ⟨_, rfl, _, rfl, b, _, rfl, hb, by omega, by omega, fun n H1 hn hb1 s1 => ?_⟩
  refine ⟨_, _, rfl, rfl, _, rfl, b, 5, rfl, hb1, by decide, by decide, fun fm H2 hfm hb2 s2 => ?_⟩
  have hnt : n + 1 ≤ top := by omega
  have s02 := s1.trans s2
  walk_at "wk"
  refine ⟨fun σ' H' => ∃ (w : List Nat) (lv : Option V), σ' = [some (.ref b), some (.str (S y)), some (.int top), some (.int (1 + (n : Int))), some (.int fm), some (.str (S w)), lv] ∧ Wd y w ∧ 1 ≤ w.length ∧ w.length ≤ n + 1 ∧ BoxAt H' b ∧ SameB b H H', ?_, ?_⟩
  · refine ⟨fun k σ H' => ∃ (w : List Nat) (lv : Option V), σ = [some (.ref b), some (.str (S y)), some (.int top), some (.int (1 + (n : Int))), some (.int fm), some (.str (S w)), lv] ∧ k = n + 1 - w.length ∧ Wd y w ∧ w.length ≤ n + 1 ∧ BoxAt H' b ∧ SameB b H H', ⟨_, [], none, rfl, rfl, ⟨Adj.nil, fun _ h => absurd h List.not_mem_nil⟩, Nat.zero_le _, hb2, s02⟩, ?_⟩
    rintro k σ H3 ⟨w, lv, rfl, rfl, hw, hwz, hb3, s3⟩
    have hwz2 : w.length ≤ sizeLine := by omega
    refine ⟨_, rfl, w, rfl, hwz2, _, rfl, _, _, rfl, rfl, _, rfl, ite2 (fun z => ?_) (fun z => ?_)⟩
    · have z1 : (w.length : Int) < 1 + (n : Int) := of_decide_eq_true z
      refine ⟨_, rfl, _, rfl, _, rfl, y, rfl, hyz, b, _, rfl, hb3, by omega, by omega, fun r H4 hr4 hb4 s4 => ?_⟩
      have hr : r < y.length := by omega
      refine ⟨y, _, _, rfl, rfl, hyz, atI_nat (List.getElem?_eq_getElem hr), ?_⟩
      have hcy : y[r] ∈ y := List.getElem_mem hr
      generalize y[r] = c at hcy ⊢
      refine ⟨fun σ' H' => H' = H4 ∧ ∃ e, e ∈ y ∧ σ' = [some (.ref b), some (.str (S y)), some (.int top), some (.int (1 + (n : Int))), some (.int fm), some (.str (S w)), some (.str (S [e]))], ?_, ?_⟩
      · refine ⟨_, rfl, _, _, rfl, rfl, _, rfl, ite2 (fun f1 => ?_) (fun f1 => ?_)⟩
        · refine ⟨_, rfl, w, rfl, hwz2, _, _, rfl, rfl, _, rfl, ite2 (fun f2 => ?_) (fun f2 => ?_)⟩
          · have g2 : (1 : Int) < w.length := of_decide_eq_true f2
            have hne : w ≠ [] := fun g => by rw [g] at g2; simp at g2
            refine ⟨_, rfl, w, rfl, hwz2, _, _, rfl, rfl, _, rfl, ite2 (fun f3 => ?_) (fun f3 => ?_)⟩
            · refine ⟨_, rfl, _, rfl, w, rfl, hwz2, _, _, rfl, rfl, by show (0 : Int) < 2; decide, w, _, _, rfl, rfl, hwz2, rd_at (by show -(w.length : Int) ≤ (w.length : Int) % 2; omega) (by show (w.length : Int) % 2 < _; omega), ?_⟩
              exact ⟨rfl, _, hw.iny _ (rd_mem hne _), rfl⟩
            · exact ⟨rfl, c, hcy, rfl⟩
          · refine iteF ?_
            exact ⟨rfl, c, hcy, rfl⟩
        · refine iteF ?_
          exact ⟨rfl, c, hcy, rfl⟩
      rintro σ5 H5 ⟨rfl, e, hey, rfl⟩
      have s5 := s3.trans s4
      refine ⟨_, rfl, w, [], rfl, rfl, _, rfl, ite2 (fun f => ?_) (fun f => ?_)⟩
      · have hw0 : w = [] := of_decide_eq_true f
        refine iteT ?_
        refine ⟨_, rfl, _, rfl, w, [e], rfl, rfl, by show w.length + 1 ≤ _; omega, ?_⟩
        exact ⟨n + 1 - (w ++ [e]).length, by rw [List.length_append]; show n + 1 - (w.length + 1) < _; omega, w ++ [e], _, rfl, rfl, hw.more hey fun g => absurd hw0 g, by rw [List.length_append]; show w.length + 1 ≤ _; omega, hb4, s5⟩
      · have hne : w ≠ [] := fun g => f (decide_eq_true g)
        have hpos : 0 < w.length := List.length_pos_iff.mpr hne
        have hly : rd w (-1) ∈ y := hw.iny _ (rd_mem hne _)
        have hl1 : atI w (-1) = some (rd w (-1)) := rd_at (by omega) (by omega)
        refine ⟨_, rfl, _, rfl, _, rfl, w, _, _, rfl, rfl, hwz2, hl1, _, rfl, hy.lt _ hly, [e], _, rfl, rfl, _, rfl, ite2 (fun f2 => ?_) (fun f2 => ?_)⟩
        · have hee : e ≠ ctr (rd w (-1)) := fun g => by rw [g] at f2; simp at f2
          refine ⟨_, rfl, _, rfl, w, [e], rfl, rfl, by show w.length + 1 ≤ _; omega, ?_⟩
          exact ⟨n + 1 - (w ++ [e]).length, by rw [List.length_append]; show n + 1 - (w.length + 1) < _; omega, w ++ [e], _, rfl, rfl, hw.more hey fun _ => hee, by rw [List.length_append]; show w.length + 1 ≤ _; omega, hb4, s5⟩
        · refine ⟨_, rfl, _, rfl, _, rfl, w, _, _, rfl, rfl, hwz2, hl1, w, [rd w (-1)], rfl, rfl, by show w.length + 1 ≤ _; omega, ?_⟩
          exact ⟨n + 1 - (w ++ [rd w (-1)]).length, by rw [List.length_append]; show n + 1 - (w.length + 1) < _; omega, w ++ [rd w (-1)], _, rfl, rfl, hw.more hly fun _ g => ctr_ne (hy.lt _ hly) g.symm, by rw [List.length_append]; show w.length + 1 ≤ _; omega, hb4, s5⟩
    · have z1 : ¬ (w.length : Int) < 1 + (n : Int) := fun g => z (decide_eq_true g)
      exact ⟨w, lv, rfl, hw, by omega, hwz, hb3, s3⟩
  rintro σ6 H3 ⟨w, lv, rfl, hw, hw1, hwz, hb3, s3⟩
  refine ⟨fun σ' H' => H' = H3 ∧ ∃ w : List Nat, σ' = [some (.ref b), some (.str (S y)), some (.int top), some (.int (1 + (n : Int))), some (.int fm), some (.str (S w)), lv] ∧ SW y w ∧ w.length ≤ n + 1, ?_, ?_⟩
  · refine ⟨fun k σ H' => H' = H3 ∧ ∃ w : List Nat, σ = [some (.ref b), some (.str (S y)), some (.int top), some (.int (1 + (n : Int))), some (.int fm), some (.str (S w)), lv] ∧ k = w.length ∧ Wd y w ∧ 1 ≤ w.length ∧ w.length ≤ n + 1, ⟨_, rfl, w, rfl, rfl, hw, hw1, hwz⟩, ?_⟩
    clear hw hwz hw1 w
    rintro k σ H4 ⟨rfl, w, rfl, rfl, hw, hw1, hwz⟩
    have hwz2 : w.length ≤ sizeLine := by omega
    have hne : w ≠ [] := fun g => by rw [g] at hw1; simp at hw1
    have hly : ∀ k, rd w k ∈ y := fun k => hw.iny _ (rd_mem hne k)
    refine ⟨_, rfl, w, rfl, hwz2, _, _, rfl, rfl, _, rfl, ite2 (fun f => ?_) (fun f => ?_)⟩
    · have g1 : (1 : Int) < w.length := of_decide_eq_true f
      have hl1 : atI w (-1) = some (rd w (-1)) := rd_at (by omega) (by omega)
      refine ⟨_, rfl, w, _, _, rfl, rfl, hwz2, rd_at (k := 0) (by omega) (by omega), _, rfl, _, rfl, w, _, _, rfl, rfl, hwz2, hl1, _, rfl, hy.lt _ (hly _), [rd w 0], _, rfl, rfl, _, rfl, ite2 (fun f2 => ?_) (fun f2 => ?_)⟩
      · refine ⟨_, rfl, _, rfl, _, rfl, w, rfl, hwz2, ?_⟩
        rw [cut_last]
        exact ⟨(w.take (w.length - 1)).length, by rw [List.length_take]; omega, rfl, w.take (w.length - 1), rfl, rfl, ⟨hw.adj.take _, fun c hc => hw.iny c (List.mem_of_mem_take hc)⟩, by rw [List.length_take]; omega, by rw [List.length_take]; omega⟩
      · have hee : rd w 0 ≠ ctr (rd w (-1)) := fun g => f2 (by simp [g])
        exact ⟨rfl, w, rfl, hw.sw hne hee, hwz⟩
    · have g1 : ¬ (1 : Int) < w.length := fun g => f (decide_eq_true g)
      refine iteF ?_
      exact ⟨rfl, w, rfl, hw.one hy (by omega), hwz⟩
  rintro σ7 H7 ⟨rfl, w7, rfl, sw, hwz7⟩
  clear hw hw1 hwz w
  refine ⟨fun σ' H' => H' = H7 ∧ ∃ w : List Nat, σ' = [some (.ref b), some (.str (S y)), some (.int top), some (.int (1 + (n : Int))), some (.int fm), some (.str (S w)), lv] ∧ SW y w ∧ w.length ≤ top, ?_, ?_⟩
  · refine ⟨_, rfl, _, _, rfl, rfl, _, rfl, ite2 (fun f => ?_) (fun f => ?_)⟩
    · refine ⟨_, rfl, w7, rfl, by omega, _, _, rfl, rfl, .inl ⟨by omega, by omega⟩, _, rfl, _, _, rfl, rfl, _, rfl, ite2 (fun f2 => ?_) (fun f2 => ?_)⟩
      · have g2 : (w7.length : Int) * 2 ≤ top := of_decide_eq_true f2
        refine ⟨_, rfl, _, rfl, w7, w7, rfl, rfl, by omega, ?_⟩
        exact ⟨rfl, _, rfl, sw.twice, by rw [List.length_append]; omega⟩
      · exact ⟨rfl, _, rfl, sw, by omega⟩
    · refine iteF ?_
      exact ⟨rfl, _, rfl, sw, by omega⟩
  rintro σ8 H8 ⟨rfl, w8, rfl, sw8, hwz8⟩
  exact ⟨_, rfl, q w8 _ sw8 hwz8 hb3 s3⟩
/-- names: 0 _law_box_here, 1 _law_yard_here, 2 _law_word, 3 _law_top, 4 _law_form, 5 _law_at, 6 _law_letter, 7 _law_some -/
theorem ok_Lnear (T : Txt K mg f0 f1 f2 f3 f4 f5 f6 f7 f8 f9 f10 f11 f12 f13 f14 f15 f16 f17 f18 f19 f20 f21 f22 f23 f24 f25 f26 f27 f28 f29 d0 d1 d2 d3 d4 d5 d6 d7 d8 d9 d10 d11 d12 d13 d14 d15 d16 d17 d18 d19 d20 d21 d22 d23 d24 d25 d26 d27 d28 d29) : FnOk P w K mg base CX0 3 f18 d18 ["_law_box_here", "_law_yard_here", "_law_word", "_law_top"] (sp_Lnear K) := by
  have G_Ltake := ok_Ltake (P := P) (w := w) (base := base) T
  have G_Lother := ok_Lother (P := P) (w := w) (base := base) T
  have G_Lshort := ok_Lshort (P := P) (w := w) (base := base) T
  refine T.F18.fn.ok sc_Lnear (fun vs H Q E h => len_Lnear h) (fun cdv A outer s H vs Q E hr h => ?_)
  refine ⟨_, (pss_cons (ps_set (i := 4) sc_Lnear.nd rfl (Or.inl rfl) (pe_call G_Ltake (hr.mono (by decide)) rfl T.F14.mg T.F14.fn.kp T.F14.bd .nil pass0 (pa_cons (pv 0) (pa_cons pe_int pa_nil))))
      (pss_cons (ps_set (i := 5) sc_Lnear.nd rfl (Or.inl rfl) (pe_call G_Ltake (hr.mono (by decide)) rfl T.F14.mg T.F14.fn.kp T.F14.bd .nil pass0 (pa_cons (pv 0) (pa_cons (pe_callB call_lenS rfl T.z_len PySem.boot_len (pa_cons (pv 2) pa_nil)) pa_nil))))
      (pss_cons (ps_if (pt_cmpR op_eqI (pv 4) pe_int (nomark _)) (pss_one (ps_ret (pe_op op_addS (pe_slice sl_S (pv 2) (po_some (pv 5)) po_none) (pe_slice sl_S (pv 2) po_none (po_some (pv 5)))))) pss_nil)
      (pss_cons (ps_if (pt_cmpR op_eqI (pv 4) pe_int (nomark _)) (pss_one (ps_ret (pe_bmK K rfl PySem.F.plainAttrs_str PySem.F.slot_str_join PySem.F.type_str_join (mt_joinK K rfl) (pe_S [] (by decide +kernel)) (pa_cons (pe_compB ["_law_letter"] [none] (pi_rev rfl T.z_reversed (pa_cons (pv 2) pa_nil)) trivial (fun _ _ _ _ => (pg_name (i := 0) (by decide +kernel : List.Nodup (["_law_letter"] : List Str)) rfl (Or.inl rfl))) (fun _ _ _ _ => pf_nil) (fun _ _ _ _ => (pe_call G_Lother (hr.mono (by decide)) rfl T.F15.mg T.F15.fn.kp T.F15.bd .nil pass0 (pa_cons (pv 0) pa_nil)))) pa_nil)))) pss_nil)
      (pss_cons (ps_if (pt_cmpR op_eqI (pv 4) pe_int (nomark _)) (pss_cons (ps_set (i := 6) sc_Lnear.nd rfl (Or.inl rfl) (pe_ix ix_S (pv 1) (pe_call G_Ltake (hr.mono (by decide)) rfl T.F14.mg T.F14.fn.kp T.F14.bd .nil pass0 (pa_cons (pv 0) (pa_cons (pe_callB call_lenS rfl T.z_len PySem.boot_len (pa_cons (pv 1) pa_nil)) pa_nil))) (fun _ _ => rfl)))
      (pss_cons (ps_set (i := 7) sc_Lnear.nd rfl (Or.inl rfl) (pe_op op_addS (pe_slice sl_S (pv 2) po_none (po_some (pv 5))) (pv 6)))
      (pss_one (ps_if (pt_cmpR (op_ninK K rfl) (pv 6) (pe_lst (pa_cons (pe_call G_Lother (hr.mono (by decide)) rfl T.F15.mg T.F15.fn.kp T.F15.bd .nil pass0 (pa_cons (pe_ix ix_S (pv 7) pe_int (fun _ _ => rfl)) pa_nil)) (pa_cons (pe_call G_Lother (hr.mono (by decide)) rfl T.F15.mg T.F15.fn.kp T.F15.bd .nil pass0 (pa_cons (pe_ix ix_S (pe_slice sl_S (pv 7) (po_some (pe_un un_neg pe_int)) po_none) pe_int (fun _ _ => rfl)) pa_nil)) pa_nil))) (by with_unfolding_all rfl)) (pss_one (ps_ret (pv 7))) pss_nil)))) pss_nil)
      (pss_one (ps_ret (pe_call G_Lshort (hr.mono (by decide)) rfl T.F17.mg T.F17.fn.kp T.F17.bd .nil pass0 (pa_cons (pv 0) (pa_cons (pv 1) (pa_cons (pv 3) pa_nil))))))))))), ?_⟩
  obtain ⟨b, y, w, top, rfl, hb, hy, hy1, hy2, ht1, ht2, sw, hwt, q⟩ := h
  have hs : (100000 : Nat) < sizeLine := by decide
  have hyz : y.length ≤ sizeLine := by omega
  have hwz : w.length ≤ sizeLine := by omega
  have hpos : 0 < w.length := List.length_pos_iff.mpr sw.ne
  have lw : ∀ c ∈ w, Lt c := fun c hc => hy.lt c (sw.iny c hc)
  refine ⟨_, rfl, b, 5, rfl, hb, by decide, by decide, fun fm H1 hfm hb1 s1 => ?_⟩
  refine ⟨_, rfl, _, rfl, w, rfl, hwz, b, _, rfl, hb1, by omega, by omega, fun at' H2 hat hb2 s2 => ?_⟩
  have s02 := s1.trans s2
  have hat' : at' < w.length := by omega
  refine ⟨_, rfl, _, _, rfl, rfl, _, rfl, ite2 (fun f0 => ?_) (fun f0 => ?_)⟩
  · have hlen : (cut w (some (at' : Int)) none).length + (cut w none (some (at' : Int))).length ≤ sizeLine := by rw [cut_to, cut_from, List.length_drop, List.length_take]; omega
    have hrot : cut w (some (at' : Int)) none ++ cut w none (some (at' : Int)) = w.drop at' ++ w.take at' := by rw [cut_to, cut_from]
    refine ⟨_, rfl, _, rfl, _, rfl, w, rfl, hwz, _, rfl, _, rfl, _, rfl, w, rfl, hwz, _, _, rfl, rfl, hlen, ?_⟩
    rw [hrot]
    exact q _ _ (sw.rot (by omega)) (by rw [List.length_append, List.length_drop, List.length_take]; omega) hb2 s02
  · refine ⟨_, rfl, _, _, rfl, rfl, _, rfl, ite2 (fun f1 => ?_) (fun f1 => ?_)⟩
    · refine ⟨rfl, _, rfl, w, rfl, by omega, ?_⟩
      rw [sgs_rev]
      refine comp_fix (xs := sgs w.reverse) (fun i acc H' => Same H2 H' ∧ acc = sgs ((w.reverse.take i).map ctr)) (by rw [sgs_len, List.length_reverse]; omega) ⟨Same.refl H2, rfl⟩ ?_ ?_
      · rintro i x acc H3 Nx hi hx hl ⟨s3, rfl⟩ nx
        obtain ⟨c, hc', rfl⟩ := sgs_get hx
        refine ⟨trivial, yes_ite ⟨_, rfl, c, rfl, lw c (List.mem_reverse.mp (List.mem_of_getElem? hc')), nx _ _ (by simpa using hl) ⟨s3, ?_⟩⟩⟩
        rw [sgs_snoc, ← take_snoc hc', List.map_append]
        rfl
      · rintro acc H3 D hl ⟨s3, rfl⟩ hD
        refine ⟨D, (tnd w).map fun c => [c], rfl, rfl, SqL.of ?_, ?_, ?_⟩
        · rw [upd_same, ← sgs_lists, sgs_len, List.take_of_length_le (Nat.le_refl _), List.map_reverse]
          rfl
        · rw [sum1]
          unfold tnd
          rw [List.length_reverse, List.length_map]
          omega
        · rw [flat1]
          exact q _ _ (sw.tnd hy) (by rw [tnd_len]; omega) ((hb2.same s3).same (Same.upd hD)) (s02.after (s3.trans (Same.upd hD)))
    · refine ⟨_, rfl, _, _, rfl, rfl, _, rfl, ite2 (fun f2 => ?_) (fun f2 => ?_)⟩
      · refine ⟨_, rfl, _, rfl, _, rfl, y, rfl, hyz, b, _, rfl, hb2, by omega, by omega, fun r H3 hr3 hb3 s3 => ?_⟩
        have s03 := s02.trans s3
        have hr : r < y.length := by omega
        refine ⟨y, _, _, rfl, rfl, hyz, atI_nat (List.getElem?_eq_getElem hr), ?_⟩
        have hcy : y[r] ∈ y := List.getElem_mem hr
        generalize y[r] = c at hcy ⊢
        have hlc := hy.lt c hcy
        have hlen : (cut w none (some (at' : Int))).length + [c].length ≤ sizeLine := by rw [cut_to, List.length_take]; show _ + 1 ≤ _; omega
        refine ⟨_, rfl, _, rfl, _, rfl, w, rfl, hwz, _, rfl, _, _, rfl, rfl, hlen, ?_⟩
        rw [cut_to]
        have hul : (w.take at').length = at' := by rw [List.length_take]; omega
        have uadj := sw.adj.take at'
        have uiny : ∀ a ∈ w.take at', a ∈ y := fun a ha => sw.iny a (List.mem_of_mem_take ha)
        generalize w.take at' = u at hul uadj uiny ⊢
        have hsl : (u ++ [c]).length = at' + 1 := by rw [List.length_append, hul]; rfl
        have hsne : u ++ [c] ≠ [] := by simp
        have hsy : ∀ a ∈ u ++ [c], a ∈ y := fun a ha => (List.mem_append.mp ha).elim (uiny a) fun g => by rw [List.mem_singleton.mp g]; exact hcy
        have g0 : atI (u ++ [c]) (0 : Int) = some (rd (u ++ [c]) 0) := rd_at (by omega) (by omega)
        have hc2 : cut (u ++ [c]) (some (-2)) none = (u ++ [c]).drop (at' + 1 - 2) := by rw [cut_m2, hsl]
        have hdl : ((u ++ [c]).drop (at' + 1 - 2)).length = at' + 1 - (at' + 1 - 2) := by rw [List.length_drop, hsl]
        have hdne : (u ++ [c]).drop (at' + 1 - 2) ≠ [] := fun z => by rw [z] at hdl; simp at hdl; omega
        have g2 : atI ((u ++ [c]).drop (at' + 1 - 2)) (0 : Int) = some (rd ((u ++ [c]).drop (at' + 1 - 2)) 0) := rd_at (by omega) (by omega)
        have h0y := hsy _ (rd_mem hsne 0)
        have h2y := hsy _ (List.mem_of_mem_drop (rd_mem hdne 0))
        have e0 : ∀ a, u.head? = some a → rd (u ++ [c]) 0 = a := fun a ha => by
          have h1 := rd_head hsne
          cases u with
          | nil => cases ha
          | cons x r => exact (Option.some.inj (h1.symm.trans (show (x :: r ++ [c]).head? = some a from ha)))
        have e2 : ∀ a, u.getLast? = some a → rd ((u ++ [c]).drop (at' + 1 - 2)) 0 = a := fun a ha => by
          have h1 := rd_head hdne
          have hu1 : u ≠ [] := fun z => by rw [z] at ha; cases ha
          have hp1 := List.length_pos_iff.mpr hu1
          rw [List.head?_eq_getElem?, List.getElem?_drop, List.getElem?_append_left (by omega)] at h1
          rw [List.getLast?_eq_getElem?, hul] at ha
          rw [show at' + 1 - 2 + 0 = at' - 1 by omega] at h1
          exact Option.some.inj (h1.symm.trans ha)
        generalize rd (u ++ [c]) 0 = x0 at g0 h0y e0
        generalize rd ((u ++ [c]).drop (at' + 1 - 2)) 0 = x2 at g2 h2y e2
        refine ⟨_, rfl, _, rfl, _, _, _, rfl, rfl, by omega, g0, _, rfl, hy.lt _ h0y, ?_⟩
        refine ⟨_, rfl, _, rfl, _, rfl, u ++ [c], rfl, by omega, ?_⟩
        rw [hc2]
        refine ⟨_, _, _, rfl, rfl, by rw [hdl]; omega, g2, _, rfl, hy.lt _ h2y, by show 2 ≤ sizeLine; decide, fun p np => ?_⟩
        have hpb := hb3.ne np
        have np0 := s03.none np hpb
        refine ⟨p, _, rfl, .inl (SqL.of upd_same), rfl, rfl, ?_⟩
        have iv := inV_two c (ctr x0) (ctr x2)
        rw [show (if true = true then !inV (.str (S [c])) [.str (S [ctr x0]), .str (S [ctr x2])] else inV (.str (S [c])) [.str (S [ctr x0]), .str (S [ctr x2])]) = !(decide (c = ctr x0) || decide (c = ctr x2)) by rw [if_pos rfl, iv]]
        refine ⟨_, rfl, ite2 (fun f3 => ?_) (fun f3 => ?_)⟩
        · have hn : c ≠ ctr x0 ∧ c ≠ ctr x2 := by simpa using f3
          refine ⟨_, rfl, q (u ++ [c]) _ (SW.snoc hy uadj uiny hcy (fun a ha => by rw [← e2 a ha]; exact hn.2) fun a ha => by rw [← e0 a ha]; exact hn.1) (by omega) (hb3.updN hpb) (s03.updN np0)⟩
        · exact ⟨_, rfl, _, rfl, _, rfl, b, y, top, rfl, hb3.updN hpb, hy, hy1, hy2, ht1, ht2, fun l H4 hl hl1 hb4 s4 => q l H4 hl hl1 hb4 ((s03.updN np0).trans s4)⟩
      · exact ⟨_, rfl, _, rfl, _, rfl, b, y, top, rfl, hb2, hy, hy1, hy2, ht1, ht2, fun l H3 hl hl1 hb3 s3 => q l H3 hl hl1 hb3 (s02.trans s3)⟩
/-- names: 0 _law_box_here, 1 _law_yard_here, 2 _law_many, 3 _law_top, 4 _law_found, 5 _law_k, 6 _law_one -/
theorem ok_Lwords (T : Txt K mg f0 f1 f2 f3 f4 f5 f6 f7 f8 f9 f10 f11 f12 f13 f14 f15 f16 f17 f18 f19 f20 f21 f22 f23 f24 f25 f26 f27 f28 f29 d0 d1 d2 d3 d4 d5 d6 d7 d8 d9 d10 d11 d12 d13 d14 d15 d16 d17 d18 d19 d20 d21 d22 d23 d24 d25 d26 d27 d28 d29) : FnOk P w K mg base CX0 4 f25 d25 ["_law_box_here", "_law_yard_here", "_law_many", "_law_top"] (sp_Lwords K) := by
  have G_Lshort := ok_Lshort (P := P) (w := w) (base := base) T
  have G_Ltake := ok_Ltake (P := P) (w := w) (base := base) T
  have G_Lnear := ok_Lnear (P := P) (w := w) (base := base) T
  refine T.F25.fn.ok sc_Lwords (fun vs H Q E h => len_Lwords h) (fun cdv A outer s H vs Q E hr h => ?_)
  refine ⟨_, (pss_cons (ps_set (i := 4) sc_Lwords.nd rfl (Or.inl rfl) (pe_lst (pa_cons (pe_call G_Lshort (hr.mono (by decide)) rfl T.F17.mg T.F17.fn.kp T.F17.bd .nil pass0 (pa_cons (pv 0) (pa_cons (pv 1) (pa_cons (pv 3) pa_nil)))) pa_nil)))
      (pss_cons (ps_for PassesOwn.never rfl (pi_range1 rfl T.z_range (pa_cons (pe_call G_Ltake (hr.mono (by decide)) rfl T.F14.mg T.F14.fn.kp T.F14.bd .nil pass0 (pa_cons (pv 0) (pa_cons (pv 2) pa_nil))) pa_nil)) (pg_name (i := 5) sc_Lwords.nd rfl (Or.inl rfl)) (pss_cons (ps_set (i := 6) sc_Lwords.nd rfl (Or.inl rfl) (pe_ix (ix_listK K rfl) (pv 4) (pe_call G_Ltake (hr.mono (by decide)) rfl T.F14.mg T.F14.fn.kp T.F14.bd .nil pass0 (pa_cons (pv 0) (pa_cons (pe_callB (call_len_seqK K rfl) rfl T.z_len PySem.boot_len (pa_cons (pv 4) pa_nil)) pa_nil))) (fun _ _ => rfl)))
      (pss_one (ps_if (pt_cmpR op_eqI (pe_call G_Ltake (hr.mono (by decide)) rfl T.F14.mg T.F14.fn.kp T.F14.bd .nil pass0 (pa_cons (pv 0) (pa_cons pe_int pa_nil))) pe_int (nomark _)) (pss_one (ps_expr (pe_bmK K rfl PySem.F.plainAttrs_list PySem.F.slot_list_append PySem.F.type_list_append mt_append (pv 4) (pa_cons (pe_call G_Lshort (hr.mono (by decide)) rfl T.F17.mg T.F17.fn.kp T.F17.bd .nil pass0 (pa_cons (pv 0) (pa_cons (pv 1) (pa_cons (pv 3) pa_nil)))) pa_nil)))) (pss_one (ps_expr (pe_bmK K rfl PySem.F.plainAttrs_list PySem.F.slot_list_append PySem.F.type_list_append mt_append (pv 4) (pa_cons (pe_call G_Lnear (hr.mono (by decide)) rfl T.F18.mg T.F18.fn.kp T.F18.bd .nil pass0 (pa_cons (pv 0) (pa_cons (pv 1) (pa_cons (pv 6) (pa_cons (pv 3) pa_nil))))) pa_nil))))))))
      (pss_one (ps_ret (pe_callTy (call_tuple_ofK K rfl) rfl T.z_tuple boot_tuple (pa_cons (pv 4) pa_nil)))))), ?_⟩
  obtain ⟨b, y, many, top, rfl, hb, hy, hy1, hy2, hm1, hm2, ht1, ht2, hmt, q⟩ := h
  have hs : (100000 : Nat) < sizeLine := by decide
  refine ⟨_, rfl, _, rfl, _, rfl, b, y, top, rfl, hb, hy, hy1, hy2, ht1, by omega, fun w1 H1 sw1 wl1 hb1 s1 => ?_⟩
  refine ⟨by show 1 ≤ sizeLine; decide, fun t nt => ?_⟩
  have tb : t ≠ b := hb1.ne nt
  have nt0 := s1.none nt tb
  have ht2' : upd H1 t (.lst [.str (S w1)]) t = some (.lst (txs [w1])) := upd_same
  have hb2 := hb1.updN (o := .lst [.str (S w1)]) tb
  have s2 := s1.updN (o := .lst [.str (S w1)]) nt0
  generalize upd H1 t (.lst [.str (S w1)]) = H2 at ht2' hb2 s2 ⊢
  refine ⟨_, rfl, _, rfl, b, many, rfl, hb2, by omega, by omega, fun r H3 hr hb3 s3 => ?_⟩
  refine ⟨_, rfl, by omega, by omega, ?_⟩
  rw [Int.toNat_natCast]
  have hrm : r < many := by omega
  refine for_range (fun i σ H' => ∃ (ws : List (List Nat)) (kv ov : Option V), σ = [some (.ref b), some (.str (S y)), some (.int many), some (.int top), some (.ref t), kv, ov] ∧ H' t = some (.lst (txs ws)) ∧ ws.length = i + 1 ∧ (∀ w ∈ ws, SW y w ∧ w.length ≤ top) ∧ BoxAt H' b ∧ SameB b H H')
    ⟨[w1], none, none, rfl, s3 _ _ ht2' tb, rfl, fun w hw => by rw [List.mem_singleton.mp hw]; exact ⟨sw1, wl1⟩, hb3, s2.trans s3⟩ ?_ ?_
  · rintro i σ H4 hi ⟨ws, kv, ov, rfl, ht4, hl4, hw4, hb4, s4⟩
    refine ⟨_, rfl, _, rfl, _, rfl, t, _, rfl, .inl (SqL.of ht4), b, _, rfl, hb4, by rw [txs_len]; omega, by rw [txs_len]; omega, fun r5 H5 hr5 hb5 s5 => ?_⟩
    rw [txs_len] at hr5
    have hr5' : r5 < ws.length := by omega
    refine ⟨t, _, _, _, rfl, rfl, SqL.of (s5 _ _ ht4 tb), atI_nat (txs_at hr5'), ?_⟩
    obtain ⟨so, lo⟩ := hw4 _ (List.getElem_mem hr5')
    generalize ws[r5] = one at so lo ⊢
    refine ⟨_, rfl, b, 3, rfl, hb5, by decide, by decide, fun r6 H6 hr6 hb6 s6 => ?_⟩
    have ht6 := s6 _ _ (s5 _ _ ht4 tb) tb
    have s06 := s4.trans (s5.trans s6)
    refine ⟨_, _, rfl, rfl, _, rfl, ite2 (fun f => ?_) (fun f => ?_)⟩
    · refine ⟨_, rfl, .inl ⟨rfl, _, SqL.of ht6⟩, _, rfl, _, rfl, _, rfl, b, y, top, rfl, hb6, hy, hy1, hy2, ht1, by omega, fun w7 H7 sw7 wl7 hb7 s7 => ?_⟩
      refine ⟨t, txs ws, _, rfl, rfl, s7 _ _ ht6 tb, by rw [txs_len]; omega, ?_⟩
      refine ⟨ws ++ [w7], _, _, rfl, by rw [upd_same, txs_snoc], by rw [List.length_append, hl4]; rfl, fun w hw => ?_, hb7.updN tb, (s06.trans s7).updN nt0⟩
      rcases List.mem_append.mp hw with g | g
      · exact hw4 w g
      · rw [List.mem_singleton.mp g]; exact ⟨sw7, wl7⟩
    · refine ⟨_, rfl, .inl ⟨rfl, _, SqL.of ht6⟩, _, rfl, _, rfl, _, rfl, _, rfl, b, y, one, top, rfl, hb6, hy, hy1, hy2, ht1, by omega, so, lo, fun w7 H7 sw7 wl7 hb7 s7 => ?_⟩
      refine ⟨t, txs ws, _, rfl, rfl, s7 _ _ ht6 tb, by rw [txs_len]; omega, ?_⟩
      refine ⟨ws ++ [w7], _, _, rfl, by rw [upd_same, txs_snoc], by rw [List.length_append, hl4]; rfl, fun w hw => ?_, hb7.updN tb, (s06.trans s7).updN nt0⟩
      rcases List.mem_append.mp hw with g | g
      · exact hw4 w g
      · rw [List.mem_singleton.mp g]; exact ⟨sw7, wl7⟩
  · rintro σ H4 ⟨ws, kv, ov, rfl, ht4, hl4, hw4, hb4, s4⟩
    refine ⟨_, rfl, t, _, rfl, .inl ⟨SqL.of ht4, fun u nu => ?_⟩⟩
    have ub : u ≠ b := hb4.ne nu
    have nu0 := s4.none nu ub
    have hpl : (places ws).length ≤ ws.length * top := plc_few (fun w hw => (hw4 w hw).2) ws.length (Nat.le_refl _)
    have hmul : ws.length * top ≤ many * top := Nat.mul_le_mul_right _ (by omega)
    exact q u ws _ nu0 ub upd_same ⟨fun w hw => ⟨(hw4 w hw).1, by have := (hw4 w hw).2; omega⟩, by omega, by omega⟩ (fun z => by rw [z] at hl4; cases hl4) (hb4.updN ub) (s4.updN nu0)
/-- names: 0 _law_script, 1 _law_k, 2 _law_box_here, 3 _law_yard_here, 4 _law_many, 5 _law_top -/
theorem ok_law (T : Txt K mg f0 f1 f2 f3 f4 f5 f6 f7 f8 f9 f10 f11 f12 f13 f14 f15 f16 f17 f18 f19 f20 f21 f22 f23 f24 f25 f26 f27 f28 f29 d0 d1 d2 d3 d4 d5 d6 d7 d8 d9 d10 d11 d12 d13 d14 d15 d16 d17 d18 d19 d20 d21 d22 d23 d24 d25 d26 d27 d28 d29) : FnOk P w K mg base CX0 8 f29 d29 ["_law_script"] (sp_law K) := by
  have G_Lbox := ok_Lbox (P := P) (w := w) (base := base) T
  have G_Lyard := ok_Lyard (P := P) (w := w) (base := base) T
  have G_Ltake := ok_Ltake (P := P) (w := w) (base := base) T
  have G_Lright := ok_Lright (P := P) (w := w) (base := base) T
  have G_Lwords := ok_Lwords (P := P) (w := w) (base := base) T
  refine T.F29.fn.ok sc_law (fun vs H Q E h => len_law h) (fun cdv A outer s H vs Q E hr h => ?_)
  refine ⟨_, (pss_cons (ps_for PassesOwn.never rfl (pi_range1 rfl T.z_range (pa_cons (pe_op op_add pe_int (pe_callB (call_len_seqK K rfl) rfl T.z_len PySem.boot_len (pa_cons (pe_slice (sl_listK K rfl) (pv 0) (po_some pe_int) (po_some pe_int)) pa_nil))) pa_nil)) (pg_name (i := 1) sc_law.nd rfl (Or.inl rfl)) (pss_cons (ps_set (i := 2) sc_law.nd rfl (Or.inl rfl) (pe_call G_Lbox (hr.mono (by decide)) rfl T.F13.mg T.F13.fn.kp T.F13.bd .nil pass0 (pa_cons (pv 0) (pa_cons (pv 1) pa_nil))))
      (pss_cons (ps_set (i := 3) sc_law.nd rfl (Or.inl rfl) (pe_call G_Lyard (hr.mono (by decide)) rfl T.F16.mg T.F16.fn.kp T.F16.bd .nil pass0 (pa_cons (pv 2) (pa_cons pe_int (pa_cons pe_int pa_nil)))))
      (pss_cons (ps_asg (pe_ix (ix_listK K rfl) (pe_lst (pa_cons (pe_tup (pa_cons pe_int (pa_cons pe_int pa_nil))) (pa_cons (pe_tup (pa_cons pe_int (pa_cons pe_int pa_nil))) (pa_cons (pe_tup (pa_cons pe_int (pa_cons pe_int pa_nil))) pa_nil)))) (pe_call G_Ltake (hr.mono (by decide)) rfl T.F14.mg T.F14.fn.kp T.F14.bd .nil pass0 (pa_cons (pv 2) (pa_cons pe_int pa_nil))) (fun _ _ => rfl)) (pg_tupK (n := 2) K rfl rfl (pgs_cons (pg_name (i := 4) sc_law.nd rfl (Or.inl rfl)) (pgs_cons (pg_name (i := 5) sc_law.nd rfl (Or.inl rfl)) pgs_nil))))
      (pss_one (ps_if (pt_not (pt_val (pe_call G_Lright (hr.mono (by decide)) rfl T.F28.mg T.F28.fn.kp T.F28.bd .nil pass0 (pa_cons (pv 2) (pa_cons (pv 3) (pa_cons (pe_call G_Lwords (hr.mono (by decide)) rfl T.F25.mg T.F25.fn.kp T.F25.bd .nil pass0 (pa_cons (pv 2) (pa_cons (pv 3) (pa_cons (pv 4) (pa_cons (pv 5) pa_nil))))) pa_nil)))))) (pss_one (ps_ret pe_bl)) pss_nil))))))
      (pss_one (ps_ret pe_bl))), ?_⟩
  obtain ⟨a, ns, rfl, hS, hl, q⟩ := h
  have hs : (100000 : Nat) < sizeLine := by decide
  refine ⟨_, rfl, _, rfl, _, rfl, a, _, rfl, hS, fun p1 n1 => ?_⟩
  have hc4 : (cutV (ns.map V.int) (some 2) (some 6)).length ≤ 4 := by unfold cutV; rw [List.length_take]; exact Nat.le_trans (Nat.min_le_left _ _) (by have e1 : ∀ n d : Nat, HT.sIx n d (some ((2 : Nat) : Int)) = min 2 n := fun n d => HT.sIx_nat _ _ _; have e2 : ∀ n d : Nat, HT.sIx n d (some ((6 : Nat) : Int)) = min 6 n := fun n d => HT.sIx_nat _ _ _; show HT.sIx _ _ (some ((6 : Nat) : Int)) - HT.sIx _ _ (some ((2 : Nat) : Int)) ≤ 4; rw [e1, e2]; omega)
  refine ⟨p1, _, rfl, .inl (SqL.of upd_same), _, _, rfl, rfl, ?_⟩
  have s1 := Same.upd (o := .lst (cutV (ns.map V.int) (some 2) (some 6))) n1
  generalize (cutV (ns.map V.int) (some 2) (some 6)).length = m at hc4 ⊢
  generalize upd H p1 (.lst (cutV (ns.map V.int) (some 2) (some 6))) = H1 at s1 ⊢
  refine ⟨_, rfl, by omega, by omega, ?_⟩
  rw [show ((2 : Int) + (m : Int)).toNat = 2 + m by omega]
  refine for_range (fun i σ H' => ∃ (v1 v2 v3 v4 v5 : Option V), σ = [some (.ref a), v1, v2, v3, v4, v5] ∧ Same H H')
    ⟨none, none, none, none, none, rfl, s1⟩ ?_ ?_
  · rintro i σ H2 hi ⟨v1, v2, v3, v4, v5, rfl, s2⟩
    refine ⟨_, rfl, _, rfl, a, ns, i, by rw [Int.zero_add]; rfl, s2.seq hS, by omega, fun b H3 nb bx s3 => ?_⟩
    refine ⟨_, rfl, b, 1, 4, rfl, bx, by decide, by decide, by decide, fun y H4 hy hy1 hy2 bx4 s4 => ?_⟩
    refine ⟨by show 2 ≤ sizeLine; decide, fun t1 nt1 => ?_⟩
    refine ⟨by show 2 ≤ sizeLine; decide, fun t2 nt2 => ?_⟩
    refine ⟨by show 2 ≤ sizeLine; decide, fun t3 nt3 => ?_⟩
    have ht1 : upd (upd (upd H4 t1 (.tup [.int 3, .int 8])) t2 (.tup [.int 4, .int 6])) t3 (.tup [.int 2, .int 12]) t1 = some (.tup [.int 3, .int 8]) := (Same.upd nt3) _ _ ((Same.upd nt2) _ _ upd_same)
    have ht2 : upd (upd (upd H4 t1 (.tup [.int 3, .int 8])) t2 (.tup [.int 4, .int 6])) t3 (.tup [.int 2, .int 12]) t2 = some (.tup [.int 4, .int 6]) := (Same.upd nt3) _ _ upd_same
    have ht3 : upd (upd (upd H4 t1 (.tup [.int 3, .int 8])) t2 (.tup [.int 4, .int 6])) t3 (.tup [.int 2, .int 12]) t3 = some (.tup [.int 2, .int 12]) := upd_same
    have s5 : Same H4 (upd (upd (upd H4 t1 (.tup [.int 3, .int 8])) t2 (.tup [.int 4, .int 6])) t3 (.tup [.int 2, .int 12])) := (Same.upd nt1).trans ((Same.upd nt2).trans (Same.upd nt3))
    generalize upd (upd (upd H4 t1 (.tup [.int 3, .int 8])) t2 (.tup [.int 4, .int 6])) t3 (.tup [.int 2, .int 12]) = H5 at ht1 ht2 ht3 s5 ⊢
    have bx5 := bx4.same s5
    refine ⟨by show 3 ≤ sizeLine; decide, fun p np => ?_⟩
    have s6 := Same.upd (o := .lst [.ref t1, .ref t2, .ref t3]) np
    have hp6 : upd H5 p (.lst [.ref t1, .ref t2, .ref t3]) p = some (.lst [.ref t1, .ref t2, .ref t3]) := upd_same
    have pb : p ≠ b := bx5.ne np
    have bx6 := bx5.same s6
    generalize upd H5 p (.lst [.ref t1, .ref t2, .ref t3]) = H6 at s6 hp6 bx6 ⊢
    refine ⟨_, rfl, b, 3, rfl, bx6, by decide, by decide, fun r H7 hr bx7 s7 => ?_⟩
    have ts7 : TSame H5 H7 := (TSame.of s6).trans (TSame.box bx6 s7)
    obtain ⟨t, many, top, hat, ht, c1, c2, c3, c4, c5⟩ : ∃ (t : Addr) (many top : Nat), atI [V.ref t1, .ref t2, .ref t3] (r : Int) = some (.ref t) ∧ H7 t = some (.tup [.int (many : Int), .int (top : Int)]) ∧ 1 ≤ many ∧ many ≤ 4 ∧ 1 ≤ top ∧ top ≤ 12 ∧ many * top ≤ 24 := by
      have h3 : r = 0 ∨ r = 1 ∨ r = 2 := by omega
      rcases h3 with g | g | g <;> subst g
      · exact ⟨t1, 3, 8, rfl, ts7 _ _ ht1, by decide, by decide, by decide, by decide, by decide⟩
      · exact ⟨t2, 4, 6, rfl, ts7 _ _ ht2, by decide, by decide, by decide, by decide, by decide⟩
      · exact ⟨t3, 2, 12, rfl, ts7 _ _ ht3, by decide, by decide, by decide, by decide, by decide⟩
    refine ⟨p, _, _, _, rfl, rfl, SqL.of (s7 _ _ hp6 pb), hat, ?_⟩
    refine ⟨t, _, rfl, SqT.of ht, rfl, _, _, rfl, _, _, rfl, rfl, ?_⟩
    have s27 : Same H2 H7 := SameB.same nb s3 (((s4.after s5).after s6).trans s7)
    refine ⟨_, rfl, _, rfl, _, rfl, _, rfl, _, rfl, _, rfl, b, y, many, top, rfl, bx7, hy, by omega, by omega, c1, c2, c3, c4, c5, fun wt ws H8 nw wb hw ok hne bx8 s8 => ?_⟩
    refine ⟨b, y, wt, ws, rfl, bx8, hy, by omega, ok, hne, hw, fun H9 bx9 s9 => ?_⟩
    refine ⟨_, rfl, iteN rfl ?_⟩
    have nb7 : H2 b = none := nb
    exact ⟨_, _, _, _, _, rfl, s2.trans (SameB.same nb s3 ((((s4.after s5).after s6).trans s7).trans (s8.trans s9)))⟩
  · rintro σ H2 ⟨v1, v2, v3, v4, v5, rfl, s2⟩
    exact q _
end
theorem all_mk {l : PySem.W.OpenLaw} {w : World} {K : PySem.W.Frag} {h : Heap} {mg : Str → Option Value} {fa f0 f1 f2 f3 f4 f5 f6 f7 f8 f9 f10 f11 f12 f13 f14 f15 f16 f17 f18 f19 f20 f21 f22 f23 f24 f25 f26 f27 f28 f29 : Addr} (X : K.In h) (G : h.Ns mainGlobals mg) (hfa : mg "law" = some (.ref fa))
    {od0 an0 od1 an1 od2 an2 od3 an3 od4 an4 od5 an5 od6 an6 od7 an7 od8 an8 od9 an9 od10 an10 od11 an11 od12 an12 od13 an13 od14 an14 od15 an15 od16 an16 od17 an17 od18 an18 od19 an19 od20 an20 od21 an21 od22 an22 od23 an23 od24 an24 od25 an25 od26 an26 od27 an27 od28 an28 od29 an29 : Option Addr} {sl0 sl1 sl2 sl3 sl4 sl5 sl6 sl7 sl8 sl9 sl10 sl11 sl12 sl13 sl14 sl15 sl16 sl17 sl18 sl19 sl20 sl21 sl22 sl23 sl24 sl25 sl26 sl27 sl28 sl29 : Array (Option Value)} {oc0 kV0 dc0 pm0 cd0 ct0 oc1 kV1 dc1 pm1 cd1 ct1 oc2 kV2 dc2 pm2 cd2 ct2 oc3 kV3 dc3 pm3 cd3 ct3 oc4 kV4 dc4 pm4 cd4 ct4 oc5 kV5 dc5 pm5 cd5 ct5 oc6 kV6 dc6 pm6 cd6 ct6 oc7 kV7 dc7 pm7 cd7 ct7 oc8 kV8 dc8 pm8 cd8 ct8 oc9 kV9 dc9 pm9 cd9 ct9 oc10 kV10 dc10 pm10 cd10 ct10 oc11 kV11 dc11 pm11 cd11 ct11 oc12 kV12 dc12 pm12 cd12 ct12 oc13 kV13 dc13 pm13 cd13 ct13 oc14 kV14 dc14 pm14 cd14 ct14 oc15 kV15 dc15 pm15 cd15 ct15 oc16 kV16 dc16 pm16 cd16 ct16 oc17 kV17 dc17 pm17 cd17 ct17 oc18 kV18 dc18 pm18 cd18 ct18 oc19 kV19 dc19 pm19 cd19 ct19 oc20 kV20 dc20 pm20 cd20 ct20 oc21 kV21 dc21 pm21 cd21 ct21 oc22 kV22 dc22 pm22 cd22 ct22 oc23 kV23 dc23 pm23 cd23 ct23 oc24 kV24 dc24 pm24 cd24 ct24 oc25 kV25 dc25 pm25 cd25 ct25 oc26 kV26 dc26 pm26 cd26 ct26 oc27 kV27 dc27 pm27 cd27 ct27 oc28 kV28 dc28 pm28 cd28 ct28 oc29 kV29 dc29 pm29 cd29 ct29 : Value}
    (a0 : PySem.W.nsIn K mainGlobals "contrary" = some (some (.ref f0)))
    (l0 : K.lookup f0 = some ⟨oc0, od0, .func (PySem.W.fnOf "contrary" "contrary" (defArgs s_contrary) (defBody s_contrary) (defScope s_contrary) .none kV0 dc0 pm0 an0 cd0 ct0), sl0⟩)
    (c0 : PySem.W.codeIn K cd0 "contrary" = true)
    (k0 : PySem.W.keepIn K (.ref f0) = true)
    (a1 : PySem.W.nsIn K mainGlobals "turned" = some (some (.ref f1)))
    (l1 : K.lookup f1 = some ⟨oc1, od1, .func (PySem.W.fnOf "turned" "turned" (defArgs s_turned) (defBody s_turned) (defScope s_turned) .none kV1 dc1 pm1 an1 cd1 ct1), sl1⟩)
    (c1 : PySem.W.codeIn K cd1 "turned" = true)
    (k1 : PySem.W.keepIn K (.ref f1) = true)
    (a2 : PySem.W.nsIn K mainGlobals "steps_round" = some (some (.ref f2)))
    (l2 : K.lookup f2 = some ⟨oc2, od2, .func (PySem.W.fnOf "steps_round" "steps_round" (defArgs s_steps_round) (defBody s_steps_round) (defScope s_steps_round) .none kV2 dc2 pm2 an2 cd2 ct2), sl2⟩)
    (c2 : PySem.W.codeIn K cd2 "steps_round" = true)
    (k2 : PySem.W.keepIn K (.ref f2) = true)
    (a3 : PySem.W.nsIn K mainGlobals "goes_round" = some (some (.ref f3)))
    (l3 : K.lookup f3 = some ⟨oc3, od3, .func (PySem.W.fnOf "goes_round" "goes_round" (defArgs s_goes_round) (defBody s_goes_round) (defScope s_goes_round) .none kV3 dc3 pm3 an3 cd3 ct3), sl3⟩)
    (c3 : PySem.W.codeIn K cd3 "goes_round" = true)
    (k3 : PySem.W.keepIn K (.ref f3) = true)
    (a4 : PySem.W.nsIn K mainGlobals "corner_ends" = some (some (.ref f4)))
    (l4 : K.lookup f4 = some ⟨oc4, od4, .func (PySem.W.fnOf "corner_ends" "corner_ends" (defArgs s_corner_ends) (defBody s_corner_ends) (defScope s_corner_ends) .none kV4 dc4 pm4 an4 cd4 ct4), sl4⟩)
    (c4 : PySem.W.codeIn K cd4 "corner_ends" = true)
    (k4 : PySem.W.keepIn K (.ref f4) = true)
    (a5 : PySem.W.nsIn K mainGlobals "meets_across" = some (some (.ref f5)))
    (l5 : K.lookup f5 = some ⟨oc5, od5, .func (PySem.W.fnOf "meets_across" "meets_across" (defArgs s_meets_across) (defBody s_meets_across) (defScope s_meets_across) .none kV5 dc5 pm5 an5 cd5 ct5), sl5⟩)
    (c5 : PySem.W.codeIn K cd5 "meets_across" = true)
    (k5 : PySem.W.keepIn K (.ref f5) = true)
    (a6 : PySem.W.nsIn K mainGlobals "letters_shared" = some (some (.ref f6)))
    (l6 : K.lookup f6 = some ⟨oc6, od6, .func (PySem.W.fnOf "letters_shared" "letters_shared" (defArgs s_letters_shared) (defBody s_letters_shared) (defScope s_letters_shared) .none kV6 dc6 pm6 an6 cd6 ct6), sl6⟩)
    (c6 : PySem.W.codeIn K cd6 "letters_shared" = true)
    (k6 : PySem.W.keepIn K (.ref f6) = true)
    (a7 : PySem.W.nsIn K mainGlobals "letters_along" = some (some (.ref f7)))
    (l7 : K.lookup f7 = some ⟨oc7, od7, .func (PySem.W.fnOf "letters_along" "letters_along" (defArgs s_letters_along) (defBody s_letters_along) (defScope s_letters_along) .none kV7 dc7 pm7 an7 cd7 ct7), sl7⟩)
    (c7 : PySem.W.codeIn K cd7 "letters_along" = true)
    (k7 : PySem.W.keepIn K (.ref f7) = true)
    (a8 : PySem.W.nsIn K mainGlobals "forced_onward" = some (some (.ref f8)))
    (l8 : K.lookup f8 = some ⟨oc8, od8, .func (PySem.W.fnOf "forced_onward" "forced_onward" (defArgs s_forced_onward) (defBody s_forced_onward) (defScope s_forced_onward) .none kV8 dc8 pm8 an8 cd8 ct8), sl8⟩)
    (c8 : PySem.W.codeIn K cd8 "forced_onward" = true)
    (k8 : PySem.W.keepIn K (.ref f8) = true)
    (a9 : PySem.W.nsIn K mainGlobals "forced_against" = some (some (.ref f9)))
    (l9 : K.lookup f9 = some ⟨oc9, od9, .func (PySem.W.fnOf "forced_against" "forced_against" (defArgs s_forced_against) (defBody s_forced_against) (defScope s_forced_against) .none kV9 dc9 pm9 an9 cd9 ct9), sl9⟩)
    (c9 : PySem.W.codeIn K cd9 "forced_against" = true)
    (k9 : PySem.W.keepIn K (.ref f9) = true)
    (a10 : PySem.W.nsIn K mainGlobals "forced_at" = some (some (.ref f10)))
    (l10 : K.lookup f10 = some ⟨oc10, od10, .func (PySem.W.fnOf "forced_at" "forced_at" (defArgs s_forced_at) (defBody s_forced_at) (defScope s_forced_at) .none kV10 dc10 pm10 an10 cd10 ct10), sl10⟩)
    (c10 : PySem.W.codeIn K cd10 "forced_at" = true)
    (k10 : PySem.W.keepIn K (.ref f10) = true)
    (a11 : PySem.W.nsIn K mainGlobals "is_strand" = some (some (.ref f11)))
    (l11 : K.lookup f11 = some ⟨oc11, od11, .func (PySem.W.fnOf "is_strand" "is_strand" (defArgs s_is_strand) (defBody s_is_strand) (defScope s_is_strand) .none kV11 dc11 pm11 an11 cd11 ct11), sl11⟩)
    (c11 : PySem.W.codeIn K cd11 "is_strand" = true)
    (k11 : PySem.W.keepIn K (.ref f11) = true)
    (a12 : PySem.W.nsIn K mainGlobals "is_forced" = some (some (.ref f12)))
    (l12 : K.lookup f12 = some ⟨oc12, od12, .func (PySem.W.fnOf "is_forced" "is_forced" (defArgs s_is_forced) (defBody s_is_forced) (defScope s_is_forced) .none kV12 dc12 pm12 an12 cd12 ct12), sl12⟩)
    (c12 : PySem.W.codeIn K cd12 "is_forced" = true)
    (k12 : PySem.W.keepIn K (.ref f12) = true)
    (a13 : PySem.W.nsIn K mainGlobals "_law_box" = some (some (.ref f13)))
    (l13 : K.lookup f13 = some ⟨oc13, od13, .func (PySem.W.fnOf "_law_box" "_law_box" (defArgs s_Lbox) (defBody s_Lbox) (defScope s_Lbox) .none kV13 dc13 pm13 an13 cd13 ct13), sl13⟩)
    (c13 : PySem.W.codeIn K cd13 "_law_box" = true)
    (k13 : PySem.W.keepIn K (.ref f13) = true)
    (a14 : PySem.W.nsIn K mainGlobals "_law_take" = some (some (.ref f14)))
    (l14 : K.lookup f14 = some ⟨oc14, od14, .func (PySem.W.fnOf "_law_take" "_law_take" (defArgs s_Ltake) (defBody s_Ltake) (defScope s_Ltake) .none kV14 dc14 pm14 an14 cd14 ct14), sl14⟩)
    (c14 : PySem.W.codeIn K cd14 "_law_take" = true)
    (k14 : PySem.W.keepIn K (.ref f14) = true)
    (a15 : PySem.W.nsIn K mainGlobals "_law_other" = some (some (.ref f15)))
    (l15 : K.lookup f15 = some ⟨oc15, od15, .func (PySem.W.fnOf "_law_other" "_law_other" (defArgs s_Lother) (defBody s_Lother) (defScope s_Lother) .none kV15 dc15 pm15 an15 cd15 ct15), sl15⟩)
    (c15 : PySem.W.codeIn K cd15 "_law_other" = true)
    (k15 : PySem.W.keepIn K (.ref f15) = true)
    (a16 : PySem.W.nsIn K mainGlobals "_law_yard" = some (some (.ref f16)))
    (l16 : K.lookup f16 = some ⟨oc16, od16, .func (PySem.W.fnOf "_law_yard" "_law_yard" (defArgs s_Lyard) (defBody s_Lyard) (defScope s_Lyard) .none kV16 dc16 pm16 an16 cd16 ct16), sl16⟩)
    (c16 : PySem.W.codeIn K cd16 "_law_yard" = true)
    (k16 : PySem.W.keepIn K (.ref f16) = true)
    (a17 : PySem.W.nsIn K mainGlobals "_law_short" = some (some (.ref f17)))
    (l17 : K.lookup f17 = some ⟨oc17, od17, .func (PySem.W.fnOf "_law_short" "_law_short" (defArgs s_Lshort) (defBody s_Lshort) (defScope s_Lshort) .none kV17 dc17 pm17 an17 cd17 ct17), sl17⟩)
    (c17 : PySem.W.codeIn K cd17 "_law_short" = true)
    (k17 : PySem.W.keepIn K (.ref f17) = true)
    (a18 : PySem.W.nsIn K mainGlobals "_law_near" = some (some (.ref f18)))
    (l18 : K.lookup f18 = some ⟨oc18, od18, .func (PySem.W.fnOf "_law_near" "_law_near" (defArgs s_Lnear) (defBody s_Lnear) (defScope s_Lnear) .none kV18 dc18 pm18 an18 cd18 ct18), sl18⟩)
    (c18 : PySem.W.codeIn K cd18 "_law_near" = true)
    (k18 : PySem.W.keepIn K (.ref f18) = true)
    (a19 : PySem.W.nsIn K mainGlobals "_law_round" = some (some (.ref f19)))
    (l19 : K.lookup f19 = some ⟨oc19, od19, .func (PySem.W.fnOf "_law_round" "_law_round" (defArgs s_Lround) (defBody s_Lround) (defScope s_Lround) .none kV19 dc19 pm19 an19 cd19 ct19), sl19⟩)
    (c19 : PySem.W.codeIn K cd19 "_law_round" = true)
    (k19 : PySem.W.keepIn K (.ref f19) = true)
    (a20 : PySem.W.nsIn K mainGlobals "_law_on" = some (some (.ref f20)))
    (l20 : K.lookup f20 = some ⟨oc20, od20, .func (PySem.W.fnOf "_law_on" "_law_on" (defArgs s_Lon) (defBody s_Lon) (defScope s_Lon) .none kV20 dc20 pm20 an20 cd20 ct20), sl20⟩)
    (c20 : PySem.W.codeIn K cd20 "_law_on" = true)
    (k20 : PySem.W.keepIn K (.ref f20) = true)
    (a21 : PySem.W.nsIn K mainGlobals "_law_across" = some (some (.ref f21)))
    (l21 : K.lookup f21 = some ⟨oc21, od21, .func (PySem.W.fnOf "_law_across" "_law_across" (defArgs s_Lacross) (defBody s_Lacross) (defScope s_Lacross) .none kV21 dc21 pm21 an21 cd21 ct21), sl21⟩)
    (c21 : PySem.W.codeIn K cd21 "_law_across" = true)
    (k21 : PySem.W.keepIn K (.ref f21) = true)
    (a22 : PySem.W.nsIn K mainGlobals "_law_shared" = some (some (.ref f22)))
    (l22 : K.lookup f22 = some ⟨oc22, od22, .func (PySem.W.fnOf "_law_shared" "_law_shared" (defArgs s_Lshared) (defBody s_Lshared) (defScope s_Lshared) .none kV22 dc22 pm22 an22 cd22 ct22), sl22⟩)
    (c22 : PySem.W.codeIn K cd22 "_law_shared" = true)
    (k22 : PySem.W.keepIn K (.ref f22) = true)
    (a23 : PySem.W.nsIn K mainGlobals "_law_begins" = some (some (.ref f23)))
    (l23 : K.lookup f23 = some ⟨oc23, od23, .func (PySem.W.fnOf "_law_begins" "_law_begins" (defArgs s_Lbegins) (defBody s_Lbegins) (defScope s_Lbegins) .none kV23 dc23 pm23 an23 cd23 ct23), sl23⟩)
    (c23 : PySem.W.codeIn K cd23 "_law_begins" = true)
    (k23 : PySem.W.keepIn K (.ref f23) = true)
    (a24 : PySem.W.nsIn K mainGlobals "_law_forced" = some (some (.ref f24)))
    (l24 : K.lookup f24 = some ⟨oc24, od24, .func (PySem.W.fnOf "_law_forced" "_law_forced" (defArgs s_Lforced) (defBody s_Lforced) (defScope s_Lforced) .none kV24 dc24 pm24 an24 cd24 ct24), sl24⟩)
    (c24 : PySem.W.codeIn K cd24 "_law_forced" = true)
    (k24 : PySem.W.keepIn K (.ref f24) = true)
    (a25 : PySem.W.nsIn K mainGlobals "_law_words" = some (some (.ref f25)))
    (l25 : K.lookup f25 = some ⟨oc25, od25, .func (PySem.W.fnOf "_law_words" "_law_words" (defArgs s_Lwords) (defBody s_Lwords) (defScope s_Lwords) .none kV25 dc25 pm25 an25 cd25 ct25), sl25⟩)
    (c25 : PySem.W.codeIn K cd25 "_law_words" = true)
    (k25 : PySem.W.keepIn K (.ref f25) = true)
    (a26 : PySem.W.nsIn K mainGlobals "_law_any_thing" = some (some (.ref f26)))
    (l26 : K.lookup f26 = some ⟨oc26, od26, .func (PySem.W.fnOf "_law_any_thing" "_law_any_thing" (defArgs s_Lanything) (defBody s_Lanything) (defScope s_Lanything) .none kV26 dc26 pm26 an26 cd26 ct26), sl26⟩)
    (c26 : PySem.W.codeIn K cd26 "_law_any_thing" = true)
    (k26 : PySem.W.keepIn K (.ref f26) = true)
    (a27 : PySem.W.nsIn K mainGlobals "_law_otherwise" = some (some (.ref f27)))
    (l27 : K.lookup f27 = some ⟨oc27, od27, .func (PySem.W.fnOf "_law_otherwise" "_law_otherwise" (defArgs s_Lotherwise) (defBody s_Lotherwise) (defScope s_Lotherwise) .none kV27 dc27 pm27 an27 cd27 ct27), sl27⟩)
    (c27 : PySem.W.codeIn K cd27 "_law_otherwise" = true)
    (k27 : PySem.W.keepIn K (.ref f27) = true)
    (a28 : PySem.W.nsIn K mainGlobals "_law_right" = some (some (.ref f28)))
    (l28 : K.lookup f28 = some ⟨oc28, od28, .func (PySem.W.fnOf "_law_right" "_law_right" (defArgs s_Lright) (defBody s_Lright) (defScope s_Lright) .none kV28 dc28 pm28 an28 cd28 ct28), sl28⟩)
    (c28 : PySem.W.codeIn K cd28 "_law_right" = true)
    (k28 : PySem.W.keepIn K (.ref f28) = true)
    (a29 : PySem.W.nsIn K mainGlobals "law" = some (some (.ref f29)))
    (l29 : K.lookup f29 = some ⟨oc29, od29, .func (PySem.W.fnOf "law" "law" (defArgs s_law) (defBody s_law) (defScope s_law) .none kV29 dc29 pm29 an29 cd29 ct29), sl29⟩)
    (c29 : PySem.W.codeIn K cd29 "law" = true)
    (k29 : PySem.W.keepIn K (.ref f29) = true)
    (z_all : PySem.W.nsIn K mainGlobals "all" = some none)
    (z_bool : PySem.W.nsIn K mainGlobals "bool" = some none)
    (z_enumerate : PySem.W.nsIn K mainGlobals "enumerate" = some none)
    (z_int : PySem.W.nsIn K mainGlobals "int" = some none)
    (z_isinstance : PySem.W.nsIn K mainGlobals "isinstance" = some none)
    (z_len : PySem.W.nsIn K mainGlobals "len" = some none)
    (z_list : PySem.W.nsIn K mainGlobals "list" = some none)
    (z_range : PySem.W.nsIn K mainGlobals "range" = some none)
    (z_reversed : PySem.W.nsIn K mainGlobals "reversed" = some none)
    (z_set : PySem.W.nsIn K mainGlobals "set" = some none)
    (z_sorted : PySem.W.nsIn K mainGlobals "sorted" = some none)
    (z_tuple : PySem.W.nsIn K mainGlobals "tuple" = some none) :
    ∃ fd : FuncData, (∀ (s : Shared) (v : Value), BindsTo s fd ⟨[v], []⟩ [("_law_script", v)]) ∧ ∀ base : Heap, K.In base → base.Ns mainGlobals mg → FnOk l.prog w K mg base CX0 8 fa fd ["_law_script"] (sp_law K) := by
  have e := hfa.symm.trans (PySem.W.mg_of X G a29)
  cases e
  have F0 := fun_mk (st := s_contrary) l0 c0 k0
  have b0 := F0.binds (ps := ["letter"]) fun _ _ _ _ _ _ us hl => match us, hl with | [_], _ => rfl
  have F1 := fun_mk (st := s_turned) l1 c1 k1
  have b1 := F1.binds (ps := ["word"]) fun _ _ _ _ _ _ us hl => match us, hl with | [_], _ => rfl
  have F2 := fun_mk (st := s_steps_round) l2 c2 k2
  have b2 := F2.binds (ps := ["yard", "start", "end"]) fun _ _ _ _ _ _ us hl => match us, hl with | [_, _, _], _ => rfl
  have F3 := fun_mk (st := s_goes_round) l3 c3 k3
  have b3 := F3.binds (ps := ["yard", "x", "y", "z"]) fun _ _ _ _ _ _ us hl => match us, hl with | [_, _, _, _], _ => rfl
  have F4 := fun_mk (st := s_corner_ends) l4 c4 k4
  have b4 := F4.binds (ps := ["word", "place"]) fun _ _ _ _ _ _ us hl => match us, hl with | [_, _], _ => rfl
  have F5 := fun_mk (st := s_meets_across) l5 c5 k5
  have b5 := F5.binds (ps := ["yard", "one", "i", "other", "j"]) fun _ _ _ _ _ _ us hl => match us, hl with | [_, _, _, _, _], _ => rfl
  have F6 := fun_mk (st := s_letters_shared) l6 c6 k6
  have b6 := F6.binds (ps := ["one", "i", "other", "j"]) fun _ _ _ _ _ _ us hl => match us, hl with | [_, _, _, _], _ => rfl
  have F7 := fun_mk (st := s_letters_along) l7 c7 k7
  have b7 := F7.binds (ps := ["yard", "one", "i", "other", "j"]) fun _ _ _ _ _ _ us hl => match us, hl with | [_, _, _, _, _], _ => rfl
  have F8 := fun_mk (st := s_forced_onward) l8 c8 k8
  have b8 := F8.binds (ps := ["yard", "words", "one", "other"]) fun _ _ _ _ _ _ us hl => match us, hl with | [_, _, _, _], _ => rfl
  have F9 := fun_mk (st := s_forced_against) l9 c9 k9
  have b9 := F9.binds (ps := ["yard", "words", "backs", "one", "other"]) fun _ _ _ _ _ _ us hl => match us, hl with | [_, _, _, _, _], _ => rfl
  have F10 := fun_mk (st := s_forced_at) l10 c10 k10
  have b10 := F10.binds (ps := ["yard", "words", "backs", "one", "other"]) fun _ _ _ _ _ _ us hl => match us, hl with | [_, _, _, _, _], _ => rfl
  have F11 := fun_mk (st := s_is_strand) l11 c11 k11
  have b11 := F11.binds (ps := ["words", "cord", "place"]) fun _ _ _ _ _ _ us hl => match us, hl with | [_, _, _], _ => rfl
  have F12 := fun_mk (st := s_is_forced) l12 c12 k12
  have b12 := F12.binds (ps := ["yard", "words", "thing"]) fun _ _ _ _ _ _ us hl => match us, hl with | [_, _, _], _ => rfl
  have F13 := fun_mk (st := s_Lbox) l13 c13 k13
  have b13 := F13.binds (ps := ["_law_script", "_law_k"]) fun _ _ _ _ _ _ us hl => match us, hl with | [_, _], _ => rfl
  have F14 := fun_mk (st := s_Ltake) l14 c14 k14
  have b14 := F14.binds (ps := ["_law_box_here", "_law_many"]) fun _ _ _ _ _ _ us hl => match us, hl with | [_, _], _ => rfl
  have F15 := fun_mk (st := s_Lother) l15 c15 k15
  have b15 := F15.binds (ps := ["_law_letter"]) fun _ _ _ _ _ _ us hl => match us, hl with | [_], _ => rfl
  have F16 := fun_mk (st := s_Lyard) l16 c16 k16
  have b16 := F16.binds (ps := ["_law_box_here", "_law_few", "_law_top"]) fun _ _ _ _ _ _ us hl => match us, hl with | [_, _, _], _ => rfl
  have F17 := fun_mk (st := s_Lshort) l17 c17 k17
  have b17 := F17.binds (ps := ["_law_box_here", "_law_yard_here", "_law_top"]) fun _ _ _ _ _ _ us hl => match us, hl with | [_, _, _], _ => rfl
  have F18 := fun_mk (st := s_Lnear) l18 c18 k18
  have b18 := F18.binds (ps := ["_law_box_here", "_law_yard_here", "_law_word", "_law_top"]) fun _ _ _ _ _ _ us hl => match us, hl with | [_, _, _, _], _ => rfl
  have F19 := fun_mk (st := s_Lround) l19 c19 k19
  have b19 := F19.binds (ps := ["_law_yard_here", "_law_x", "_law_y", "_law_z"]) fun _ _ _ _ _ _ us hl => match us, hl with | [_, _, _, _], _ => rfl
  have F20 := fun_mk (st := s_Lon) l20 c20 k20
  have b20 := F20.binds (ps := ["_law_word", "_law_k"]) fun _ _ _ _ _ _ us hl => match us, hl with | [_, _], _ => rfl
  have F21 := fun_mk (st := s_Lacross) l21 c21 k21
  have b21 := F21.binds (ps := ["_law_yard_here", "_law_w", "_law_i", "_law_v", "_law_j"]) fun _ _ _ _ _ _ us hl => match us, hl with | [_, _, _, _, _], _ => rfl
  have F22 := fun_mk (st := s_Lshared) l22 c22 k22
  have b22 := F22.binds (ps := ["_law_w", "_law_i", "_law_v", "_law_j", "_law_counter"]) fun _ _ _ _ _ _ us hl => match us, hl with | [_, _, _, _, _], _ => rfl
  have F23 := fun_mk (st := s_Lbegins) l23 c23 k23
  have b23 := F23.binds (ps := ["_law_yard_here", "_law_w", "_law_i", "_law_v", "_law_j", "_law_counter"]) fun _ _ _ _ _ _ us hl => match us, hl with | [_, _, _, _, _, _], _ => rfl
  have F24 := fun_mk (st := s_Lforced) l24 c24 k24
  have b24 := F24.binds (ps := ["_law_yard_here", "_law_words_here"]) fun _ _ _ _ _ _ us hl => match us, hl with | [_, _], _ => rfl
  have F25 := fun_mk (st := s_Lwords) l25 c25 k25
  have b25 := F25.binds (ps := ["_law_box_here", "_law_yard_here", "_law_many", "_law_top"]) fun _ _ _ _ _ _ us hl => match us, hl with | [_, _, _, _], _ => rfl
  have F26 := fun_mk (st := s_Lanything) l26 c26 k26
  have b26 := F26.binds (ps := ["_law_box_here", "_law_words_here", "_law_due"]) fun _ _ _ _ _ _ us hl => match us, hl with | [_, _, _], _ => rfl
  have F27 := fun_mk (st := s_Lotherwise) l27 c27 k27
  have b27 := F27.binds (ps := ["_law_box_here", "_law_words_here", "_law_thing"]) fun _ _ _ _ _ _ us hl => match us, hl with | [_, _, _], _ => rfl
  have F28 := fun_mk (st := s_Lright) l28 c28 k28
  have b28 := F28.binds (ps := ["_law_box_here", "_law_yard_here", "_law_words_here"]) fun _ _ _ _ _ _ us hl => match us, hl with | [_, _, _], _ => rfl
  have F29 := fun_mk (st := s_law) l29 c29 k29
  have b29 := F29.binds (ps := ["_law_script"]) fun _ _ _ _ _ _ us hl => match us, hl with | [_], _ => rfl
  have T : Txt K mg _ _ _ _ _ _ _ _ _ _ _ _ _ _ _ _ _ _ _ _ _ _ _ _ _ _ _ _ _ _ _ _ _ _ _ _ _ _ _ _ _ _ _ _ _ _ _ _ _ _ _ _ _ _ _ _ _ _ _ _ := ⟨⟨F0, PySem.W.mg_of X G a0, b0⟩, ⟨F1, PySem.W.mg_of X G a1, b1⟩, ⟨F2, PySem.W.mg_of X G a2, b2⟩, ⟨F3, PySem.W.mg_of X G a3, b3⟩, ⟨F4, PySem.W.mg_of X G a4, b4⟩, ⟨F5, PySem.W.mg_of X G a5, b5⟩, ⟨F6, PySem.W.mg_of X G a6, b6⟩, ⟨F7, PySem.W.mg_of X G a7, b7⟩, ⟨F8, PySem.W.mg_of X G a8, b8⟩, ⟨F9, PySem.W.mg_of X G a9, b9⟩, ⟨F10, PySem.W.mg_of X G a10, b10⟩, ⟨F11, PySem.W.mg_of X G a11, b11⟩, ⟨F12, PySem.W.mg_of X G a12, b12⟩, ⟨F13, PySem.W.mg_of X G a13, b13⟩, ⟨F14, PySem.W.mg_of X G a14, b14⟩, ⟨F15, PySem.W.mg_of X G a15, b15⟩, ⟨F16, PySem.W.mg_of X G a16, b16⟩, ⟨F17, PySem.W.mg_of X G a17, b17⟩, ⟨F18, PySem.W.mg_of X G a18, b18⟩, ⟨F19, PySem.W.mg_of X G a19, b19⟩, ⟨F20, PySem.W.mg_of X G a20, b20⟩, ⟨F21, PySem.W.mg_of X G a21, b21⟩, ⟨F22, PySem.W.mg_of X G a22, b22⟩, ⟨F23, PySem.W.mg_of X G a23, b23⟩, ⟨F24, PySem.W.mg_of X G a24, b24⟩, ⟨F25, PySem.W.mg_of X G a25, b25⟩, ⟨F26, PySem.W.mg_of X G a26, b26⟩, ⟨F27, PySem.W.mg_of X G a27, b27⟩, ⟨F28, PySem.W.mg_of X G a28, b28⟩, ⟨F29, PySem.W.mg_of X G a29, b29⟩, PySem.W.mg_none_of X G z_all, PySem.W.mg_none_of X G z_bool, PySem.W.mg_none_of X G z_enumerate, PySem.W.mg_none_of X G z_int, PySem.W.mg_none_of X G z_isinstance, PySem.W.mg_none_of X G z_len, PySem.W.mg_none_of X G z_list, PySem.W.mg_none_of X G z_range, PySem.W.mg_none_of X G z_reversed, PySem.W.mg_none_of X G z_set, PySem.W.mg_none_of X G z_sorted, PySem.W.mg_none_of X G z_tuple⟩
  exact ⟨_, fun s v => .of_eq rfl, fun base _ _ => ok_law T⟩
theorem walk {l : PySem.W.OpenLaw} {q : Program} {loose : List Str} {XP : (Str → Option Value) → Heap → Prop} {YP : World → Heap → Prop} {d : DefRec} {K : Params → PySem.W.Frag} (hn : l.most = some 63) (hdf : d.params.defaults = [])
    (hY : ∀ (w : World) (h : Heap), YP w h → (K w.params).In h)
    (F : ∀ (w : World) (mg : Str → Option Value) (fa : Addr) (h : Heap), (K w.params).In h → h.Ns mainGlobals mg → mg d.name = some (.ref fa) →
      ∃ fd : FuncData, (∀ (s : Shared) (u : Value), BindsTo s fd ⟨[u], []⟩ [("_law_script", u)]) ∧ ∀ base : Heap, (K w.params).In base → base.Ns mainGlobals mg → FnOk l.prog w (K w.params) mg base CX0 8 fa fd ["_law_script"] (sp_law (K w.params))) :
    PySem.W.WalkO q loose XP YP l.row.toRowW d [] (fun f vs => PySem.call f vs) :=
  L2.walk_of (n := 63) (k := 8) (x := "_law_script") (CX := fun _ => CX0) (sp := fun w => sp_law (K w.params)) hn (by decide) hdf ⟨rfl, by decide, by decide, rfl⟩ hY F (fun _ _ a ns hl _ hS => ⟨a, ns, rfl, hS, hl, fun _ => rfl⟩) fun _ _ _ _ _ z => z
end My
open PySem PySem.W PyProof.Rows
set_option maxRecDepth 100000 in
set_option maxHeartbeats 0 in
theorem PySem.Challenge.cw_mustmeet_k27_what_is_forced_holds : PySem.Challenge.rw_mustmeet_k27_what_is_forced.Holds := by
  w_on; o_law; k_head; (case hw => w_witness2)
  k_fill
  refine My.walk (l := PySem.Challenge.rw_mustmeet_k27_what_is_forced) rfl rfl (fun w h Y => PySem.W.kIn_of Y) ?F
  case F =>
    intro w mg fa h KX G hmg
    refine' My.all_mk KX G hmg ?a0 ?l0 ?c0 ?k0 ?a1 ?l1 ?c1 ?k1 ?a2 ?l2 ?c2 ?k2 ?a3 ?l3 ?c3 ?k3 ?a4 ?l4 ?c4 ?k4 ?a5 ?l5 ?c5 ?k5 ?a6 ?l6 ?c6 ?k6 ?a7 ?l7 ?c7 ?k7 ?a8 ?l8 ?c8 ?k8 ?a9 ?l9 ?c9 ?k9 ?a10 ?l10 ?c10 ?k10 ?a11 ?l11 ?c11 ?k11 ?a12 ?l12 ?c12 ?k12 ?a13 ?l13 ?c13 ?k13 ?a14 ?l14 ?c14 ?k14 ?a15 ?l15 ?c15 ?k15 ?a16 ?l16 ?c16 ?k16 ?a17 ?l17 ?c17 ?k17 ?a18 ?l18 ?c18 ?k18 ?a19 ?l19 ?c19 ?k19 ?a20 ?l20 ?c20 ?k20 ?a21 ?l21 ?c21 ?k21 ?a22 ?l22 ?c22 ?k22 ?a23 ?l23 ?c23 ?k23 ?a24 ?l24 ?c24 ?k24 ?a25 ?l25 ?c25 ?k25 ?a26 ?l26 ?c26 ?k26 ?a27 ?l27 ?c27 ?k27 ?a28 ?l28 ?c28 ?k28 ?a29 ?l29 ?c29 ?k29 ?z_all ?z_bool ?z_enumerate ?z_int ?z_isinstance ?z_len ?z_list ?z_range ?z_reversed ?z_set ?z_sorted ?z_tuple
    (case a0 => k_is)
    (case l0 => k_is)
    (case c0 => k_is)
    (case k0 => k_is)
    (case a1 => k_is)
    (case l1 => k_is)
    (case c1 => k_is)
    (case k1 => k_is)
    (case a2 => k_is)
    (case l2 => k_is)
    (case c2 => k_is)
    (case k2 => k_is)
    (case a3 => k_is)
    (case l3 => k_is)
    (case c3 => k_is)
    (case k3 => k_is)
    (case a4 => k_is)
    (case l4 => k_is)
    (case c4 => k_is)
    (case k4 => k_is)
    (case a5 => k_is)
    (case l5 => k_is)
    (case c5 => k_is)
    (case k5 => k_is)
    (case a6 => k_is)
    (case l6 => k_is)
    (case c6 => k_is)
    (case k6 => k_is)
    (case a7 => k_is)
    (case l7 => k_is)
    (case c7 => k_is)
    (case k7 => k_is)
    (case a8 => k_is)
    (case l8 => k_is)
    (case c8 => k_is)
    (case k8 => k_is)
    (case a9 => k_is)
    (case l9 => k_is)
    (case c9 => k_is)
    (case k9 => k_is)
    (case a10 => k_is)
    (case l10 => k_is)
    (case c10 => k_is)
    (case k10 => k_is)
    (case a11 => k_is)
    (case l11 => k_is)
    (case c11 => k_is)
    (case k11 => k_is)
    (case a12 => k_is)
    (case l12 => k_is)
    (case c12 => k_is)
    (case k12 => k_is)
    (case a13 => k_is)
    (case l13 => k_is)
    (case c13 => k_is)
    (case k13 => k_is)
    (case a14 => k_is)
    (case l14 => k_is)
    (case c14 => k_is)
    (case k14 => k_is)
    (case a15 => k_is)
    (case l15 => k_is)
    (case c15 => k_is)
    (case k15 => k_is)
    (case a16 => k_is)
    (case l16 => k_is)
    (case c16 => k_is)
    (case k16 => k_is)
    (case a17 => k_is)
    (case l17 => k_is)
    (case c17 => k_is)
    (case k17 => k_is)
    (case a18 => k_is)
    (case l18 => k_is)
    (case c18 => k_is)
    (case k18 => k_is)
    (case a19 => k_is)
    (case l19 => k_is)
    (case c19 => k_is)
    (case k19 => k_is)
    (case a20 => k_is)
    (case l20 => k_is)
    (case c20 => k_is)
    (case k20 => k_is)
    (case a21 => k_is)
    (case l21 => k_is)
    (case c21 => k_is)
    (case k21 => k_is)
    (case a22 => k_is)
    (case l22 => k_is)
    (case c22 => k_is)
    (case k22 => k_is)
    (case a23 => k_is)
    (case l23 => k_is)
    (case c23 => k_is)
    (case k23 => k_is)
    (case a24 => k_is)
    (case l24 => k_is)
    (case c24 => k_is)
    (case k24 => k_is)
    (case a25 => k_is)
    (case l25 => k_is)
    (case c25 => k_is)
    (case k25 => k_is)
    (case a26 => k_is)
    (case l26 => k_is)
    (case c26 => k_is)
    (case k26 => k_is)
    (case a27 => k_is)
    (case l27 => k_is)
    (case c27 => k_is)
    (case k27 => k_is)
    (case a28 => k_is)
    (case l28 => k_is)
    (case c28 => k_is)
    (case k28 => k_is)
    (case a29 => k_is)
    (case l29 => k_is)
    (case c29 => k_is)
    (case k29 => k_is)
    (case z_all => k_is)
    (case z_bool => k_is)
    (case z_enumerate => k_is)
    (case z_int => k_is)
    (case z_isinstance => k_is)
    (case z_len => k_is)
    (case z_list => k_is)
    (case z_range => k_is)
    (case z_reversed => k_is)
    (case z_set => k_is)
    (case z_sorted => k_is)
    (case z_tuple => k_is)
