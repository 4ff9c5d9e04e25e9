import PyProof.Rows.All
import Wide.All
import OpenK.AllK
import Wide.FinOn
import Lean
import PyProof.EqAt
import PyProof.EqKinds
import PyProof.TupleCall
import PySem.Challenge.RW_mustmeet_k20_deeds_done
set_option Elab.async false
set_option linter.all false
set_option maxRecDepth 100000
namespace L2
open PySem PySem.Spec PyProof.Rows

noncomputable abbrev Key := Sum Int Str
noncomputable def keyIs : Key → Value → Bool
  | .inl k, v => Value.isInt k v
  | .inr x, v => Value.isStrOf x v
noncomputable def keyH (w : World) : Key → Int
  | .inl k => hashInt k
  | .inr x => hashStr w x
theorem keyIs_shape : ∀ {k : Key} {v : Value}, keyIs k v = true → (∃ i t, k = Sum.inl i ∧ v = Value.int i t) ∨ (∃ x t, k = Sum.inr x ∧ v = Value.str x t)
  | .inl i, v, h => by
    obtain ⟨t, e⟩ := Value.isInt_shape (k := i) (v := v) h
    exact .inl ⟨i, t, rfl, e⟩
  | .inr x, v, h => by
    obtain ⟨t, e⟩ := Value.isStrOf_shape (x := x) (v := v) h
    exact .inr ⟨x, t, rfl, e⟩
theorem keyIs_int (i : Int) (t : Tok) : keyIs (.inl i) (.int i t) = true := by simp [keyIs, Value.isInt]
theorem keyIs_str (x : Str) (t : Tok) : keyIs (.inr x) (.str x t) = true := by simp [keyIs, Value.isStrOf]
theorem key_ll (a b : Int) : decide ((Sum.inl a : Key) = Sum.inl b) = (a == b) := by
  by_cases e : a = b
  · subst e; simp
  · have h : ¬ (Sum.inl a : Key) = Sum.inl b := fun q => e (Sum.inl.inj q)
    rw [decide_eq_false h]
    exact (beq_eq_false_iff_ne.mpr e).symm
theorem key_rr (a b : Str) : decide ((Sum.inr a : Key) = Sum.inr b) = decide (a = b) := by
  by_cases e : a = b
  · subst e; simp
  · have h : ¬ (Sum.inr a : Key) = Sum.inr b := fun q => e (Sum.inr.inj q)
    rw [decide_eq_false h, decide_eq_false e]
theorem key_lr (a : Int) (b : Str) : decide ((Sum.inl a : Key) = Sum.inr b) = false := decide_eq_false (fun q => nomatch q)
theorem key_rl (a : Str) (b : Int) : decide ((Sum.inr a : Key) = Sum.inl b) = false := decide_eq_false (fun q => nomatch q)

noncomputable def mixKind (prog : Program) (w : World) : PySem.KeyKind prog w Key where
  is := keyIs
  hash := keyH w
  inj := fun v a b ha hb => by
    rcases keyIs_shape ha with ⟨i, t, rfl, rfl⟩ | ⟨x, t, rfl, rfl⟩
    · rcases keyIs_shape hb with ⟨j, u, rfl, e⟩ | ⟨y, u, rfl, e⟩
      · injection e with e1 _; rw [e1]
      · exact nomatch e
    · rcases keyIs_shape hb with ⟨j, u, rfl, e⟩ | ⟨y, u, rfl, e⟩
      · exact nomatch e
      · injection e with e1 _; rw [e1]
  byValue := fun k v h => by
    rcases keyIs_shape h with ⟨i, t, rfl, rfl⟩ | ⟨x, t, rfl, rfl⟩ <;> rfl
  pyHash := fun hv h => by
    rcases keyIs_shape hv with ⟨i, t, rfl, rfl⟩ | ⟨x, t, rfl, rfl⟩
    · exact wpAny_pyHash_int h
    · exact wpAny_pyHash_str h
  eqBool := fun hu hv h => by
    rcases keyIs_shape hu with ⟨i, t, rfl, rfl⟩ | ⟨x, t, rfl, rfl⟩
    · rcases keyIs_shape hv with ⟨j, u, rfl, rfl⟩ | ⟨y, u, rfl, rfl⟩
      · rw [key_ll] at h; exact wpAny_eqBool_int h
      · rw [key_lr] at h; exact SeqAt.EqAt.int_str i t y u _ _ _ _ h
    · rcases keyIs_shape hv with ⟨j, u, rfl, rfl⟩ | ⟨y, u, rfl, rfl⟩
      · rw [key_rl] at h; exact SeqAt.EqAt.str_int x t j u _ _ _ _ h
      · rw [key_rr] at h; exact wpAny_eqBool_str h
  «strs» := fun k x t v h => by
    rcases keyIs_shape h with ⟨i, u, rfl, e⟩ | ⟨y, u, rfl, e⟩
    · exact nomatch e
    · injection e with e1 _
      subst e1
      cases v <;> rfl

theorem mixKind_int (prog : Program) (w : World) (i : Int) (t : Tok) : (mixKind prog w).is (.inl i) (.int i t) = true := keyIs_int i t
theorem mixKind_str (prog : Program) (w : World) (x : Str) (t : Tok) : (mixKind prog w).is (.inr x) (.str x t) = true := keyIs_str x t
end L2

namespace L2
open PySem PySem.Spec PyProof.Rows

inductive V where
  | non | bl (b : Bool) | int (i : Int) | str (x : Str) | byt (b : Array UInt8) | flt (b : UInt64) | ref (a : Addr) | ty (n : String)
  deriving DecidableEq

noncomputable def RelV : V → Value → Prop
  | .non, u => u = Value.none
  | .bl b, u => u = Value.bool b
  | .int i, u => ∃ t, u = Value.int i t
  | .str x, u => ∃ t, u = Value.str x t
  | .byt b, u => ∃ t, u = Value.bytes b t
  | .flt b, u => ∃ t, u = Value.float b t
  | .ref a, u => u = Value.ref a
  | .ty n, u => u = Value.type n

noncomputable abbrev Vals : List V → List Value → Prop := Paired RelV
theorem Vals.length {xs : List V} {us : List Value} (r : Vals xs us) : xs.length = us.length := Paired.length r
theorem Vals.get : ∀ {xs : List V} {us : List Value} {i : Nat} {x : V}, Vals xs us → xs[i]? = some x → ∃ u, us[i]? = some u ∧ RelV x u
  | _, _, _, _, .nil, e => by simp at e
  | _, _, 0, _, .cons r _, e => by simp at e; subst e; exact ⟨_, rfl, r⟩
  | _, _, i + 1, x, .cons _ t, e => by
    obtain ⟨u, h1, h2⟩ := Vals.get (i := i) (x := x) t (by simpa using e)
    exact ⟨u, by simpa using h1, h2⟩
theorem Vals.set {x : V} {u : Value} (r : RelV x u) : ∀ {xs : List V} {us : List Value} (i : Nat), Vals xs us → Vals (xs.set i x) (us.set i u)
  | _, _, _, .nil => .nil
  | _, _, 0, .cons _ t => .cons r t
  | _, _, i + 1, .cons q t => .cons q (Vals.set r i t)
theorem Vals.append : ∀ {xs ys : List V} {us ws : List Value}, Vals xs us → Vals ys ws → Vals (xs ++ ys) (us ++ ws)
  | _, _, _, _, .nil, s => s
  | _, _, _, _, .cons r t, s => .cons r (Vals.append t s)
theorem Vals.take : ∀ {xs : List V} {us : List Value} (n : Nat), Vals xs us → Vals (xs.take n) (us.take n)
  | _, _, 0, _ => .nil
  | _, _, _ + 1, .nil => .nil
  | _, _, n + 1, .cons r t => .cons r (Vals.take n t)
theorem Vals.drop : ∀ {xs : List V} {us : List Value} (n : Nat), Vals xs us → Vals (xs.drop n) (us.drop n)
  | _, _, 0, r => r
  | _, _, _ + 1, .nil => .nil
  | _, _, n + 1, .cons _ t => Vals.drop n t
noncomputable def RelO : Option V → Option Value → Prop
  | some v, some u => RelV v u
  | none, none => True
  | _, _ => False
noncomputable def KV {κ : Type} : List (κ × V) → List (κ × Value) → Prop := Paired fun (p : κ × V) (q : κ × Value) => p.1 = q.1 ∧ RelV p.2 q.2

noncomputable def kV : Key → V
  | .inl i => .int i
  | .inr x => .str x

inductive HO where
    | lst (xs : List V)
    | tup (xs : List V)
    | dK (kvs : List (Key × V)) | dT (kvs : List (List Key × V))
    | set (S : Int → Bool) (n : Nat)
    | ins (C dx : Addr) (fs : List (Str × V))
    | own (x : Addr)
    | xd (fs : List (Str × V))
    | met (f x : Addr)
    | rng (lo hi : Int)
    | frz (o : Obj) (u : HO)
    | tbl (ps : Array Value)
    | ext (φ : Heap → Prop)

noncomputable abbrev Hp := Addr → Option HO
noncomputable def upd (H : Hp) (a : Addr) (o : HO) : Hp := fun b => if b = a then some o else H b
theorem upd_same {H : Hp} {a : Addr} {o : HO} : upd H a o a = some o := by unfold upd; rw [if_pos rfl]
theorem upd_ne {H : Hp} {a b : Addr} {o : HO} (h : b ≠ a) : upd H a o b = H b := by unfold upd; rw [if_neg h]
theorem upd_upd {H : Hp} {a : Addr} {o u : HO} : upd (upd H a o) a u = upd H a u := by
  funext b; unfold upd; split <;> rfl
theorem ne_of {H : Hp} {a b : Addr} {o u : HO} (h : H a = some o) (h' : H b = some u) (d : o ≠ u) : a ≠ b := by
  intro e; subst e; rw [h] at h'; exact d (Option.some.inj h')
theorem ne_of_none {H : Hp} {a b : Addr} {o : HO} (h : H a = some o) (h' : H b = none) : a ≠ b := by
  intro e; subst e; rw [h] at h'; cases h'

section
variable (P : Program) (w : World)
noncomputable def ObjOk (H : Hp) (h : Heap) (a : Addr) : HO → Prop
  | .lst xs => xs.length ≤ sizeLine ∧ ∃ (its : List Value) (n : Nat), Vals xs its ∧ h.get? a = some { cls := .type "list", data := .seq its.toArray n }
  | .tup xs => xs.length ≤ sizeLine ∧ ∃ its : List Value, Vals xs its ∧ IsTup h a its.toArray
  | .dK kvs => kvs.length ≤ sizeLine ∧ (a == sysModules) = false ∧ ∃ vs, KV kvs vs ∧ h.DictOf (mixKind P w) a vs
  | .dT kvs => kvs.length ≤ sizeLine ∧ (a == sysModules) = false ∧ ∃ xs : List (List Key × Addr × Value),
      Paired (fun (p : List Key × V) (q : List Key × Addr × Value) => p.1 = q.1 ∧ H q.2.1 = some (.tup (p.1.map kV)) ∧ RelV p.2 q.2.2) kvs xs ∧
      ∃ o es ep, h.get? a = some o ∧ o.ExactDict ∧ o.data = .dict es ep ∧ es.toList = xs.map (entryOfKey (tupleKind (mixKind P w))) ∧ (xs.map (·.1)).Nodup
  | .set S n => h.SetOf (intKind P w) a S n
  | .ins C dx fs => H dx = some (.own a) ∧ fs.length ≤ 1000 ∧ dx ≠ a ∧ h.get? a = some (PySem.W.instObj C dx) ∧
      ∃ mA, h.Ns1 dx mA ∧ (∀ f, RelO (fs.lookup f) (mA f)) ∧ PySem.Within mA (fs.map (·.1))
  | .own _ => ∃ o, h.get? a = some o
  | .xd fs => ∃ mA, h.Ns1 a mA ∧ ∀ f, RelO (fs.lookup f) (mA f)
  | .rng lo hi => ∃ t u v, h.get? a = some { cls := .type "range", data := .fields #[.int lo t, .int hi u, .int 1 v] }
  | .frz o u => h.get? a = some o ∧ ObjOk H h a u
  | .tbl ps => h.get? a = some { cls := .none, data := .fields ps }
  | .met f x => h.get? a = some (PySem.W.methodObj (.ref f) (.ref x))
  | .ext φ => φ h ∧ (∃ o, h.get? a = some o) ∧ ∀ h1 h2 : Heap, φ h1 → (∀ o, h1.get? a = some o → h2.get? a = some o) → φ h2
noncomputable def HOk (H : Hp) (h : Heap) : Prop := ∀ a o, H a = some o → ObjOk P w H h a o
end

section
variable {P : Program} {w : World} {H H' : Hp} {h h' : Heap} {a : Addr} {o : HO}
theorem ObjOk.lt (x : ObjOk P w H h a o) : a < h.objs.size := by
  cases o with
  | lst xs => obtain ⟨_, _, _, _, e⟩ := x; exact Heap.lt_size e
  | tup xs => obtain ⟨_, _, _, p⟩ := x; exact p.lt
  | dK kvs => obtain ⟨_, _, _, _, o, _, _, e, _⟩ := x; exact Heap.lt_size e
  | dT kvs => obtain ⟨_, _, _, _, o, _, _, e, _⟩ := x; exact Heap.lt_size e
  | set S n => obtain ⟨o, _, _, _, e, _⟩ := x; exact Heap.lt_size e
  | ins C dx fs => obtain ⟨_, _, _, e, _⟩ := x; exact Heap.lt_size e
  | own y => obtain ⟨_, e⟩ := x; exact Heap.lt_size e
  | xd fs => obtain ⟨_, ⟨_, _, _, e, _⟩, _⟩ := x; exact Heap.lt_size e
  | rng lo hi => obtain ⟨_, _, _, e⟩ := x; exact Heap.lt_size e
  | frz ob u => obtain ⟨e, _⟩ := x; exact Heap.lt_size e
  | tbl ps => exact Heap.lt_size (show h.get? a = some _ from x)
  | met f y => exact Heap.lt_size (show h.get? a = some _ from x)
  | ext φ => obtain ⟨_, ⟨_, e⟩, _⟩ := x; exact Heap.lt_size e
theorem Paired.mapP {α β : Type} {F G : α → β → Prop} : ∀ {l₁ : List α} {l₂ : List β}, Paired F l₁ l₂ → (∀ a b, F a b → G a b) → Paired G l₁ l₂
  | _, _, .nil, _ => .nil
  | _, _, .cons r t, f => .cons (f _ _ r) (Paired.mapP t f)
theorem ObjOk.stay (x : ObjOk P w H h a o) (k : ∀ b u, (b = a ∨ H b = some (.own a)) → h.get? b = some u → h'.get? b = some u)
    (ho : ∀ b, H b = some (.own a) → H' b = some (.own a)) (ht : ∀ b xs, H b = some (.tup xs) → H' b = some (.tup xs)) : ObjOk P w H' h' a o := by
  induction o with
  | lst xs => obtain ⟨z, its, n, r, e⟩ := x; exact ⟨z, its, n, r, k _ _ (.inl rfl) e⟩
  | tup xs => obtain ⟨z, its, r, ob, e, c⟩ := x; exact ⟨z, its, r, ob, k _ _ (.inl rfl) e, c⟩
  | dK kvs => obtain ⟨z, y, vs, r, ob, es, ep, e, c⟩ := x; exact ⟨z, y, vs, r, ob, es, ep, k _ _ (.inl rfl) e, c⟩
  | dT kvs =>
    obtain ⟨z, y, xs, r, ob, es, ep, e, c⟩ := x
    exact ⟨z, y, xs, Paired.mapP r fun p q z => ⟨z.1, ht _ _ z.2.1, z.2.2⟩, ob, es, ep, k _ _ (.inl rfl) e, c⟩
  | set S n => obtain ⟨ob, es, ep, t, e, c⟩ := x; exact ⟨ob, es, ep, t, k _ _ (.inl rfl) e, c⟩
  | ins C dx fs =>
    obtain ⟨d, z, ne, e, mA, ⟨od, es, ep, e2, c⟩, r⟩ := x
    exact ⟨ho _ d, z, ne, k _ _ (.inl rfl) e, mA, ⟨od, es, ep, k _ _ (.inr d) e2, c⟩, r⟩
  | own y => obtain ⟨ob, e⟩ := x; exact ⟨ob, k _ _ (.inl rfl) e⟩
  | xd fs => obtain ⟨mA, ⟨od, es, ep, e, c⟩, r⟩ := x; exact ⟨mA, ⟨od, es, ep, k _ _ (.inl rfl) e, c⟩, r⟩
  | rng lo hi => obtain ⟨t, u, v, e⟩ := x; exact ⟨t, u, v, k _ _ (.inl rfl) e⟩
  | frz ob u ih => obtain ⟨e, q⟩ := x; exact ⟨k _ _ (.inl rfl) e, ih q⟩
  | tbl ps =>
    have e : h.get? a = some { cls := .none, data := .fields ps } := x
    show h'.get? a = some { cls := .none, data := .fields ps }
    exact k a _ (.inl rfl) e
  | met f y =>
    have e : h.get? a = some (PySem.W.methodObj (.ref f) (.ref y)) := x
    show h'.get? a = some (PySem.W.methodObj (.ref f) (.ref y))
    exact k a _ (.inl rfl) e
  | ext φ => obtain ⟨p, ⟨o, e⟩, st⟩ := x; exact ⟨st _ _ p fun o q => k _ _ (.inl rfl) q, ⟨o, k _ _ (.inl rfl) e⟩, st⟩
theorem HOk.lt (x : HOk P w H h) (e : H a = some o) : a < h.objs.size := (x a o e).lt
theorem HOk.fresh (x : HOk P w H h) (e : h.objs.size ≤ a) : H a = none := by
  cases q : H a with
  | none => rfl
  | some u => exact absurd (Nat.lt_of_lt_of_le (x.lt q) e) (Nat.lt_irrefl _)
theorem HOk.kept (x : HOk P w H h) (k : ∀ b u, h.get? b = some u → h'.get? b = some u) : HOk P w H h' := fun a o e =>
  (x a o e).stay (fun b u _ q => k b u q) (fun _ q => q) fun _ _ q => q
theorem HOk.laid (x : HOk P w H h) (k : ∀ b u, h.get? b = some u → h'.get? b = some u) (hp : h.objs.size ≤ a) (new : ObjOk P w (upd H a o) h' a o) : HOk P w (upd H a o) h' := fun b u e => by
  have hn := x.fresh hp
  by_cases hb : b = a
  · subst hb; rw [upd_same] at e; cases e; exact new
  · rw [upd_ne hb] at e
    exact (x b u e).stay (fun c v _ q => k c v q) (fun c q => by rw [upd_ne (ne_of_none q hn)]; exact q) fun c xs q => by rw [upd_ne (ne_of_none q hn)]; exact q
end

noncomputable def Rd (H : Hp) (a : Addr) (u : HO) : Prop := H a = some u ∨ ∃ o, H a = some (.frz o u)
theorem Rd.of {H : Hp} {a : Addr} {u : HO} (h : H a = some u) : Rd H a u := .inl h
theorem Rd.ok {P : Program} {w : World} {H : Hp} {h : Heap} {a : Addr} {u : HO} (r : Rd H a u) (x : HOk P w H h) : ObjOk P w H h a u := by
  rcases r with r | ⟨o, r⟩
  · exact x a u r
  · obtain ⟨_, q⟩ := x a _ r
    exact q
noncomputable def Mut : Option HO → Prop
  | some (.lst _) => True
  | some (.dK _) => True
  | some (.dT _) => True
  | some (.set _ _) => True
  | some (.ins _ _ _) => True
  | some (.ext _) => True
  | _ => False
section
variable {P : Program} {w : World} {H : Hp} {h h' : Heap} {x e : Addr} {o' : HO}
theorem HOk.write (ok : HOk P w H h) (mu : Mut (H x)) (he : e = x ∨ H e = some (.own x)) (k : ∀ b u, b ≠ e → h.get? b = some u → h'.get? b = some u) (heo : ∃ u, h'.get? e = some u)
    (new : ObjOk P w (upd H x o') h' x o') : HOk P w (upd H x o') h' := fun b u q => by
  have nown : ∀ c y, H c = some (.own y) → c ≠ x := fun c y r z => by subst z; rw [r] at mu; exact mu
  have ntup : ∀ c xs, H c = some (.tup xs) → c ≠ x := fun c xs r z => by subst z; rw [r] at mu; exact mu
  by_cases hb : b = x
  · subst hb; rw [upd_same] at q; cases q; exact new
  · rw [upd_ne hb] at q
    by_cases hbe : b = e
    · have q' : H b = some (.own x) := by
        rcases he with z | z
        · exact absurd (hbe.trans z) hb
        · rw [hbe]; exact z
      rw [q] at q'; cases q'
      obtain ⟨v, hv⟩ := heo
      exact ⟨v, by rw [hbe]; exact hv⟩
    · refine (ok b u q).stay (fun c v hc r => k c v ?_ r) (fun c r => by rw [upd_ne (nown c b r)]; exact r) fun c xs r => by rw [upd_ne (ntup c xs r)]; exact r
      rcases hc with rfl | hc
      · exact hbe
      · rintro rfl
        rcases he with z | z
        · exact nown c b hc z
        · rw [hc] at z; cases z; exact hb rfl
end

structure Un (fs ex : List Addr) (H H' : Hp) (h h' : Heap) : Prop where
  keep : ∀ b o, h.get? b = some o → H b = none → b ∉ fs → b ∉ ex → h'.get? b = some o
  slot : ∀ b o, h.get? b = some o → H b = none → b ∈ fs → b ∉ ex → ∃ sl, h'.get? b = some { o with slots := sl }
  free : ∀ b o, h.get? b = some o → H b = none → b ∉ ex → H' b = none
  there : ∀ b o, h.get? b = some o → b ∉ ex → ∃ o', h'.get? b = some o'
  tups : ∀ b xs, H b = some (.tup xs) → H' b = some (.tup xs)
  frzs : ∀ b o u, H b = some (.frz o u) → H' b = some (.frz o u)
  tbls : ∀ b ps, H b = some (.tbl ps) → ∃ more, H' b = some (.tbl (ps ++ more))
section
variable {fs fs' ex ex' : List Addr} {H H1 H2 : Hp} {h h1 h2 h' : Heap} {a x e : Addr} {o : HO}
theorem Un.any (u : Un fs ex H H1 h h1) {b : Addr} {ob : Obj} (q : h.get? b = some ob) (n : H b = none) (hx : b ∉ ex) : ∃ sl, h1.get? b = some { ob with slots := sl } := by
  by_cases hb : b ∈ fs
  · exact u.slot b ob q n hb hx
  · exact ⟨ob.slots, u.keep b ob q n hb hx⟩
theorem Un.trans (a : Un fs ex H H1 h h1) (b : Un fs ex H1 H2 h1 h2) : Un fs ex H H2 h h2 where
  keep := fun c ob q n hc hx => b.keep c ob (a.keep c ob q n hc hx) (a.free c ob q n hx) hc hx
  slot := fun c ob q n hc hx => by
    obtain ⟨sl, e1⟩ := a.slot c ob q n hc hx
    obtain ⟨sl', e2⟩ := b.slot c _ e1 (a.free c ob q n hx) hc hx
    exact ⟨sl', e2⟩
  free := fun c ob q n hx => by
    obtain ⟨o', e1⟩ := a.there c ob q hx
    exact b.free c o' e1 (a.free c ob q n hx) hx
  there := fun c ob q hx => by
    obtain ⟨o', e1⟩ := a.there c ob q hx
    exact b.there c o' e1 hx
  tups := fun c xs q => b.tups c xs (a.tups c xs q)
  frzs := fun c ob xs q => b.frzs c ob xs (a.frzs c ob xs q)
  tbls := fun c ps q => by
    obtain ⟨m1, e1⟩ := a.tbls c ps q
    obtain ⟨m2, e2⟩ := b.tbls c _ e1
    exact ⟨m1 ++ m2, by rw [e2, Array.append_assoc]⟩
theorem Un.kept (k : ∀ b u, h.get? b = some u → h'.get? b = some u) : Un fs ex H H h h' :=
  ⟨fun b ob q _ _ _ => k b ob q, fun b ob q _ _ _ => ⟨ob.slots, k b ob q⟩, fun _ _ _ n _ => n, fun b ob q _ => ⟨ob, k b ob q⟩, fun _ _ q => q, fun _ _ _ q => q, fun _ ps q => ⟨#[], by rw [q]; simp⟩⟩
theorem Un.refl : Un fs ex H H h h := Un.kept fun _ _ q => q
theorem Un.laid (k : ∀ b u, h.get? b = some u → h'.get? b = some u) (hp : h.objs.size ≤ a) (hn : H a = none) : Un fs ex H (upd H a o) h h' where
  keep := fun b u q _ _ _ => k b u q
  slot := fun b u q _ _ _ => ⟨u.slots, k b u q⟩
  free := fun b u q n _ => by rw [upd_ne (Nat.ne_of_lt (Nat.lt_of_lt_of_le (Heap.lt_size q) hp))]; exact n
  there := fun b u q _ => ⟨u, k b u q⟩
  tups := fun b xs q => by rw [upd_ne (ne_of_none q hn)]; exact q
  frzs := fun b u xs q => by rw [upd_ne (ne_of_none q hn)]; exact q
  tbls := fun b ps q => ⟨#[], by rw [upd_ne (ne_of_none q hn), q]; simp⟩
theorem Un.write (mu : Mut (H x)) (he : e = x ∨ H e = some (.own x)) (k : ∀ b u, b ≠ e → h.get? b = some u → h'.get? b = some u) (heo : ∃ u, h'.get? e = some u) : Un fs ex H (upd H x o) h h' := by
  have hx : ∀ b, H b = none → b ≠ x := fun b n z => by subst z; rw [n] at mu; exact mu
  have hb : ∀ b, H b = none → b ≠ e := fun b n z => by
    subst z
    rcases he with r | r
    · exact hx b n r
    · rw [n] at r; cases r
  have hm : ∀ b u, H b = some u → ¬ Mut (some u) → b ≠ x := fun b u q nm z => by subst z; rw [q] at mu; exact nm mu
  refine ⟨fun b u q n _ _ => k b u (hb b n) q, fun b u q n _ _ => ⟨u.slots, k b u (hb b n) q⟩, fun b u q n _ => by rw [upd_ne (hx b n)]; exact n, fun b u q _ => ?_,
    fun b xs q => by rw [upd_ne (hm b _ q fun z => z)]; exact q, fun b u xs q => by rw [upd_ne (hm b _ q fun z => z)]; exact q, fun b ps q => ⟨#[], by rw [upd_ne (hm b _ q fun z => z), q]; simp⟩⟩
  by_cases hbe : b = e
  · subst hbe; exact heo
  · exact ⟨u, k b u hbe q⟩
theorem Un.mono (u : Un fs ex H H1 h h1) (hs : ∀ b ∈ fs, b ∈ fs') (hx : ∀ b ∈ ex, b ∈ ex') : Un fs' ex' H H1 h h1 :=
  ⟨fun b ob q n hb he => u.keep b ob q n (fun z => hb (hs b z)) fun z => he (hx b z), fun _ _ q n _ he => u.any q n fun z => he (hx _ z), fun b ob q n he => u.free b ob q n fun z => he (hx b z), fun b ob q he => u.there b ob q fun z => he (hx b z), u.tups, u.frzs, u.tbls⟩
end

noncomputable def trk (h : Heap) (H : Hp) : List Addr := (List.range h.objs.size).filter fun a => (H a).isSome
noncomputable def hidT (h : Heap) (H : Hp) : Heap := PySem.W.hideAll h (trk h H)
theorem hidT_size (h : Heap) (H : Hp) : (hidT h H).objs.size = h.objs.size := PySem.W.hideAll_size _ _
theorem hidT_get {h : Heap} {H : Hp} {b : Addr} {o : Obj} (e : h.get? b = some o) (n : H b = none) : (hidT h H).get? b = some o :=
  PySem.W.hideAll_get _ e fun hm => by
    have q : (H b).isSome = true := (List.mem_filter.mp hm).2
    rw [n] at q; simp at q
theorem of_hidT {h : Heap} {H : Hp} {b : Addr} {o : Obj} (e : (hidT h H).get? b = some o) : h.get? b = some o ∧ H b = none := by
  have e' : h.get? b = some o := PySem.W.of_hideAll (trk h H) e
  refine ⟨e', ?_⟩
  cases q : H b with
  | none => rfl
  | some x =>
    have hm : b ∈ trk h H := List.mem_filter.mpr ⟨List.mem_range.mpr (Heap.lt_size e'), by simp [q]⟩
    have z : (hidT h H).get? b = none := PySem.W.hideAll_none (trk h H) hm
    rw [z] at e; cases e

noncomputable def allNews (g h : Heap) (L : Addr) : List (Addr × Obj) := (List.range h.objs.size).filterMap fun a => if a = L ∨ (g.get? a).isSome = true then none else (h.get? a).map fun o => (a, o)
noncomputable def rest (g h : Heap) (L d : Addr) : List (Addr × Obj) := (allNews g h L).filter fun p => decide (p.1 ≠ d)
end L2

namespace L2
open PySem PySem.Spec PyProof.Rows

structure Mod (K : PySem.W.Frag) (mg : Str → Option Value) (base : Heap) : Prop where
  kin : K.In base
  glob : base.Ns mainGlobals mg
  blt : ∃ mb, base.Ns builtinsNs mb ∧ ∀ x : Str, x ≠ "__name__" → mb x = bootBuiltins x
  nolimit : base.NoLimit

structure Cx where
  prog : Program
  w : World
  K : PySem.W.Frag
  mg : Str → Option Value
  base : Heap
  A : Around
  N : List Str
  s₀ : Shared
  H₀ : Hp
  env : Env
  outer : List Env
  stack : List Env
  ex : List Addr
  fn : Str → Bool
  calm : Bool
  pn : List (Addr × Obj)
  xe : Value → Shared → Prop
noncomputable def frs (l : List Env) : List Addr := l.filterMap (·.frame)
noncomputable abbrev Cx.fs (X : Cx) : List Addr := frs X.outer

noncomputable def Vis (sc : Scope) (x : Str) : Prop := sc.names.lookup x = some .local ∨ sc.names.lookup x = some .cell ∨ sc.names.lookup x = some .free
noncomputable def Loc (sc : Scope) (x : Str) : Prop := sc.names.lookup x = some .local ∨ sc.names.lookup x = some .cell
noncomputable def Look (env : Env) (h : Heap) (m : Str → Option Value) (x : Str) (u : Value) : Prop :=
  (env.kindOf x = some .local ∧ m x = some u) ∨ ((env.kindOf x = some .cell ∨ env.kindOf x = some .free) ∧ ∃ c, env.cells.lookup x = some c ∧ h.IsCell c (some u))

structure Cx.Ok (X : Cx) : Prop where
  mod : Mod X.K X.mg X.base
  kind : X.env.scope.kind = .function
  glob : X.env.globals = mainGlobals
  blt : X.env.builtins = builtinsNs
  above : X.s₀.heap.objs.size ≤ X.env.locals
  inj : ∀ x y c, X.env.cells.lookup x = some c → X.env.cells.lookup y = some c → x = y
  has : ∀ x, (X.env.kindOf x = some .cell ∨ X.env.kindOf x = some .free) → ∃ c, X.env.cells.lookup x = some c
  cab : ∀ x c, X.fn x = true → X.env.cells.lookup x = some c → X.s₀.heap.objs.size ≤ c
  hd : X.calm = true → X.A.handled = none
  frames : X.A.frames = some X.stack
  stk : X.stack = X.outer ∨ (X.stack = X.env :: X.outer ∧ X.env.frame = some X.env.locals)
  exf : ∀ b ∈ X.ex, b ≠ X.env.locals ∧ ∀ x c, X.env.cells.lookup x = some c → c ≠ b
  bs : ∀ b o, X.base.get? b = some o → X.s₀.heap.get? b = some o ∧ X.H₀ b = none
  bsz : X.base.objs.size ≤ X.s₀.heap.objs.size
  noex : ∀ b o, X.base.get? b = some o → b ∉ X.ex
  exfs : ∀ b ∈ X.ex, b ∉ X.fs
  funs : X.s₀.heap.FunFrames X.base X.outer
  frf : ∀ b ∈ X.fs, X.H₀ b = none

structure Inv (X : Cx) (pins : List (Addr × Obj)) (σ : List (Option V)) (H : Hp) (s : Shared) : Prop where
  ok : X.Ok
  os : s.os = X.s₀.os
  bare : AllBare s.gens
  base : Un X.fs X.ex X.H₀ H X.s₀.heap s.heap
  loc : ∃ m, s.heap.Ns X.env.locals m ∧ ∀ (i : Nat) (x : Str) (v : V), X.N[i]? = some x → σ[i]? = some (some v) → Vis X.env.scope x → ∃ u, RelV v u ∧ Look X.env s.heap m x u
  cell : ∀ x c, X.env.cells.lookup x = some c → ∃ v, s.heap.IsCell c v
  free : H X.env.locals = none
  freeC : ∀ x c, X.env.cells.lookup x = some c → H c = none
  pin : ∀ p ∈ X.pn ++ pins, s.heap.get? p.1 = some p.2 ∧ H p.1 = none ∧ p.1 ≠ X.env.locals ∧ p.1 ∉ X.fs ∧ ∀ v, p.2.data ≠ .cell v
  hok : HOk X.prog X.w H s.heap
  len : σ.length = X.N.length

section
variable {X : Cx} {pins : List (Addr × Obj)} {σ : List (Option V)} {H H' : Hp} {s : Shared} {h' : Heap}

theorem Cx.Ok.nofr (ok : X.Ok) {b : Addr} {o : Obj} (e : X.base.get? b = some o) : b ∉ X.fs := fun hb => by
  have := (ok.funs.mem hb).1
  rw [e] at this; cases this
theorem Inv.bs (I : Inv X pins σ H s) : ∀ b o, X.base.get? b = some o → s.heap.get? b = some o ∧ H b = none := fun b o e =>
  ⟨I.base.keep b o (I.ok.bs b o e).1 (I.ok.bs b o e).2 (I.ok.nofr e) (I.ok.noex b o e), I.base.free b o (I.ok.bs b o e).1 (I.ok.bs b o e).2 (I.ok.noex b o e)⟩
theorem Inv.bk (I : Inv X pins σ H s) : ∀ b o, X.base.get? b = some o → s.heap.get? b = some o := fun b o e => (I.bs b o e).1
theorem Inv.mod (I : Inv X pins σ H s) : Mod X.K X.mg X.base := I.ok.mod
theorem Inv.kIn (I : Inv X pins σ H s) : X.K.In s.heap := I.ok.mod.kin.keeps I.bk
theorem Inv.nolimit (I : Inv X pins σ H s) : s.heap.NoLimit := I.ok.mod.nolimit.keeps I.bk
theorem Inv.fr (I : Inv X pins σ H s) : ∃ m, Fr X.base X.env.locals s.heap m :=
  let ⟨m, hn, _⟩ := I.loc
  ⟨m, hn, I.bk, Nat.le_trans I.ok.bsz I.ok.above⟩
theorem Inv.lt (I : Inv X pins σ H s) : X.env.locals < s.heap.objs.size := let ⟨_, hn, _⟩ := I.loc; hn.lt
theorem Inv.sz (I : Inv X pins σ H s) : X.s₀.heap.objs.size ≤ s.heap.objs.size := Nat.le_trans I.ok.above (Nat.le_of_lt I.lt)
theorem Inv.nofs (I : Inv X pins σ H s) {a : Addr} (h : s.heap.objs.size ≤ a) : a ∉ X.fs := fun hb => by
  obtain ⟨_, o, ho, _⟩ := I.ok.funs.mem hb
  exact absurd (Nat.lt_of_lt_of_le (Heap.lt_size ho) (Nat.le_trans I.sz h)) (Nat.lt_irrefl _)
theorem Inv.cne (I : Inv X pins σ H s) : ∀ x c, X.env.cells.lookup x = some c → c ≠ X.env.locals := fun x c e z => by
  obtain ⟨v, o, ho, hd⟩ := I.cell x c e
  obtain ⟨m, ⟨o', es, ep, ho', hd', _⟩, _⟩ := I.loc
  rw [z, ho'] at ho; cases ho; rw [hd'] at hd; cases hd
theorem Inv.funs (I : Inv X pins σ H s) : s.heap.FunFrames X.base X.outer := by
  have all : ∀ (l : List Env), (∀ b ∈ frs l, b ∈ X.fs) → X.s₀.heap.FunFrames X.base l → s.heap.FunFrames X.base l := by
    intro l
    induction l with
    | nil => intro _ _; trivial
    | cons env r ih =>
      intro hs hl
      obtain ⟨hk, ⟨L, o, hf, hn, ho, hd⟩, hr⟩ := hl
      have hL : L ∈ X.fs := hs L (by unfold frs; rw [List.filterMap_cons, hf]; exact List.mem_cons_self)
      obtain ⟨sl, e⟩ := I.base.slot L o ho (I.ok.frf L hL) hL fun z => I.ok.exfs L z hL
      exact ⟨hk, ⟨L, _, hf, hn, e, hd⟩, ih (fun b hb => hs b (by unfold frs; rw [List.filterMap_cons, hf]; exact List.mem_cons_of_mem _ hb)) hr⟩
  exact all X.outer (fun _ hb => hb) I.ok.funs

theorem Inv.stack (I : Inv X pins σ H s) : s.heap.FunFrames X.base X.stack := by
  rcases I.ok.stk with e | ⟨e, hf⟩
  · rw [e]; exact I.funs
  · rw [e]
    obtain ⟨m, hn, _⟩ := I.loc
    refine .cons (by rw [I.ok.kind]; decide) hf hn ?_ I.funs
    exact Heap.get?_none_of_le (Nat.le_trans I.ok.bsz I.ok.above)
theorem Inv.stkSub (I : Inv X pins σ H s) : ∀ b ∈ frs X.stack, b ∈ X.env.locals :: X.fs := fun b hb => by
  rcases I.ok.stk with e | ⟨e, hf⟩
  · rw [e] at hb; exact List.mem_cons_of_mem _ hb
  · rw [e] at hb
    unfold frs at hb
    rw [List.filterMap_cons, hf] at hb
    exact hb
theorem Inv.stkFree (I : Inv X pins σ H s) : ∀ b ∈ frs X.stack, H b = none := fun b hb => by
  rcases List.mem_cons.mp (I.stkSub b hb) with e | hb
  · rw [e]; exact I.free
  · obtain ⟨_, o, ho, _⟩ := I.ok.funs.mem hb
    exact I.base.free b o ho (I.ok.frf b hb) fun z => I.ok.exfs b z hb

theorem Inv.step {g' : Array GenState} {t' : Nat} {d' : Drawn} {ch : List Addr} (I : Inv X pins σ H s)
    (hch : ∀ b ∈ ch, (b ∈ X.ex ∨ X.s₀.heap.objs.size ≤ b) ∧ b ≠ X.env.locals ∧ (∀ x c, X.env.cells.lookup x = some c → c ≠ b) ∧ ∀ p ∈ X.pn ++ pins, p.1 ≠ b)
    (keep : ∀ b o, b ≠ X.env.locals → b ∉ X.fs → b ∉ ch → s.heap.get? b = some o → H b = none → h'.get? b = some o)
    (slot : ∀ b o, b ≠ X.env.locals → b ∈ X.fs → b ∉ ch → s.heap.get? b = some o → H b = none → ∃ sl, h'.get? b = some { o with slots := sl }) (free : ∀ b o, b ∉ ch → s.heap.get? b = some o → H b = none → H' b = none)
    (there : ∀ b o, b ∉ ch → s.heap.get? b = some o → ∃ o', h'.get? b = some o')
    (tups : ∀ b xs, H b = some (.tup xs) → H' b = some (.tup xs)) (frzs : ∀ b o u, H b = some (.frz o u) → H' b = some (.frz o u)) (tbls : ∀ b ps, H b = some (.tbl ps) → ∃ more, H' b = some (.tbl (ps ++ more)))
    (ns : ∀ m, s.heap.Ns X.env.locals m → h'.Ns X.env.locals m) (hok : HOk X.prog X.w H' h') (hg : AllBare g') :
    Inv X pins σ H' { s with heap := h', gens := g', drawn := d', toks := t' } := by
  have neL : ∀ b o, X.s₀.heap.get? b = some o → b ≠ X.env.locals := fun b o e => Nat.ne_of_lt (Nat.lt_of_lt_of_le (Heap.lt_size e) I.ok.above)
  have neC : ∀ b o, X.s₀.heap.get? b = some o → b ∉ X.ex → b ∉ ch := fun b o e hx hb => by
    rcases (hch b hb).1 with z | z
    · exact hx z
    · exact absurd (Nat.lt_of_lt_of_le (Heap.lt_size e) z) (Nat.lt_irrefl _)
  have cellK : ∀ x c, X.env.cells.lookup x = some c → ∀ v, s.heap.IsCell c v → h'.IsCell c v := fun x c e v ⟨o, ho, hd⟩ => by
    have nch : c ∉ ch := fun z => (hch c z).2.2.1 x c e rfl
    by_cases hc : c ∈ X.fs
    · obtain ⟨sl, q⟩ := slot c o (I.cne x c e) hc nch ho (I.freeC x c e)
      exact ⟨_, q, hd⟩
    · exact ⟨o, keep c o (I.cne x c e) hc nch ho (I.freeC x c e), hd⟩
  refine ⟨I.ok, I.os, hg, ⟨fun b o e n hb hx => ?_, fun b o e n hb hx => ?_, fun b o e n hx => ?_, fun b o e hx => ?_, fun b xs e => tups b xs (I.base.tups b xs e), fun b o xs e => frzs b o xs (I.base.frzs b o xs e), fun b ps e => ?_⟩, ?_, fun x c e => ?_, ?_, fun x c e => ?_, fun p hp => ?_, hok, I.len⟩
  · exact keep b o (neL b o e) hb (neC b o e hx) (I.base.keep b o e n hb hx) (I.base.free b o e n hx)
  · obtain ⟨sl, e1⟩ := I.base.slot b o e n hb hx
    obtain ⟨sl', e2⟩ := slot b _ (neL b o e) hb (neC b o e hx) e1 (I.base.free b o e n hx)
    exact ⟨sl', e2⟩
  · obtain ⟨o', e1⟩ := I.base.there b o e hx
    exact free b o' (neC b o e hx) e1 (I.base.free b o e n hx)
  · obtain ⟨o', e1⟩ := I.base.there b o e hx
    exact there b o' (neC b o e hx) e1
  · obtain ⟨m1, e1⟩ := I.base.tbls b ps e
    obtain ⟨m2, e2⟩ := tbls b _ e1
    exact ⟨m1 ++ m2, by rw [e2, Array.append_assoc]⟩
  · obtain ⟨m, hn, hl⟩ := I.loc
    refine ⟨m, ns m hn, fun i x v e1 e2 e3 => ?_⟩
    obtain ⟨u, r, l⟩ := hl i x v e1 e2 e3
    refine ⟨u, r, ?_⟩
    rcases l with l | ⟨k, c, e, z⟩
    · exact .inl l
    · exact .inr ⟨k, c, e, cellK x c e _ z⟩
  · obtain ⟨v, z⟩ := I.cell x c e
    exact ⟨v, cellK x c e v z⟩
  · obtain ⟨m, ⟨o, _, _, ho, _⟩, _⟩ := I.loc
    exact free _ o (fun z => (hch _ z).2.1 rfl) ho I.free
  · obtain ⟨v, o, ho, hd⟩ := I.cell x c e
    exact free c o (fun z => (hch c z).2.2.1 x c e rfl) ho (I.freeC x c e)
  · obtain ⟨e, n, ne, nf, d⟩ := I.pin p hp
    have nch : p.1 ∉ ch := fun z => (hch p.1 z).2.2.2 p hp rfl
    exact ⟨keep p.1 p.2 ne nf nch e n, free p.1 p.2 nch e n, ne, nf, d⟩
theorem Inv.un {t' : Nat} (I : Inv X pins σ H s) (u : Un X.fs [] H H' s.heap h') (hok : HOk X.prog X.w H' h') : Inv X pins σ H' { s with heap := h', toks := t' } := by
  obtain ⟨m, ⟨o, es, ep, ho, r⟩, _⟩ := id I.loc
  obtain ⟨sl, hL⟩ := u.any ho I.free (by simp)
  exact I.step (g' := s.gens) (d' := s.drawn) (ch := []) (fun _ z => nomatch z) (fun b o _ hb _ e n => u.keep b o e n hb (by simp)) (fun b o _ hb _ e n => u.slot b o e n hb (by simp)) (fun b o _ e n => u.free b o e n (by simp)) (fun b o _ e => u.there b o e (by simp)) u.tups u.frzs u.tbls (fun m' hm => by
    obtain ⟨o', es', ep', ho', r'⟩ := hm
    rw [ho] at ho'; cases ho'
    exact ⟨_, es', ep', hL, r'⟩) hok I.bare
theorem Inv.call {g' : Array GenState} {t' : Nat} {d' : Drawn} {ch : List Addr} (I : Inv X pins σ H s) (u : Un (frs X.stack) ch H H' s.heap h') (hok : HOk X.prog X.w H' h') (hg : AllBare g')
    (hch : ∀ b ∈ ch, (b ∈ X.ex ∨ X.s₀.heap.objs.size ≤ b) ∧ b ≠ X.env.locals ∧ (∀ x c, X.env.cells.lookup x = some c → c ≠ b) ∧ ∀ p ∈ X.pn ++ pins, p.1 ≠ b) :
    Inv X pins σ H' { s with heap := h', gens := g', drawn := d', toks := t' } := by
  obtain ⟨m, ⟨o, es, ep, ho, r⟩, _⟩ := id I.loc
  obtain ⟨sl, hL⟩ := u.any ho I.free fun z => (hch _ z).2.1 rfl
  exact I.step (ch := ch) hch (fun b o hL hb hc e n => u.keep b o e n (fun z => (List.mem_cons.mp (I.stkSub b z)).elim hL hb) hc) (fun b o _ _ hc e n => u.any e n hc) (fun b o hc e n => u.free b o e n hc) (fun b o hc e => u.there b o e hc) u.tups u.frzs u.tbls (fun m' hm => by
    obtain ⟨o', es', ep', ho', r'⟩ := hm
    rw [ho] at ho'; cases ho'
    exact ⟨_, es', ep', hL, r'⟩) hok hg
theorem Inv.turned {t' : Nat} {it : Addr} (I : Inv X pins σ H s) (k : ∀ b o, b ≠ it → s.heap.get? b = some o → h'.get? b = some o) (hn : H it = none) (hL : it ≠ X.env.locals)
    (h1 : it ∈ X.ex ∨ X.s₀.heap.objs.size ≤ it) (h2 : ∀ x c, X.env.cells.lookup x = some c → c ≠ it) (h3 : ∀ p ∈ X.pn ++ pins, p.1 ≠ it) : Inv X pins σ H { s with heap := h', toks := t' } := by
  have nit : ∀ b u, H b = some u → b ≠ it := fun b u e z => by rw [z, hn] at e; cases e
  refine I.step (g' := s.gens) (d' := s.drawn) (ch := [it]) (fun b hb => ?_) (fun b o _ _ hc e _ => k b o (fun z => hc (by simp [z])) e) (fun b o _ _ hc e _ => ⟨o.slots, k b o (fun z => hc (by simp [z])) e⟩) (fun _ _ _ _ n => n)
    (fun b o hc e => ⟨o, k b o (fun z => hc (by simp [z])) e⟩) (fun _ _ e => e) (fun _ _ _ e => e) (fun b ps e => ⟨#[], by rw [e]; simp⟩) (fun m hm => ?_) (fun b u e => ?_) I.bare
  · have e : b = it := by simpa using hb
    subst e
    exact ⟨h1, hL, h2, h3⟩
  · obtain ⟨o, es, ep, ho, r⟩ := hm
    exact ⟨o, es, ep, k _ o (Ne.symm hL) ho, r⟩
  · refine (I.hok b u e).stay (fun c v hc q => k c v ?_ q) (fun _ q => q) fun _ _ q => q
    rcases hc with z | z
    · rw [z]; exact nit b u e
    · exact nit c _ z
theorem Inv.tok (I : Inv X pins σ H s) (t : Nat) : Inv X pins σ H { s with toks := t } := I.un (h' := s.heap) (t' := t) Un.refl I.hok
theorem Inv.kept {t' : Nat} (I : Inv X pins σ H s) (k : ∀ b u, s.heap.get? b = some u → h'.get? b = some u) : Inv X pins σ H { s with heap := h', toks := t' } := I.un (Un.kept k) (I.hok.kept k)
theorem Inv.laid {a : Addr} {o : HO} {t' : Nat} (I : Inv X pins σ H s) (k : ∀ b u, s.heap.get? b = some u → h'.get? b = some u) (hp : s.heap.objs.size ≤ a) (new : ObjOk X.prog X.w (upd H a o) h' a o) :
    Inv X pins σ (upd H a o) { s with heap := h', toks := t' } := I.un (Un.laid k hp (I.hok.fresh hp)) (I.hok.laid k hp new)
theorem Inv.write {x e : Addr} {o : HO} {t' : Nat} (I : Inv X pins σ H s) (mu : Mut (H x)) (he : e = x ∨ H e = some (.own x)) (k : ∀ b u, b ≠ e → s.heap.get? b = some u → h'.get? b = some u) (heo : ∃ u, h'.get? e = some u)
    (new : ObjOk X.prog X.w (upd H x o) h' x o) : Inv X pins σ (upd H x o) { s with heap := h', toks := t' } := I.un (Un.write mu he k heo) (I.hok.write mu he k heo new)
theorem Inv.weak {σ' : List (Option V)} (I : Inv X pins σ H s) (hl : σ'.length = σ.length) (w : ∀ (i : Nat) v, σ'[i]? = some (some v) → σ[i]? = some (some v)) : Inv X pins σ' H s :=
  ⟨I.ok, I.os, I.bare, I.base, let ⟨m, hn, hl'⟩ := I.loc; ⟨m, hn, fun i x v e1 e2 e3 => hl' i x v e1 (w i v e2) e3⟩, I.cell, I.free, I.freeC, I.pin, I.hok, hl.trans I.len⟩
theorem Inv.pins_of {pins' : List (Addr × Obj)} (I : Inv X pins σ H s) (h : ∀ p ∈ pins', s.heap.get? p.1 = some p.2 ∧ H p.1 = none ∧ p.1 ≠ X.env.locals ∧ p.1 ∉ X.fs ∧ ∀ v, p.2.data ≠ .cell v) : Inv X pins' σ H s :=
  ⟨I.ok, I.os, I.bare, I.base, I.loc, I.cell, I.free, I.freeC, fun p hp => (List.mem_append.mp hp).elim (fun z => I.pin p (List.mem_append_left _ z)) (h p), I.hok, I.len⟩

theorem nodup_ix {N : List Str} (hN : N.Nodup) {i j : Nat} {x : Str} (a : N[i]? = some x) (b : N[j]? = some x) : i = j := by
  obtain ⟨h1, e1⟩ := List.getElem?_eq_some_iff.mp a
  obtain ⟨h2, e2⟩ := List.getElem?_eq_some_iff.mp b
  exact (List.getElem_inj hN).mp (e1.trans e2.symm)

theorem store_ok2 {M : Model} {A : Around} {E : Value → Shared → Prop} {i : Nat} {x : Str} {v : V} {u : Value} {Q : Unit → Shared → Prop} (I : Inv X pins σ H s) (hN : X.N.Nodup) (hi : X.N[i]? = some x) (hx : Loc X.env.scope x) (r : RelV v u)
    (h : ∀ s', Inv X pins (σ.set i (some v)) H s' → (∃ a, Heap.SameBut a s.heap s'.heap ∧ (a = X.env.locals ∨ X.env.cells.lookup x = some a)) → Q () s') (hf : X.fn x = true ∨ X.env.scope.names.lookup x = some .local := by first | exact .inl rfl | exact .inr rfl | assumption) : wpAny M A (storeName X.env x u) Q E s := by
  obtain ⟨m, hn, hl⟩ := id I.loc
  have hcls : (X.env.scope.kind == .class || (X.env.scope.kind == .module && X.env.locals != X.env.globals)) = false := by rw [I.ok.kind]; rfl
  have hiσ : i < σ.length := by rw [I.len]; exact (List.getElem?_eq_some_iff.mp hi).1
  have cne := I.cne
  have tracked : ∀ {a : Addr} {h' : Heap}, (∃ o, s.heap.get? a = some o ∧ H a = none) → Heap.SameBut a s.heap h' → HOk X.prog X.w H h' := fun {a h'} ha hs b ob e => by
    obtain ⟨_, _, hfree⟩ := ha
    refine (I.hok b ob e).stay (fun c w' hc q => (hs.2 c ?_).trans q) (fun _ q => q) fun _ _ q => q
    rintro rfl
    rcases hc with rfl | hc
    · rw [hfree] at e; cases e
    · rw [hfree] at hc; cases hc
  rcases hx with hk | hk
  · refine wpAny_storeName_local hk hn (fun h' hn' hs => ?_) hcls
    obtain ⟨oL, _, _, hoL, _⟩ := id hn
    refine h _ ⟨I.ok, I.os, I.bare, ⟨fun b o e n hb hx => ?_, fun b o e n hb hx => ?_, I.base.free, fun b o e hx => ?_, I.base.tups, I.base.frzs, I.base.tbls⟩, ⟨_, hn', fun j y v' e1 e2 e3 => ?_⟩, fun y c e => ?_, I.free, I.freeC, fun p hp => ?_, tracked ⟨oL, hoL, I.free⟩ hs, by simpa using I.len⟩ ⟨_, hs, .inl rfl⟩
    · exact (hs.2 b (Nat.ne_of_lt (Nat.lt_of_lt_of_le (Heap.lt_size e) I.ok.above))).trans (I.base.keep b o e n hb hx)
    · obtain ⟨sl, e1⟩ := I.base.slot b o e n hb hx
      exact ⟨sl, (hs.2 b (Nat.ne_of_lt (Nat.lt_of_lt_of_le (Heap.lt_size e) I.ok.above))).trans e1⟩
    · obtain ⟨o', e1⟩ := I.base.there b o e hx
      exact ⟨o', (hs.2 b (Nat.ne_of_lt (Nat.lt_of_lt_of_le (Heap.lt_size e) I.ok.above))).trans e1⟩
    · by_cases hj : j = i
      · subst hj
        rw [hi] at e1; cases e1
        rw [List.getElem?_set_self hiσ] at e2
        cases e2
        exact ⟨u, r, .inl ⟨hk, by simp⟩⟩
      · rw [List.getElem?_set_ne (Ne.symm hj)] at e2
        obtain ⟨u', r', q⟩ := hl j y v' e1 e2 e3
        refine ⟨u', r', ?_⟩
        rcases q with ⟨k, e⟩ | ⟨k, c, e, z⟩
        · refine .inl ⟨k, ?_⟩
          have : y ≠ x := fun e => hj (nodup_ix hN e1 (e ▸ hi))
          simp [this, e]
        · exact .inr ⟨k, c, e, z.sameBut hs (cne y c e)⟩
    · obtain ⟨w', z⟩ := I.cell y c e
      exact ⟨w', z.sameBut hs (cne y c e)⟩
    · obtain ⟨e, n, ne, nf, d⟩ := I.pin p hp
      exact ⟨(hs.2 p.1 ne).trans e, n, ne, nf, d⟩
  · have hfn : X.fn x = true := by
      rcases hf with z | z
      · exact z
      · rw [z] at hk; cases hk
    obtain ⟨c, hc⟩ := I.ok.has x (.inl hk)
    obtain ⟨w', z⟩ := I.cell x c hc
    refine wpAny_storeName_cell I.ok.kind hk hc z (fun h' hc' hs => ?_)
    obtain ⟨oc, hoc, hocd⟩ := id z
    refine h { s with heap := h' } ⟨I.ok, I.os, I.bare, ⟨fun b o e n hb hx => ?_, fun b o e n hb hx => ?_, I.base.free, fun b o e hx => ?_, I.base.tups, I.base.frzs, I.base.tbls⟩, ⟨m, hn.sameBut hs (Ne.symm (cne x c hc)), fun j y v' e1 e2 e3 => ?_⟩, fun y c' e => ?_, I.free, I.freeC, fun p hp => ?_, tracked ⟨oc, hoc, I.freeC x c hc⟩ hs, by simpa using I.len⟩ ⟨c, hs, .inr hc⟩
    · exact (hs.2 b (Nat.ne_of_lt (Nat.lt_of_lt_of_le (Heap.lt_size e) (I.ok.cab x c hfn hc)))).trans (I.base.keep b o e n hb hx)
    · obtain ⟨sl, e1⟩ := I.base.slot b o e n hb hx
      exact ⟨sl, (hs.2 b (Nat.ne_of_lt (Nat.lt_of_lt_of_le (Heap.lt_size e) (I.ok.cab x c hfn hc)))).trans e1⟩
    · obtain ⟨o', e1⟩ := I.base.there b o e hx
      exact ⟨o', (hs.2 b (Nat.ne_of_lt (Nat.lt_of_lt_of_le (Heap.lt_size e) (I.ok.cab x c hfn hc)))).trans e1⟩
    · by_cases hj : j = i
      · subst hj
        rw [hi] at e1; cases e1
        rw [List.getElem?_set_self hiσ] at e2
        cases e2
        exact ⟨u, r, .inr ⟨.inl hk, c, hc, hc'⟩⟩
      · rw [List.getElem?_set_ne (Ne.symm hj)] at e2
        obtain ⟨u', r', q⟩ := hl j y v' e1 e2 e3
        refine ⟨u', r', ?_⟩
        rcases q with q | ⟨k, c', e, z'⟩
        · exact .inl q
        · refine .inr ⟨k, c', e, z'.sameBut hs ?_⟩
          rintro rfl
          exact hj (nodup_ix hN e1 (I.ok.inj _ _ _ e hc ▸ hi))
    · by_cases hcc : c' = c
      · subst hcc; exact ⟨_, hc'⟩
      · obtain ⟨w2, z2⟩ := I.cell y c' e
        exact ⟨w2, z2.sameBut hs hcc⟩
    · obtain ⟨e, n, ne, nf, d⟩ := I.pin p hp
      refine ⟨(hs.2 p.1 ?_).trans e, n, ne, nf, d⟩
      intro q
      rw [q, hoc] at e
      have q' : oc = p.2 := Option.some.inj e
      exact d w' (by rw [← q']; exact hocd)
theorem store_ok {M : Model} {A : Around} {E : Value → Shared → Prop} {i : Nat} {x : Str} {v : V} {u : Value} {Q : Unit → Shared → Prop} (I : Inv X pins σ H s) (hN : X.N.Nodup) (hi : X.N[i]? = some x) (hx : Loc X.env.scope x) (r : RelV v u)
    (h : ∀ s', Inv X pins (σ.set i (some v)) H s' → Q () s') (hf : X.fn x = true ∨ X.env.scope.names.lookup x = some .local := by first | exact .inl rfl | exact .inr rfl | assumption) : wpAny M A (storeName X.env x u) Q E s :=
  store_ok2 I hN hi hx r (fun s' I' _ => h s' I') hf
theorem Inv.call' {s' : Shared} {ch : List Addr} (I : Inv X pins σ H s) (ho : s'.os = s.os) (u : Un (frs X.stack) ch H H' s.heap s'.heap) (hok : HOk X.prog X.w H' s'.heap) (hg : AllBare s'.gens)
    (hch : ∀ b ∈ ch, (b ∈ X.ex ∨ X.s₀.heap.objs.size ≤ b) ∧ b ≠ X.env.locals ∧ (∀ x c, X.env.cells.lookup x = some c → c ≠ b) ∧ ∀ p ∈ X.pn ++ pins, p.1 ≠ b) : Inv X pins σ H' s' := by
  obtain ⟨h', g', d', t', o'⟩ := s'
  have e : o' = s.os := ho
  subst e
  exact I.call (g' := g') (t' := t') (d' := d') u hok hg hch
end

noncomputable abbrev XK := Value → Option Addr → Hp → Prop
noncomputable abbrev St := List (Option V)
noncomputable abbrev VK := V → Hp → Prop
noncomputable abbrev TE := St → Hp → VK → Prop
noncomputable abbrev TT := St → Hp → (Bool → Hp → Prop) → Prop
noncomputable abbrev TA := St → Hp → (List V → Hp → Prop) → Prop
structure Ends where
  nx : St → Hp → Prop
  rt : VK
  bk : St → Hp → Prop := fun _ _ => False
  ct : St → Hp → Prop := fun _ _ => False
noncomputable abbrev TS := Ends → St → Hp → Prop

noncomputable def EP (X : Cx) (pins : List (Addr × Obj)) (σ : St) (Q : VK) (u : Value) (s' : Shared) : Prop := ∃ v H', Inv X pins σ H' s' ∧ RelV v u ∧ Q v H'
noncomputable def TP (X : Cx) (pins : List (Addr × Obj)) (σ : St) (Q : Bool → Hp → Prop) (b : Bool) (s' : Shared) : Prop := ∃ H', Inv X pins σ H' s' ∧ Q b H'
noncomputable def AP (X : Cx) (pins : List (Addr × Obj)) (σ : St) (Q : List V → Hp → Prop) (us : List Value) (s' : Shared) : Prop := ∃ vs H', Inv X pins σ H' s' ∧ Vals vs us ∧ Q vs H'
noncomputable def SP (X : Cx) (pins : List (Addr × Obj)) (D : Ends) (f : Flow) (s' : Shared) : Prop :=
  match f with
  | .next => ∃ σ' H', Inv X pins σ' H' s' ∧ D.nx σ' H'
  | .brk => ∃ σ' H', Inv X pins σ' H' s' ∧ D.bk σ' H'
  | .cont => ∃ σ' H', Inv X pins σ' H' s' ∧ D.ct σ' H'
  | .ret u => ∃ v σ' H', Inv X pins σ' H' s' ∧ RelV v u ∧ D.rt v H'

noncomputable def PE (X : Cx) (e : Expr) (t : TE) : Prop :=
  ∀ (pins : List (Addr × Obj)) (s : Shared) (σ : St) (H : Hp) (Q : VK), Inv X pins σ H s → t σ H Q → wpAny (model X.prog X.w) X.A (eval e X.env) (EP X pins σ Q) X.xe s
noncomputable def PT (X : Cx) (e : Expr) (t : TT) : Prop :=
  ∀ (pins : List (Addr × Obj)) (s : Shared) (σ : St) (H : Hp) (Q : Bool → Hp → Prop), Inv X pins σ H s → t σ H Q → wpAny (model X.prog X.w) X.A (isTrue e X.env (eval e X.env)) (TP X pins σ Q) X.xe s
noncomputable def PW (X : Cx) (e : Expr) (t : TT) : Prop :=
  ∀ (whole : Sem Value) (pins : List (Addr × Obj)) (s : Shared) (σ : St) (H : Hp) (Q : Bool → Hp → Prop), Inv X pins σ H s → t σ H Q → wpAny (model X.prog X.w) X.A (isTrue e X.env whole) (TP X pins σ Q) X.xe s
theorem PW.pt {X : Cx} {e : Expr} {t : TT} (h : PW X e t) : PT X e t := h _
noncomputable def PA (X : Cx) (es : List Expr) (t : TA) : Prop :=
  ∀ (pos : Pos) (pins : List (Addr × Obj)) (s : Shared) (σ : St) (H : Hp) (Q : List V → Hp → Prop), Inv X pins σ H s → t σ H Q → wpAny (model X.prog X.w) X.A (spliced (backTo pos (starEach es X.env))) (AP X pins σ Q) X.xe s
noncomputable def PS (X : Cx) (st : Stmt) (t : TS) : Prop :=
  ∀ (pins : List (Addr × Obj)) (s : Shared) (σ : St) (H : Hp) (D : Ends), Inv X pins σ H s → t D σ H → wpAny (model X.prog X.w) X.A (exec st X.env) (SP X pins D) X.xe s
noncomputable def PSs (X : Cx) (st : List Stmt) (t : TS) : Prop :=
  ∀ (pins : List (Addr × Obj)) (s : Shared) (σ : St) (H : Hp) (D : Ends), Inv X pins σ H s → t D σ H → wpAny (model X.prog X.w) X.A (execs st X.env) (SP X pins D) X.xe s
theorem thn {α : Type} {t : Sem α} {Q Q' : α → Shared → Prop} {M : Model} {A : Around} {E : Value → Shared → Prop} {s : Shared} (h : wpAny M A t Q E s) (hQ : ∀ a s, Q a s → Q' a s) : wpAny M A t Q' E s := wpAny_mono h hQ fun _ _ x => x
end L2

namespace L2
open PySem PySem.Spec PyProof.Rows
section
variable {X : Cx}

noncomputable def tVar (i : Nat) : TE := fun σ H Q => ∃ v, σ[i]? = some (some v) ∧ Q v H
noncomputable def tC (v : V) : TE := fun _ H Q => Q v H
theorem pe_var {i : Nat} {x : Str} {pos : Pos} (hN : X.N[i]? = some x) (hv : Vis X.env.scope x) (hd : (x == ("__debug__" : Str)) = false := by decide) (hcd : (x == ("__classdict__" : Str)) = false := by decide) : PE X (.Name x pos) (tVar i) := by
  intro pins s σ H Q I h
  obtain ⟨v, e, h⟩ := h
  obtain ⟨m, hn, hl⟩ := I.loc
  obtain ⟨u, r, l⟩ := hl i x v hN e hv
  have fin : EP X pins σ Q u s := ⟨v, H, I, r, h⟩
  rcases l with ⟨hk, hm⟩ | ⟨hk, c, hc, hcell⟩
  · exact wpAny_Name (wpAny_loadName_local I.ok.kind hk hn hm fin) hd
  · rcases hk with hk | hk
    · exact wpAny_Name (wpAny_loadName_cell I.ok.kind hk hc hcell fin) hd
    · exact wpAny_Name (wpAny_loadName_free I.ok.kind hk hc hcell fin hcd) hd
theorem pe_int {i j pos} : PE X (.Constant (.int i) j pos) (tC (.int i)) := fun _ _ _ H _ I h => wpAny_Constant_int ⟨.int i, H, I.tok _, ⟨_, rfl⟩, h⟩
theorem pe_bl {b j pos} : PE X (.Constant (.bool b) j pos) (tC (.bl b)) := fun _ _ _ H _ I h => Constant_bool ⟨.bl b, H, I, rfl, h⟩
theorem pe_non {j pos} : PE X (.Constant .none j pos) (tC .non) := fun _ _ _ H _ I h => Constant_none ⟨.non, H, I, rfl, h⟩
theorem pe_str {x j pos} : PE X (.Constant (.str x) j pos) (tC (.str x)) := fun _ _ _ H _ I h => Calls.Constant_str ⟨.str x, H, I.tok _, ⟨_, rfl⟩, h⟩

noncomputable def Gl (X : Cx) (x : Str) : Prop := X.env.kindOf x = some .globalImplicit
theorem ld_glob {E : Value → Shared → Prop} {pins : List (Addr × Obj)} {s : Shared} {σ : St} {H : Hp} {x : Str} {u : Value} {pos : Pos} {Q : Value → Shared → Prop} (I : Inv X pins σ H s) (hg : Gl X x) (hm : X.mg x = some u) (h : Q u s)
    (hd : (x == ("__debug__" : Str)) = false := by decide) : wpAny (model X.prog X.w) X.A (eval (.Name x pos) X.env) Q E s :=
  Calls.Name_function_global I.ok.kind hg (Calls.loadGlobal_global (by rw [I.ok.glob]; exact I.mod.glob.keeps I.bk) hm h) hd
theorem ld_blt {E : Value → Shared → Prop} {pins : List (Addr × Obj)} {s : Shared} {σ : St} {H : Hp} {x : Str} {u : Value} {pos : Pos} {Q : Value → Shared → Prop} (I : Inv X pins σ H s) (hg : Gl X x) (hm : X.mg x = none) (hv : bootBuiltins x = some u) (h : Q u s)
    (hn : x ≠ "__name__" := by decide) (hd : (x == ("__debug__" : Str)) = false := by decide) : wpAny (model X.prog X.w) X.A (eval (.Name x pos) X.env) Q E s := by
  obtain ⟨mb, h1, h2⟩ := I.mod.blt
  exact Calls.Name_function_global I.ok.kind hg (Calls.loadGlobal_builtin (by rw [I.ok.glob]; exact I.mod.glob.keeps I.bk) hm (by rw [I.ok.blt]; exact h1.keeps I.bk) ((h2 x hn).trans hv) h) hd
variable {a b : Expr} {ta tb : TE} {pos : Pos}
noncomputable def PC (X : Cx) (op : CmpOp) (a b : Expr) (t : TE) : Prop :=
  ∀ (pins : List (Addr × Obj)) (s : Shared) (σ : St) (H : Hp) (Q : VK), Inv X pins σ H s → t σ H Q →
    wpAny (model X.prog X.w) X.A (eval a X.env) (fun v s₁ => wpAny (model X.prog X.w) X.A (eval b X.env) (fun u s₂ => wpAny (model X.prog X.w) X.A (compareOp op v u) (EP X pins σ Q) X.xe s₂) X.xe s₁) X.xe s
theorem nobehind (b : Expr) {op : CmpOp} (h : op ≠ .In) (h2 : op ≠ .NotIn) : behindInMarks op b = false := by
  have e1 : (op == CmpOp.In) = false := by cases op <;> first | rfl | exact absurd rfl h
  have e2 : (op == CmpOp.NotIn) = false := by cases op <;> first | rfl | exact absurd rfl h2
  cases b <;> simp [behindInMarks, e1, e2]
noncomputable def tB (t : TE) : TT := fun σ H Q => t σ H fun x H1 => ∃ c, x = .bl c ∧ Q c H1
theorem pt_cmp {op : CmpOp} {t : TE} (h : PC X op a b t) (h1 : behindInMarks op b = false := by first | exact nobehind _ (by decide) (by decide) | rfl) : PT X (.Compare a [op] [b] pos) (tB t) := by
  intro pins s σ H Q I hw
  refine wpAny_isTrue_Compare1 (thn (h pins s σ H _ I hw) fun v s1 h1 => thn h1 fun u s2 h2 => thn h2 fun c s3 ⟨x, H1, I1, r1, q1⟩ => ?_) h1
  obtain ⟨d, rfl, q⟩ := q1
  cases r1
  exact wpAny_truthy_bool ⟨H1, I1, q⟩
theorem pt_val {e : Expr} {t : TE} (h : PE X e t) (he : ∀ whole, isTrue e X.env whole = (do let v ← whole; standAt e.pos; holding [v] (truthy v)) := by intro _; rfl) : PT X e (tB t) := by
  intro pins s σ H Q I hw
  refine isTrue_plain (thn (h pins s σ H _ I hw) fun v s1 ⟨x, H1, I1, r1, q1⟩ => ?_) (he _)
  obtain ⟨d, rfl, q⟩ := q1
  cases r1
  exact wpAny_truthy_bool ⟨H1, I1, q⟩

variable {tA tB' : TT} {rest : List Expr}
noncomputable def tAnd (t u : TT) : TT := fun σ H Q => t σ H fun c H1 => if c = true then u σ H1 Q else Q false H1
noncomputable def tOr (t u : TT) : TT := fun σ H Q => t σ H fun c H1 => if c = true then Q true H1 else u σ H1 Q
noncomputable def tNot (t : TT) : TT := fun σ H Q => t σ H fun c H1 => Q (!c) H1
theorem pw_and1 (ha : PT X a tA) : PW X (.BoolOp .And [a] pos) tA := by
  intro wh pins s σ H Q I h
  refine isTrue_and (thn (ha pins s σ H Q I h) fun c s1 e => ?_)
  cases c with
  | true => exact isTrue_and_nil e
  | false => exact e
theorem pw_or1 (ha : PT X a tA) : PW X (.BoolOp .Or [a] pos) tA := by
  intro wh pins s σ H Q I h
  refine isTrue_or (thn (ha pins s σ H Q I h) fun c s1 e => ?_)
  cases c with
  | false => exact isTrue_or_nil e
  | true => exact e
theorem pw_and (ha : PT X a tA) (hb : PW X (.BoolOp .And (b :: rest) pos) tB') : PW X (.BoolOp .And (a :: b :: rest) pos) (tAnd tA tB') := by
  intro wh pins s σ H Q I h
  refine isTrue_and (thn (ha pins s σ H _ I h) fun c s1 ⟨H1, I1, q1⟩ => ?_)
  cases c with
  | true => exact hb wh pins s1 σ H1 Q I1 q1
  | false => exact ⟨H1, I1, q1⟩
theorem pw_or (ha : PT X a tA) (hb : PW X (.BoolOp .Or (b :: rest) pos) tB') : PW X (.BoolOp .Or (a :: b :: rest) pos) (tOr tA tB') := by
  intro wh pins s σ H Q I h
  refine isTrue_or (thn (ha pins s σ H _ I h) fun c s1 ⟨H1, I1, q1⟩ => ?_)
  cases c with
  | true => exact ⟨H1, I1, q1⟩
  | false => exact hb wh pins s1 σ H1 Q I1 q1
theorem pt_not (ha : PT X a tA) : PT X (.UnaryOp .Not a pos) (tNot tA) := by
  intro pins s σ H Q I h
  exact isTrue_not (ha pins s σ H (fun c H1 => Q (!c) H1) I h)
end
end L2

namespace L2
open PySem PySem.Spec PyProof.Rows

noncomputable def SqL (K : PySem.W.Frag) (H : Hp) (a : Addr) (xs : List V) : Prop :=
  Rd H a (.lst xs) ∨
    ∃ (o : Obj) (its : Array Value) (n : Nat), K.lookup a = some o ∧ o.cls = .type "list" ∧ o.dict = none ∧ o.data = .seq its n ∧ its.size ≤ sizeLine ∧ Vals xs its.toList
noncomputable def SqT (K : PySem.W.Frag) (H : Hp) (a : Addr) (xs : List V) : Prop :=
  Rd H a (.tup xs) ∨
    ∃ (o : Obj) (its : Array Value) (n : Nat), K.lookup a = some o ∧ o.cls = .type "tuple" ∧ o.data = .seq its n ∧ its.size ≤ sizeLine ∧ Vals xs its.toList
noncomputable def absV : Value → Option V
  | .none => some .non
  | .bool b => some (.bl b)
  | .int i _ => some (.int i)
  | .str x _ => some (.str x)
  | .bytes b _ => some (.byt b)
  | .float b _ => some (.flt b)
  | .ref a => some (.ref a)
  | .type n => some (.ty n)
  | _ => none
theorem RelV.abs {x : V} {u : Value} (r : RelV x u) : absV u = some x := by
  cases x with
  | non => cases r; rfl
  | bl _ => cases r; rfl
  | int _ => obtain ⟨t, rfl⟩ := r; rfl
  | str _ => obtain ⟨t, rfl⟩ := r; rfl
  | byt _ => obtain ⟨t, rfl⟩ := r; rfl
  | flt _ => obtain ⟨t, rfl⟩ := r; rfl
  | ref _ => cases r; rfl
  | ty _ => cases r; rfl
theorem RelV.inj {x y : V} {u : Value} (r : RelV x u) (q : RelV y u) : x = y := Option.some.inj (r.abs.symm.trans q.abs)
theorem Vals.inj : ∀ {xs ys : List V} {us : List Value}, Vals xs us → Vals ys us → xs = ys
  | _, _, _, .nil, .nil => rfl
  | _, _, _, .cons r t, .cons r' t' => by rw [r.inj r', Vals.inj t t']
section
variable {X : Cx} {pins : List (Addr × Obj)} {σ : St} {H : Hp} {s : Shared} {a : Addr} {xs ys : List V}
theorem SqL.of {K : PySem.W.Frag} (h : H a = some (.lst xs)) : SqL K H a xs := .inl (.inl h)
theorem SqT.of {K : PySem.W.Frag} (h : H a = some (.tup xs)) : SqT K H a xs := .inl (.inl h)
theorem Inv.list (I : Inv X pins σ H s) (h : SqL X.K H a xs) : ∃ its : List Value, Vals xs its ∧ PlainL s.heap a its.toArray ∧ xs.length ≤ sizeLine := by
  rcases h with h | ⟨o, its, n, hk, hc, hd, hs, hz, r⟩
  · obtain ⟨z, its, n, r, e⟩ := h.ok I.hok
    exact ⟨its, r, ⟨_, n, e, rfl, rfl, rfl⟩, z⟩
  · refine ⟨its.toList, r, ⟨o, n, I.kIn a o hk, hc, hd, by simpa using hs⟩, ?_⟩
    have e := r.length
    simp only [Array.length_toList] at e
    omega
theorem Inv.tuple (I : Inv X pins σ H s) (h : SqT X.K H a xs) : ∃ its : List Value, Vals xs its ∧ IsTup s.heap a its.toArray ∧ xs.length ≤ sizeLine := by
  rcases h with h | ⟨o, its, n, hk, hc, hs, hz, r⟩
  · obtain ⟨z, its, r, p⟩ := h.ok I.hok
    exact ⟨its, r, p, z⟩
  · refine ⟨its.toList, r, ⟨o, I.kIn a o hk, hc, n, by simpa using hs⟩, ?_⟩
    have e := r.length
    simp only [Array.length_toList] at e
    omega
theorem Inv.list_inj (I : Inv X pins σ H s) (h : SqL X.K H a xs) (h' : SqL X.K H a ys) : xs = ys := by
  obtain ⟨its, r, ⟨o, n, e, _, _, d⟩, _⟩ := I.list h
  obtain ⟨its', r', ⟨o', n', e', _, _, d'⟩, _⟩ := I.list h'
  rw [e] at e'; cases e'
  rw [d] at d'
  injection d' with d1 _
  have : its = its' := by simpa using congrArg Array.toList d1
  subst this
  exact r.inj r'
theorem Inv.tuple_inj (I : Inv X pins σ H s) (h : SqT X.K H a xs) (h' : SqT X.K H a ys) : xs = ys := by
  obtain ⟨its, r, ⟨o, e, _, n, d⟩, _⟩ := I.tuple h
  obtain ⟨its', r', ⟨o', e', _, n', d'⟩, _⟩ := I.tuple h'
  rw [e] at e'; cases e'
  rw [d] at d'
  injection d' with d1 _
  have : its = its' := by simpa using congrArg Array.toList d1
  subst this
  exact r.inj r'
end

noncomputable abbrev Cx.wish (X : Cx) (E : Value → Shared → Prop) : Cx := { X with xe := E }
noncomputable abbrev Cx.nox (X : Cx) : Cx := X.wish fun _ _ => False
theorem Cx.Ok.wish {X : Cx} (ok : X.Ok) (E : Value → Shared → Prop) : (X.wish E).Ok :=
  ⟨ok.mod, ok.kind, ok.glob, ok.blt, ok.above, ok.inj, ok.has, ok.cab, ok.hd, ok.frames, ok.stk, ok.exf, ok.bs, ok.bsz, ok.noex, ok.exfs, ok.funs, ok.frf⟩
theorem Cx.Ok.unwish {X : Cx} {E : Value → Shared → Prop} (ok : (X.wish E).Ok) : X.Ok :=
  ⟨ok.mod, ok.kind, ok.glob, ok.blt, ok.above, ok.inj, ok.has, ok.cab, ok.hd, ok.frames, ok.stk, ok.exf, ok.bs, ok.bsz, ok.noex, ok.exfs, ok.funs, ok.frf⟩
section
variable {X : Cx} {pins : List (Addr × Obj)} {σ : St} {H : Hp} {s : Shared} {E : Value → Shared → Prop}
theorem Inv.wish (I : Inv X pins σ H s) (E : Value → Shared → Prop) : Inv (X.wish E) pins σ H s := ⟨I.ok.wish E, I.os, I.bare, I.base, I.loc, I.cell, I.free, I.freeC, I.pin, I.hok, I.len⟩
theorem Inv.unwish (I : Inv (X.wish E) pins σ H s) : Inv X pins σ H s := ⟨I.ok.unwish, I.os, I.bare, I.base, I.loc, I.cell, I.free, I.freeC, I.pin, I.hok, I.len⟩
theorem SP.unwish {D : Ends} {f : Flow} {s' : Shared} (h : SP (X.wish E) pins D f s') : SP X pins D f s' := by
  cases f with
  | next => obtain ⟨σ', H', I, q⟩ := h; exact ⟨σ', H', I.unwish, q⟩
  | brk => obtain ⟨σ', H', I, q⟩ := h; exact ⟨σ', H', I.unwish, q⟩
  | cont => obtain ⟨σ', H', I, q⟩ := h; exact ⟨σ', H', I.unwish, q⟩
  | ret u => obtain ⟨v, σ', H', I, r, q⟩ := h; exact ⟨v, σ', H', I.unwish, r, q⟩
theorem PE.nox {e : Expr} {t : TE} (h : PE X.nox e t) : PE X e t := fun pins s σ H Q I hw =>
  wpAny_mono (h pins s σ H Q (I.wish _) hw) (fun _ _ ⟨v, H', I', r, q⟩ => ⟨v, H', I'.unwish, r, q⟩) fun _ _ z => False.elim z
theorem PT.nox {e : Expr} {t : TT} (h : PT X.nox e t) : PT X e t := fun pins s σ H Q I hw =>
  wpAny_mono (h pins s σ H Q (I.wish _) hw) (fun _ _ ⟨H', I', q⟩ => ⟨H', I'.unwish, q⟩) fun _ _ z => False.elim z
theorem PSs.nox {st : List Stmt} {t : TS} (h : PSs X.nox st t) : PSs X st t := fun pins s σ H D I hw =>
  wpAny_mono (h pins s σ H D (I.wish _) hw) (fun _ _ q => q.unwish) fun _ _ z => False.elim z
end

section
variable {X : Cx} {st : Stmt} {rest : List Stmt} {t u : TS} {e : Expr} {te : TE} {pos : Pos}
noncomputable def tNext : TS := fun D σ H => D.nx σ H
noncomputable def tSeq (t u : TS) : TS := fun D σ H => t { D with nx := u D } σ H
theorem pss_nil : PSs X [] tNext := fun _ _ σ H _ I h => wpAny_execs_nil ⟨σ, H, I, h⟩
theorem pss_cons (h1 : PS X st t) (h2 : PSs X rest u) : PSs X (st :: rest) (tSeq t u) := by
  intro pins s σ H D I h
  refine wpAny_execs_cons (thn (h1 pins s σ H { D with nx := u D } I h) fun f s1 q => ?_)
  cases f with
  | next =>
    obtain ⟨σ', H', I', q⟩ := q
    exact h2 pins s1 σ' H' D I' q
  | ret v => exact q
  | brk => exact q
  | cont => exact q
theorem pss_one (h1 : PS X st t) : PSs X [st] t := by
  intro pins s σ H D I h
  refine wpAny_execs_cons (thn (h1 pins s σ H D I h) fun f s1 q => ?_)
  cases f with
  | next => exact wpAny_execs_nil q
  | ret v => exact q
  | brk => exact q
  | cont => exact q
theorem Inv.quiet {pins : List (Addr × Obj)} {σ : St} {H : Hp} {s : Shared} (I : Inv X pins σ H s) : interactive X.env = false := by simp [interactive, I.ok.kind]
noncomputable def tDrop (te : TE) : TS := fun D σ H => te σ H fun _ H1 => D.nx σ H1
theorem ps_expr (he : PE X e te) (hs : swapsWith e none pos.line X.env = pure false := by rfl) : PS X (.Expr e pos) (tDrop te) := by
  intro pins s σ H D I h
  exact wpAny_Expr_any (thn (he pins s σ H _ I h) fun v s1 ⟨x, H1, I1, r1, q1⟩ => ⟨σ, H1, I1, q1⟩) I.quiet hs
noncomputable def tRet (te : TE) : TS := fun D σ H => te σ H D.rt
theorem ps_ret (he : PE X e te) : PS X (.Return (some e) pos) (tRet te) := by
  intro pins s σ H D I h
  exact wpAny_Return_some (thn (he pins s σ H _ I h) fun v s1 ⟨x, H1, I1, r1, q1⟩ => ⟨x, σ, H1, I1, r1, q1⟩)
noncomputable def tIfS (c : TT) (t u : TS) : TS := fun D σ H => c σ H fun b H1 => if b = true then t D σ H1 else u D σ H1
theorem ps_if {c : Expr} {a b : List Stmt} {tc : TT} (hc : PT X c tc) (ha : PSs X a t) (hb : PSs X b u) : PS X (.If c a b pos) (tIfS tc t u) := by
  intro pins s σ H D I h
  refine wpAny_If (thn (hc pins s σ H _ I h) fun d s1 ⟨H1, I1, q1⟩ => ?_)
  cases d with
  | true => exact ha pins s1 σ H1 D I1 q1
  | false => exact hb pins s1 σ H1 D I1 q1
noncomputable def tNever : TS := fun _ _ _ => False
theorem ps_never : PS X st tNever := fun _ _ _ _ _ _ h => h.elim
end

noncomputable abbrev TG := V → St → Hp → (St → Hp → Prop) → Prop
noncomputable abbrev TGs := List V → St → Hp → (St → Hp → Prop) → Prop
noncomputable def PG (X : Cx) (target : Expr) (t : TG) : Prop :=
  ∀ (pins : List (Addr × Obj)) (s : Shared) (σ : St) (H : Hp) (v : V) (u : Value) (Q : St → Hp → Prop), Inv X pins σ H s → RelV v u → t v σ H Q →
    wpAny (model X.prog X.w) X.A (assign target X.env u) (fun _ s' => ∃ σ' H', Inv X pins σ' H' s' ∧ Q σ' H') X.xe s
noncomputable def PGs (X : Cx) (ts : List Expr) (t : TGs) : Prop :=
  ∀ (pins : List (Addr × Obj)) (s : Shared) (σ : St) (H : Hp) (vs : List V) (us : List Value) (Q : St → Hp → Prop), Inv X pins σ H s → Vals vs us → t vs σ H Q →
    wpAny (model X.prog X.w) X.A (assignInOrder ((assignEach ts X.env).map (·.2)) us) (fun _ s' => ∃ σ' H', Inv X pins σ' H' s' ∧ Q σ' H') X.xe s
noncomputable abbrev TSet := V → V → V → Hp → (Hp → Prop) → Prop
noncomputable def PSet (X : Cx) (t : TSet) : Prop :=
  ∀ (pins : List (Addr × Obj)) (s : Shared) (σ : St) (H : Hp) (o i v : V) (ov iv u : Value) (Q : Hp → Prop), Inv X pins σ H s → RelV o ov → RelV i iv → RelV v u → t o i v H Q →
    wpAny (model X.prog X.w) X.A (setItem ov iv u) (fun _ s' => ∃ H', Inv X pins σ H' s' ∧ Q H') X.xe s
section
variable {X : Cx} {pos : Pos}
noncomputable def gName (i : Nat) : TG := fun v σ H Q => Q (σ.set i (some v)) H
theorem pg_name {i : Nat} {x : Str} (hN : X.N.Nodup) (hi : X.N[i]? = some x) (hx : Loc X.env.scope x) (hf : X.fn x = true ∨ X.env.scope.names.lookup x = some .local := by first | exact .inl rfl | exact .inr rfl | assumption) : PG X (.Name x pos) (gName i) := by
  intro pins s σ H v u Q I r h
  exact wpAny_assign_Name (store_ok I hN hi hx r (fun s' I' => ⟨_, H, I', h⟩) hf)
noncomputable def gNil : TGs := fun vs σ H Q => vs = [] ∧ Q σ H
noncomputable def gCons (t : TG) (u : TGs) : TGs := fun vs σ H Q => ∃ v r, vs = v :: r ∧ t v σ H fun σ' H' => u r σ' H' Q
theorem pgs_nil : PGs X [] gNil := by
  intro pins s σ H vs us Q I r h
  obtain ⟨e, h⟩ := h
  subst e
  cases r
  exact assignInOrder_nil ⟨σ, H, I, h⟩
theorem pgs_cons {e : Expr} {es : List Expr} {t : TG} {u : TGs} (h1 : PG X e t) (h2 : PGs X es u)
    (hs : (assignEach (e :: es) X.env).map (·.2) = assign e X.env :: (assignEach es X.env).map (·.2) := by rfl) : PGs X (e :: es) (gCons t u) := by
  intro pins s σ H vs us Q I r h
  obtain ⟨v, vr, e1, h⟩ := h
  subst e1
  cases r with
  | cons r rr =>
    rw [hs]
    refine assignInOrder_cons (thn (h1 pins s σ H _ _ _ I r h) fun _ s1 ⟨σ1, H1, I1, q1⟩ => ?_)
    exact h2 pins s1 σ1 H1 _ _ Q I1 rr q1
noncomputable def gTup (K : PySem.W.Frag) (n : Nat) (t : TGs) : TG := fun v σ H Q => ∃ a xs, v = .ref a ∧ SqT K H a xs ∧ xs.length = n ∧ t xs σ H Q
theorem pg_tup {es : List Expr} {k : Nat} {t : TGs} {n : Nat} (hc : X.calm = true) (h : PGs X es t)
    (hn : (assignEach es X.env).length = n := by rfl) (hst : (assignEach es X.env).findIdx? (·.1) = none := by rfl) : PG X (.Tuple es k pos) (gTup X.K n t) := by
  intro pins s σ H v u Q I r hw
  obtain ⟨a, xs, e1, hq, hl, hw⟩ := hw
  subst e1
  cases r
  obtain ⟨its, rv, ht, hz⟩ := I.tuple hq
  refine assign_Tuple_tuple (I.ok.hd hc) ht (by simp [hn, ← hl, rv.length]) hst fun h' hx => ?_
  have I1 : Inv X pins σ H { s with heap := h' } := I.kept (t' := s.toks) fun b o e => hx b o (Nat.ne_of_lt (Heap.lt_size e)) e
  exact h pins _ σ H xs _ Q I1 (by simpa using rv) hw
noncomputable def gSub (to ti : TE) (t : TSet) : TG := fun v σ H Q => to σ H fun o H1 => ti σ H1 fun i H2 => t o i v H2 fun H3 => Q σ H3
theorem pg_sub {o i : Expr} {to ti : TE} {t : TSet} (ho : PE X o to) (hi : PE X i ti) (hs : PSet X t)
    (ha : ∀ v, assign (.Subscript o i pos) X.env v = (do
      let ov ← holding [v] (eval o X.env)
      let iv ← holding [v, ov] (eval i X.env)
      standAt pos
      holding [v, ov, iv] (setItem ov iv v)
      release [v, ov, iv] []) := by intro _; rfl) : PG X (.Subscript o i pos) (gSub to ti t) := by
  intro pins s σ H v u Q I r h
  rw [ha]
  refine wpAny_bind (wpAny_holding (thn (ho pins s σ H _ I h) fun ov s1 ⟨x, H1, I1, r1, q1⟩ => ?_))
  refine wpAny_bind (wpAny_holding (thn (hi pins s1 σ H1 _ I1 q1) fun iv s2 ⟨y, H2, I2, r2, q2⟩ => ?_))
  refine wpAny_bind (wpAny_standAt (wpAny_bind (wpAny_holding (thn (hs pins s2 σ H2 x y v ov iv u _ I2 r1 r2 r q2) fun _ s3 ⟨H3, I3, q3⟩ => ?_))))
  exact wpAny_release ⟨σ, H3, I3, q3⟩
noncomputable def tAsg (te : TE) (g : TG) : TS := fun D σ H => te σ H fun x H1 => g x σ H1 D.nx
theorem ps_asg {tg e : Expr} {te : TE} {g : TG} (he : PE X e te) (hg : PG X tg g) (hs : swapsWithSole [tg] e pos.line X.env = pure false := by rfl) (hw : swappedStores [tg] e X.env = pure none := by rfl)
    (h1 : (assignEach [tg] X.env).map (·.2) = [assign tg X.env] := by rfl) : PS X (.Assign [tg] e pos) (tAsg te g) := by
  intro pins s σ H D I h
  refine wpAny_Assign_stores (thn (he pins s σ H _ I h) fun v s1 ⟨x, H1, I1, r1, q1⟩ => ?_) hs hw
  rw [h1]
  exact thn (hg pins s1 σ H1 x v _ I1 r1 q1) fun _ s2 q => q
theorem ps_set {i : Nat} {x : Str} {e : Expr} {te : TE} {pos' : Pos} (hN : X.N.Nodup) (hi : X.N[i]? = some x) (hx : Loc X.env.scope x) (he : PE X e te) (hs : swapsWith e (some (.Name x pos')) pos.line X.env = pure false := by rfl) (hf : X.fn x = true ∨ X.env.scope.names.lookup x = some .local := by first | exact .inl rfl | exact .inr rfl | assumption) :
    PS X (.Assign [.Name x pos'] e pos) (tAsg te (gName i)) := by
  intro pins s σ H D I h
  refine wpAny_Assign_Name (thn (he pins s σ H _ I h) fun v s1 ⟨y, H1, I1, r1, q1⟩ => ?_) hs
  exact store_ok I1 hN hi hx r1 (fun s2 I2 => ⟨_, H1, I2, q1⟩) hf
noncomputable def tPar (i j : Nat) (ta : TA) : TS := fun D σ H => ta σ H fun vs H1 => ∃ v w, vs = [v, w] ∧ D.nx ((σ.set i (some v)).set j (some w)) H1
theorem ps_par {i j : Nat} {x y : Str} {a b : Expr} {ta : TA} {px py pt : Pos} {kt k2 pt2} (hc : X.calm = true) (hN : X.N.Nodup) (hi : X.N[i]? = some x) (hj : X.N[j]? = some y) (hij : i ≠ j)
    (hx : X.env.scope.names.lookup x = some .local) (hy : X.env.scope.names.lookup y = some .local) (ha : PA X [a, b] ta)
    (hw : swappedStores [.Tuple [.Name x px, .Name y py] kt pt] (.Tuple [a, b] k2 pt2) X.env = pure (some [x, y]))
    (hs : swapsWithSole [.Tuple [.Name x px, .Name y py] kt pt] (.Tuple [a, b] k2 pt2) pos.line X.env = pure false := by rfl) :
    PS X (.Assign [.Tuple [.Name x px, .Name y py] kt pt] (.Tuple [a, b] k2 pt2) pos) (tPar i j ta) := by
  intro pins s σ H D I h
  rw [exec_Assign_arm]
  refine wpAny_bind (wpAny_standAt ?_)
  rw [hs]
  refine wpAny_bind (wpAny_pure ?_)
  rw [if_neg (by decide)]
  refine wpAny_bind (Tuple_ (thn (ha _ pins s σ H _ I h) fun us s1 ⟨vs, H1, I1, r1, q1⟩ => ?_))
  obtain ⟨v, w, e1, q1⟩ := q1
  subst e1
  obtain ⟨u1, u2, rfl, rv, rw'⟩ : ∃ u1 u2, us = [u1, u2] ∧ RelV v u1 ∧ RelV w u2 := by
    cases r1 with
    | cons p q =>
      cases q with
      | cons p' q' =>
        cases q'
        exact ⟨_, _, rfl, p, p'⟩
  refine wpAny_newObj_type ?_ (by show 2 ≤ sizeLine; decide)
  have I2 : Inv X pins σ H1 { s1 with heap := s1.heap.push { cls := .type "tuple", data := .seq [u1, u2].toArray } } := I1.kept (t' := s1.toks) fun b o e => Heap.get?_push_of_some _ e
  rw [hw]
  refine wpAny_bind (wpAny_pure ?_)
  show wpAny (model X.prog X.w) X.A (do rule "assign.swapped-stores"; let items ← unpackItems (.ref s1.heap.objs.size) 2 none; assignInOrder [fun v => bindName X.env y v, fun v => bindName X.env x v] items.reverse; pure Flow.next) _ _ _
  refine wpAny_bind (wpAny_rule (wpAny_bind (unpackItems_tuple (items := #[u1, u2]) (I.ok.hd hc) (IsTup.new s1.heap _) fun h' hx' => ?_)))
  have I3 := I2.kept (h' := h') (t' := s1.toks) fun b o e => hx' b o (Nat.ne_of_lt (Heap.lt_size e)) e
  show wpAny _ _ (assignInOrder [fun v => bindName X.env y v, fun v => bindName X.env x v] [u2, u1] >>= fun _ => pure Flow.next) _ _ _
  refine wpAny_bind (assignInOrder_cons (wpAny_bindName (store_ok I3 hN hj (.inl hy) rw' (fun s2 I4 => ?_) (.inr hy))))
  refine assignInOrder_cons (wpAny_bindName (store_ok I4 hN hi (.inl hx) rv (fun s3 I5 => assignInOrder_nil (wpAny_pure ?_)) (.inr hx)))
  rw [List.set_comm _ _ (Ne.symm hij)] at I5
  exact ⟨_, H1, I5, q1⟩
end

section
variable {X : Cx} {pos : Pos}
end

structure It where
  go : Nat → Hp → Prop
  yld : Nat → Hp → V → Hp → Prop
  stop : Nat → Hp → Prop
noncomputable def FpOk (X : Cx) (pins : List (Addr × Obj)) (H : Hp) (b : Addr) : Prop :=
  H b = none ∧ b ≠ X.env.locals ∧ b ∉ X.fs ∧ (b ∈ X.ex ∨ X.s₀.heap.objs.size ≤ b) ∧ (∀ x c, X.env.cells.lookup x = some c → c ≠ b) ∧ ∀ p ∈ X.pn ++ pins, p.1 ≠ b
theorem Inv.fpOk {X : Cx} {pins : List (Addr × Obj)} {σ : St} {H H' : Hp} {s : Shared} {b : Addr} (I : Inv X pins σ H s) (hb : s.heap.objs.size ≤ b) (hn : H' b = none) : FpOk X pins H' b := by
  refine ⟨hn, Nat.ne_of_gt (Nat.lt_of_lt_of_le I.lt hb), I.nofs hb, .inr (Nat.le_trans I.sz hb), fun x c e z => ?_, fun p hp z => ?_⟩
  · obtain ⟨v, q⟩ := I.cell x c e
    exact absurd (Nat.lt_of_lt_of_le q.lt (by rw [z]; exact hb)) (Nat.lt_irrefl _)
  · exact absurd (Nat.lt_of_lt_of_le (Heap.lt_size (I.pin p hp).1) (by rw [z]; exact hb)) (Nat.lt_irrefl _)
structure Turn (P : Program) (w : World) (K : PySem.W.Frag) (tg : Expr) (J : It) (fp : List Addr) (it : Addr) (tn : Nat → Heap → Prop) : Prop where
  mem : it ∈ fp
  obj : ∀ i h, tn i h → ∀ b ∈ fp, ∃ o, h.get? b = some o ∧ ∀ v, o.data ≠ .cell v
  keep : ∀ i h h', tn i h → (∀ b ∈ fp, ∀ o, h.get? b = some o → h'.get? b = some o) → tn i h'
  item : ∀ (X : Cx), X.prog = P → X.w = w → X.K = K → X.calm = true → ∀ (i : Nat) (pins : List (Addr × Obj)) (s : Shared) (σ : St) (H : Hp) (E : Value → Shared → Prop), Inv X pins σ H s → (∀ b ∈ fp, FpOk X pins H b) → tn i s.heap → J.go i H →
    wpAny (model P w) X.A (pyNext (.ref it)) (fun r s1 => ∃ u, r = some u ∧
      wpAny (model P w) X.A (letOwnedTupleGo tg (.ref it) u) (fun _ s2 => ∃ x H', Inv X pins σ H' s2 ∧ RelV x u ∧ J.yld i H x H' ∧ tn (i + 1) s2.heap ∧ ∀ b ∈ fp, H' b = none) E s1) E s
  done : ∀ (X : Cx), X.prog = P → X.w = w → X.K = K → X.calm = true → ∀ (i : Nat) (pins : List (Addr × Obj)) (s : Shared) (σ : St) (H : Hp) (E : Value → Shared → Prop), Inv X pins σ H s → (∀ b ∈ fp, FpOk X pins H b) → tn i s.heap → J.stop i H →
    wpAny (model P w) X.A (pyNext (.ref it)) (fun r s1 => r = none ∧ Inv X pins σ H s1) E s
  self : ∀ (A : Around) (i : Nat) (s : Shared) (Q : Value → Shared → Prop) (E : Value → Shared → Prop), tn i s.heap → Q (.ref it) s → wpAny (model P w) A (pyIter (.ref it)) Q E s
noncomputable abbrev TI := St → Hp → (It → Hp → Prop) → Prop
noncomputable def PIE (X : Cx) (pins : List (Addr × Obj)) (σ : St) (tg : Expr) (R : It → Hp → Prop) (itv : Value) (s2 : Shared) : Prop :=
  ∃ (it : Addr) (fp : List Addr) (tn : Nat → Heap → Prop) (J : It) (H' : Hp), itv = .ref it ∧ Inv X pins σ H' s2 ∧ Turn X.prog X.w X.K tg J fp it tn ∧ tn 0 s2.heap ∧ (∀ b ∈ fp, FpOk X pins H' b) ∧ R J H'
noncomputable def PI (X : Cx) (tg iter : Expr) (wi : TI) : Prop :=
  ∀ (pins : List (Addr × Obj)) (s : Shared) (σ : St) (H : Hp) (R : It → Hp → Prop), Inv X pins σ H s → wi σ H R →
    wpAny (model X.prog X.w) X.A (eval iter X.env) (fun v s1 => wpAny (model X.prog X.w) X.A (pyIter v) (PIE X pins σ tg R) X.xe s1) X.xe s

theorem go_of {M : Model} {A : Around} {E : Value → Shared → Prop} {s : Shared} {tg : Expr} {it : Addr} {u : Value} {o : Obj} {n : String} {vs : Array Value} {Q : Unit → Shared → Prop} (ho : s.heap.get? it = some o) (hc : o.cls = .type n) (hd : o.data = .fields vs)
    (hn : ["enumerate", "zip", "dict_itemiterator", "dict_reverseitemiterator", "odict_iterator", "itertools.zip_longest", "itertools.pairwise"].contains n = false) (hQ : Q () s) : wpAny M A (letOwnedTupleGo tg (.ref it) u) Q E s := by
  unfold letOwnedTupleGo
  cases tg <;> first
    | exact wpAny_pure hQ
    | (cases u <;> first
        | exact wpAny_pure hQ
        | (refine wpAny_bind (wpAny_load ho ?_)
           rw [hc, hd]
           show wpAny M A (if (["enumerate", "zip", "dict_itemiterator", "dict_reverseitemiterator", "odict_iterator", "itertools.zip_longest", "itertools.pairwise"].contains n && vs[0]? == some (rawInt _)) = true then _ else _) Q E s
           rw [if_neg (by intro h; rw [hn, Bool.false_and] at h; cases h)]
           exact wpAny_pure hQ))

noncomputable def Itl (K : PySem.W.Frag) (a : Addr) : It :=
  ⟨fun i H => ∃ xs x, SqL K H a xs ∧ xs[i]? = some x, fun i H x H' => H' = H ∧ ∀ xs, SqL K H a xs → xs[i]? = some x, fun i H => ∃ xs, SqL K H a xs ∧ xs.length ≤ i⟩
noncomputable def Itt (K : PySem.W.Frag) (a : Addr) : It :=
  ⟨fun i H => ∃ xs x, SqT K H a xs ∧ xs[i]? = some x, fun i H x H' => H' = H ∧ ∀ xs, SqT K H a xs → xs[i]? = some x, fun i H => ∃ xs, SqT K H a xs ∧ xs.length ≤ i⟩
noncomputable def Itr (lo : Int) (n : Nat) : It := ⟨fun i _ => i < n, fun i H x H' => H' = H ∧ x = .int (lo + i), fun i _ => n ≤ i⟩
theorem turn_list {P : Program} {w : World} {K : PySem.W.Frag} {tg : Expr} (a it : Addr) : Turn P w K tg (Itl K a) [it] it (fun i h => h.IsListIter it a i) where
  mem := by simp
  obj := fun i h st b hb => by
    have e : b = it := by simpa using hb
    subst e
    obtain ⟨o, e, c, d⟩ := st
    exact ⟨o, e, fun v z => by rw [d] at z; cases z⟩
  keep := fun i h h' st k => st.at fun o e => k it (by simp) o e
  item := by
    intro X hP hw hK hc i pins s σ H E I hf st hg
    subst hP hw hK
    obtain ⟨xs, x, hq, hx⟩ := hg
    obtain ⟨its, rv, p, hz⟩ := I.list hq
    obtain ⟨u, hu, ru⟩ := rv.get hx
    obtain ⟨f0, f1, f2, f3, f4, f5⟩ := hf it (by simp)
    refine wpAny_pyNext_list_item st p.isList (x := u) (by simpa using hu) fun h' st' sb => ?_
    have I1 : Inv X pins σ H { s with heap := h' } := I.turned (t' := s.toks) (fun b o hb e => (sb.2 b hb).trans e) f0 f1 f3 f4 f5
    obtain ⟨o, e, c, d⟩ := id st'
    exact ⟨u, rfl, go_of (s := { s with heap := h' }) e c d (by decide) ⟨x, H, I1, ru, ⟨rfl, fun ys hy => by rw [I.list_inj hy hq]; exact hx⟩, st', fun b hb => (hf b hb).1⟩⟩
  done := by
    intro X hP hw hK hc i pins s σ H E I hf st hg
    subst hP hw hK
    obtain ⟨xs, hq, hx⟩ := hg
    obtain ⟨its, rv, p, hz⟩ := I.list hq
    obtain ⟨f0, f1, f2, f3, f4, f5⟩ := hf it (by simp)
    have hl := rv.length
    exact wpAny_pyNext_list_end (I.ok.hd hc) st p.isList (by simp; omega) fun h' eb => ⟨rfl, I.turned (t' := s.toks) (fun b o hb e => eb b o hb e) f0 f1 f3 f4 f5⟩
  self := fun _ _ _ _ _ st h => wpAny_pyIter_listiter st h
theorem turn_tuple {P : Program} {w : World} {K : PySem.W.Frag} {tg : Expr} (a it : Addr) : Turn P w K tg (Itt K a) [it] it (fun i h => h.IsTupleIter it a i) where
  mem := by simp
  obj := fun i h st b hb => by
    have e : b = it := by simpa using hb
    subst e
    obtain ⟨o, e, c, d⟩ := st
    exact ⟨o, e, fun v z => by rw [d] at z; cases z⟩
  keep := fun i h h' st k => st.at fun o e => k it (by simp) o e
  item := by
    intro X hP hw hK hc i pins s σ H E I hf st hg
    subst hP hw hK
    obtain ⟨xs, x, hq, hx⟩ := hg
    obtain ⟨its, rv, p, hz⟩ := I.tuple hq
    obtain ⟨u, hu, ru⟩ := rv.get hx
    obtain ⟨f0, f1, f2, f3, f4, f5⟩ := hf it (by simp)
    refine wpAny_pyNext_tuple_item st (show s.heap.IsTuple a its.toArray from p) (x := u) (by simpa using hu) fun h' st' sb => ?_
    have I1 : Inv X pins σ H { s with heap := h' } := I.turned (t' := s.toks) (fun b o hb e => (sb.2 b hb).trans e) f0 f1 f3 f4 f5
    obtain ⟨o, e, c, d⟩ := id st'
    exact ⟨u, rfl, go_of (s := { s with heap := h' }) e c d (by decide) ⟨x, H, I1, ru, ⟨rfl, fun ys hy => by rw [I.tuple_inj hy hq]; exact hx⟩, st', fun b hb => (hf b hb).1⟩⟩
  done := by
    intro X hP hw hK hc i pins s σ H E I hf st hg
    subst hP hw hK
    obtain ⟨xs, hq, hx⟩ := hg
    obtain ⟨its, rv, p, hz⟩ := I.tuple hq
    obtain ⟨f0, f1, f2, f3, f4, f5⟩ := hf it (by simp)
    have hl := rv.length
    exact wpAny_pyNext_tuple_end (I.ok.hd hc) st (show s.heap.IsTuple a its.toArray from p) (by simp; omega) fun h' eb => ⟨rfl, I.turned (t' := s.toks) (fun b o hb e => eb b o hb e) f0 f1 f3 f4 f5⟩
  self := fun _ _ _ _ _ st h => wpAny_pyIter_tupleiter st h
theorem turn_range {P : Program} {w : World} {K : PySem.W.Frag} {tg : Expr} (it : Addr) (lo : Int) (n : Nat) : Turn P w K tg (Itr lo n) [it] it (fun i h => IsRangeIter h it (lo + (i : Nat) * 1) ((n : Int) - (i : Nat)) 1) where
  mem := by simp
  obj := fun i h st b hb => by
    have e : b = it := by simpa using hb
    subst e
    exact ⟨_, st, fun v z => by
      have z' : Data.fields _ = Data.cell v := z
      cases z'⟩
  keep := fun i h h' st k => k it (by simp) _ st
  item := by
    intro X hP hw hK hc i pins s σ H E I hf st hg
    subst hP hw hK
    obtain ⟨f0, f1, f2, f3, f4, f5⟩ := hf it (by simp)
    have W := Walks.range (prog := X.prog) (w := X.w) (I.ok.hd hc) it lo 1 n
    refine W.item i s _ _ hg st fun v h' tk hv st' kk => ?_
    obtain ⟨t, rfl⟩ := hv
    have I1 : Inv X pins σ H { s with heap := h', toks := tk } := I.turned (fun b o hb e => kk b o (by simpa using hb) e) f0 f1 f3 f4 f5
    refine ⟨_, rfl, go_of (s := { s with heap := h', toks := tk }) (n := "range_iterator") st' rfl rfl (by decide) ⟨.int (lo + i), H, I1, ⟨t, ?_⟩, ⟨rfl, rfl⟩, st', fun b hb => (hf b hb).1⟩⟩
    rw [Int.mul_one]
  done := by
    intro X hP hw hK hc i pins s σ H E I hf st hg
    subst hP hw hK
    obtain ⟨f0, f1, f2, f3, f4, f5⟩ := hf it (by simp)
    exact wpAny_pyNext_range_end (I.ok.hd hc) st (by have : n ≤ i := hg; omega) fun h' eb => ⟨rfl, I.turned (t' := s.toks) (fun b o hb e => eb b o hb e) f0 f1 f3 f4 f5⟩
  self := fun _ _ _ _ _ st h => wpAny_pyIter_rangeiter st h
end L2

namespace L2
open PySem PySem.Spec PyProof.Rows
section
variable {X : Cx} {tg : Expr}
noncomputable def iList (K : PySem.W.Frag) (tl : TE) : TI := fun σ H R => tl σ H fun x H1 => ∃ a, x = .ref a ∧ (∃ xs, SqL K H1 a xs) ∧ R (Itl K a) H1
noncomputable def iTup (K : PySem.W.Frag) (tl : TE) : TI := fun σ H R => tl σ H fun x H1 => ∃ a, x = .ref a ∧ (∃ xs, SqT K H1 a xs) ∧ R (Itt K a) H1
theorem pi_list {l : Expr} {tl : TE} (hl : PE X l tl) : PI X tg l (iList X.K tl) := by
  intro pins s σ H R I h
  refine thn (hl pins s σ H _ I h) fun v s1 ⟨x, H1, I1, r1, q1⟩ => ?_
  obtain ⟨a, e, ⟨xs, hq⟩, q⟩ := q1
  subst e
  cases r1
  obtain ⟨its, rv, p, hz⟩ := I1.list hq
  refine wpAny_pyIter_list p.isList ?_
  refine ⟨s1.heap.objs.size, [s1.heap.objs.size], _, _, H1, rfl, I1.kept (t' := s1.toks) fun b o e => Heap.get?_push_of_some _ e, turn_list a _, ⟨_, Heap.get?_push_size _ rfl, rfl, rfl⟩, fun b hb => ?_, q⟩
  have e : b = s1.heap.objs.size := by simpa using hb
  subst e
  exact I1.fpOk (Nat.le_refl _) (I1.hok.fresh (Nat.le_refl _))
theorem pi_tup {l : Expr} {tl : TE} (hl : PE X l tl) : PI X tg l (iTup X.K tl) := by
  intro pins s σ H R I h
  refine thn (hl pins s σ H _ I h) fun v s1 ⟨x, H1, I1, r1, q1⟩ => ?_
  obtain ⟨a, e, ⟨xs, hq⟩, q⟩ := q1
  subst e
  cases r1
  obtain ⟨its, rv, p, hz⟩ := I1.tuple hq
  refine wpAny_pyIter_tuple (show s1.heap.IsTuple a its.toArray from p) ?_
  refine ⟨s1.heap.objs.size, [s1.heap.objs.size], _, _, H1, rfl, I1.kept (t' := s1.toks) fun b o e => Heap.get?_push_of_some _ e, turn_tuple a _, ⟨_, Heap.get?_push_size _ rfl, rfl, rfl⟩, fun b hb => ?_, q⟩
  have e : b = s1.heap.objs.size := by simpa using hb
  subst e
  exact I1.fpOk (Nat.le_refl _) (I1.hok.fresh (Nat.le_refl _))
theorem range_it {pins : List (Addr × Obj)} {σ : St} {H : Hp} {s : Shared} {R : It → Hp → Prop} {E : Value → Shared → Prop} {lo hi : Int} {t u v : Tok} {tk : Nat} (I : Inv X pins σ H s) (h1 : -(2 ^ 62) ≤ lo) (h2 : lo < 2 ^ 62) (h3 : -(2 ^ 62) ≤ hi) (h4 : hi < 2 ^ 62)
    (q : R (Itr lo (hi - lo).toNat) H) : wpAny (model X.prog X.w) X.A (pyIter (.ref s.heap.objs.size)) (PIE X pins σ tg R) E { s with heap := s.heap.push { cls := .type "range", data := .fields #[.int lo t, .int hi u, .int 1 v] }, toks := tk } := by
  refine wpAny_pyIter_range (IsRange.new ..) (small_one h1 h2 h3 h4) ?_
  have I1 : Inv X pins σ H { s with heap := s.heap.push { cls := .type "range", data := .fields #[.int lo t, .int hi u, .int 1 v] }, toks := tk } := I.kept fun b o e => Heap.get?_push_of_some _ e
  refine ⟨(s.heap.push { cls := .type "range", data := .fields #[.int lo t, .int hi u, .int 1 v] }).objs.size, [(s.heap.push { cls := .type "range", data := .fields #[.int lo t, .int hi u, .int 1 v] }).objs.size], _, _, H, rfl,
    I1.kept (t' := tk) fun b o e => Heap.get?_push_of_some _ e, turn_range _ lo (hi - lo).toNat, ?_, fun b hb => ?_, q⟩
  · have e1 : lo + ((0 : Nat) : Int) * 1 = lo := by simp
    have e2 : (((hi - lo).toNat : Nat) : Int) - ((0 : Nat) : Int) = Builtin.Range.rangeSize lo hi 1 := by rw [rangeSize_one]; split <;> omega
    show IsRangeIter _ _ (lo + ((0 : Nat) : Int) * 1) ((((hi - lo).toNat : Nat) : Int) - ((0 : Nat) : Int)) 1
    rw [e1, e2]
    exact Heap.get?_push_size _ rfl
  · have e : b = (s.heap.push { cls := .type "range", data := .fields #[.int lo t, .int hi u, .int 1 v] }).objs.size := by simpa using hb
    subst e
    exact I1.fpOk (Nat.le_refl _) (I1.hok.fresh (Nat.le_refl _))
noncomputable def iRng1 (ta : TA) : TI := fun σ H R => ta σ H fun vs H1 => ∃ j : Int, vs = [.int j] ∧ -(2 ^ 62) ≤ j ∧ j < 2 ^ 62 ∧ R (Itr 0 j.toNat) H1
noncomputable def iRng2 (ta : TA) : TI := fun σ H R => ta σ H fun vs H1 => ∃ i j : Int, vs = [.int i, .int j] ∧ (-(2 ^ 62) ≤ i ∧ i < 2 ^ 62 ∧ -(2 ^ 62) ≤ j ∧ j < 2 ^ 62) ∧ R (Itr i (j - i).toNat) H1
theorem pi_range1 {a : Expr} {ta : TA} {p pos : Pos} (hg : Gl X "range") (hm : X.mg "range" = none) (ha : PA X [a] ta) (hs : starEach [a] X.env = [(false, eval a X.env)] := by rfl) : PI X tg (.Call (.Name "range" p) [a] [] pos) (iRng1 ta) := by
  intro pins s σ H R I h
  refine Call_ (ld_blt I hg hm boot_range (PyProof.Rows.callWith_type1 (thn (ha pos pins s σ H _ I h) fun us s1 ⟨vs, H1, I1, r1, q1⟩ => ?_) hs rfl))
  obtain ⟨j, e, q1, q2, q⟩ := q1
  subst e
  cases r1 with
  | cons r rr =>
    cases rr
    obtain ⟨t, rfl⟩ := r
    exact call_range_1 (range_it I1 (by omega) (by omega) q1 q2 (by simpa using q))
theorem pi_range2 {a b : Expr} {ta : TA} {p pos : Pos} (hg : Gl X "range") (hm : X.mg "range" = none) (ha : PA X [a, b] ta) (hs : starEach [a, b] X.env = [(false, eval a X.env), (false, eval b X.env)] := by rfl) (hs2 : starEach [b] X.env = [(false, eval b X.env)] := by rfl) :
    PI X tg (.Call (.Name "range" p) [a, b] [] pos) (iRng2 ta) := by
  intro pins s σ H R I h
  refine Call_ (ld_blt I hg hm boot_range (PyProof.Rows.callWith_type1 (thn (ha pos pins s σ H _ I h) fun us s1 ⟨vs, H1, I1, r1, q1⟩ => ?_) (by rw [hs, hs2]) (by rw [hs2]; rfl)))
  obtain ⟨i, j, e, ⟨q1, q2, q3, q4⟩, q⟩ := q1
  subst e
  cases r1 with
  | cons r rr =>
    cases rr with
    | cons r' rr =>
      cases rr
      obtain ⟨t, rfl⟩ := r
      obtain ⟨t', rfl⟩ := r'
      exact call_range_2 (range_it I1 q1 q2 q3 q4 q)

noncomputable def tFor (wi : TI) (g : TG) (tb : TS) : TS := fun D σ H => wi σ H fun J H1 => ∃ W : Nat → Nat → St → Hp → Prop, (∃ m, W 0 m σ H1) ∧ ∀ i m σ H, W i m σ H →
  (J.stop i H ∧ D.nx σ H) ∨ (J.go i H ∧ ∃ N : St → Hp → Prop, (∀ σ' H', N σ' H' → ∃ m', m' < m ∧ W (i + 1) m' σ' H') ∧ ∀ x H', J.yld i H x H' → g x σ H' fun σ2 H2 => tb { D with nx := N, ct := N, bk := D.nx } σ2 H2)
noncomputable def pinsAt (fp : List Addr) (h : Heap) : List (Addr × Obj) := fp.filterMap fun b => (h.get? b).map fun o => (b, o)
theorem mem_pinsAt {fp : List Addr} {h : Heap} {b : Addr} {o : Obj} (hb : b ∈ fp) (e : h.get? b = some o) : (b, o) ∈ pinsAt fp h := List.mem_filterMap.mpr ⟨b, hb, by rw [e]; rfl⟩
theorem of_pinsAt {fp : List Addr} {h : Heap} {p : Addr × Obj} (hp : p ∈ pinsAt fp h) : p.1 ∈ fp ∧ h.get? p.1 = some p.2 := by
  obtain ⟨b, hb, e⟩ := List.mem_filterMap.mp hp
  cases q : h.get? b with
  | none => rw [q] at e; cases e
  | some o =>
    rw [q] at e
    have e' : (b, o) = p := Option.some.inj e
    subst e'
    exact ⟨hb, q⟩
theorem Inv.pinned {pins : List (Addr × Obj)} {σ : St} {H : Hp} {s : Shared} {fp : List Addr} (I : Inv X pins σ H s) (hf : ∀ b ∈ fp, FpOk X pins H b) (ho : ∀ b ∈ fp, ∃ o, s.heap.get? b = some o ∧ ∀ v, o.data ≠ .cell v) : Inv X (pins ++ pinsAt fp s.heap) σ H s :=
  I.pins_of fun p hp => (List.mem_append.mp hp).elim (fun z => I.pin p (List.mem_append_right _ z)) fun z => by
    obtain ⟨hb, e⟩ := of_pinsAt z
    obtain ⟨f0, f1, f2, _⟩ := hf p.1 hb
    obtain ⟨o, e', d⟩ := ho p.1 hb
    rw [e] at e'; cases e'
    exact ⟨e, f0, f1, f2, d⟩
theorem Inv.unpinned {pins pl : List (Addr × Obj)} {σ : St} {H : Hp} {s : Shared} (I : Inv X (pins ++ pl) σ H s) : Inv X pins σ H s := I.pins_of fun p hp => I.pin p (List.mem_append_right _ (List.mem_append_left _ hp))
theorem ps_for {iter : Expr} {body : List Stmt} {wi : TI} {g : TG} {tb : TS} {pos : Pos} (hp : PassesOwn (model X.prog X.w) X.A X.env X.xe) (hc : X.calm = true) (hi : PI X tg iter wi) (hg : PG X tg g) (hb : PSs X body tb)
    (hs : ∀ x, foldedSetIterable iter X.env x = pure x := by intro _; rfl) : PS X (.For tg iter body [] pos) (tFor wi g tb) := by
  intro pins s σ H D I h
  refine wpAny_For (thn (hi pins s σ H _ I h) fun v s1 h1 => thn h1 fun itv s2 h2 => ?_) hs
  obtain ⟨it, fp, tn, J, H2, e, I2, T, st2, f2, W, ⟨m0, w0⟩, turn⟩ := h2
  subst e
  -- what stays true of the iterator's objects through the loop
  have stat : ∀ {H' : Hp}, (∀ b ∈ fp, H' b = none) → ∀ b ∈ fp, FpOk X pins H' b := fun hn b hb => ⟨hn b hb, (f2 b hb).2⟩
  refine codeAny_forLoop_any (fun n s' => ∃ i σ' H', Inv X pins σ' H' s' ∧ tn i s'.heap ∧ (∀ b ∈ fp, H' b = none) ∧ W i n σ' H') ?_ m0 ⟨0, σ, H2, I2, st2, fun b hb => (f2 b hb).1, w0⟩
  rintro n s3 ⟨i, σ3, H3, I3, st3, fr3, w3⟩
  rcases turn i n σ3 H3 w3 with ⟨stop, qn⟩ | ⟨go, N, hN, step⟩
  · refine wpAny_passesOwn hp (thn (T.done X rfl rfl rfl hc i pins s3 σ3 H3 X.xe I3 (stat fr3) st3 stop) fun r s4 ⟨hr, I4⟩ => ?_)
    subst hr
    exact wpAny_execs_nil ⟨σ3, H3, I4, qn⟩
  · refine wpAny_passesOwn hp (thn (T.item X rfl rfl rfl hc i pins s3 σ3 H3 X.xe I3 (stat fr3) st3 go) fun r s4 ⟨u, hr, h4⟩ => ?_)
    subst hr
    refine wpAny_passesOwn hp (thn h4 fun _ s5 ⟨x, H5, I5, r5, y5, st5, fr5⟩ => ?_)
    have I5' := I5.pinned (stat fr5) (T.obj _ _ st5)
    refine wpAny_passesOwn hp (thn (hg _ s5 σ3 H5 x u _ I5' r5 (step x H5 y5)) fun _ s6 ⟨σ6, H6, I6, q6⟩ => ?_)
    refine wpAny_passesOwn hp (thn (hb _ s6 σ6 H6 _ I6 q6) fun f s7 q7 => ?_)
    have again : ∀ {σ7 : St} {H7 : Hp}, Inv X (pins ++ pinsAt fp s5.heap) σ7 H7 s7 → N σ7 H7 → ∃ m, m < n ∧ ∃ i σ' H', Inv X pins σ' H' s7 ∧ tn i s7.heap ∧ (∀ b ∈ fp, H' b = none) ∧ W i m σ' H' := fun {σ7 H7} I7 n7 => by
      obtain ⟨m', hm, w7⟩ := hN σ7 H7 n7
      refine ⟨m', hm, i + 1, σ7, H7, I7.unpinned, T.keep _ _ _ st5 fun b hb o e => (I7.pin (b, o) (List.mem_append_right _ (List.mem_append_right _ (mem_pinsAt hb e)))).1, fun b hb => ?_, w7⟩
      obtain ⟨o, e, d⟩ := T.obj _ _ st5 b hb
      exact (I7.pin (b, o) (List.mem_append_right _ (List.mem_append_right _ (mem_pinsAt hb e)))).2.1
    cases f with
    | next => obtain ⟨σ7, H7, I7, n7⟩ := q7; exact again I7 n7
    | cont => obtain ⟨σ7, H7, I7, n7⟩ := q7; exact again I7 n7
    | brk => obtain ⟨σ7, H7, I7, q7⟩ := q7; exact ⟨σ7, H7, I7.unpinned, q7⟩
    | ret v => obtain ⟨x7, σ7, H7, I7, r7, q7⟩ := q7; exact ⟨x7, σ7, H7, I7.unpinned, r7, q7⟩
end

theorem for_list {K : PySem.W.Frag} {a : Addr} {xs : List V} {g : TG} {tb : TS} {D : Ends} {σ : St} {H : Hp} (Pv : Nat → St → Hp → Prop) (h0 : Pv 0 σ H) (hl : ∀ i σ H, i ≤ xs.length → Pv i σ H → SqL K H a xs)
    (hs : ∀ i x σ H, xs[i]? = some x → Pv i σ H → g x σ H fun σ2 H2 => tb { D with nx := Pv (i + 1), ct := Pv (i + 1), bk := D.nx } σ2 H2) (hd : ∀ σ H, Pv xs.length σ H → D.nx σ H) :
    ∃ W : Nat → Nat → St → Hp → Prop, (∃ m, W 0 m σ H) ∧ ∀ i m σ H, W i m σ H →
      ((Itl K a).stop i H ∧ D.nx σ H) ∨ ((Itl K a).go i H ∧ ∃ N : St → Hp → Prop, (∀ σ' H', N σ' H' → ∃ m', m' < m ∧ W (i + 1) m' σ' H') ∧ ∀ x H', (Itl K a).yld i H x H' → g x σ H' fun σ2 H2 => tb { D with nx := N, ct := N, bk := D.nx } σ2 H2) := by
  refine ⟨fun i m σ H => m = xs.length - i ∧ i ≤ xs.length ∧ Pv i σ H, ⟨xs.length, by simp, Nat.zero_le _, h0⟩, ?_⟩
  rintro i m σ H ⟨rfl, hi, p⟩
  have q := hl i σ H hi p
  by_cases hlt : i < xs.length
  · refine .inr ⟨⟨xs, xs[i], q, by simp [hlt]⟩, Pv (i + 1), fun σ' H' p' => ⟨xs.length - (i + 1), by omega, rfl, hlt, p'⟩, fun x H' y => ?_⟩
    obtain ⟨e, y⟩ := y
    subst e
    exact hs i x σ _ (y xs q) p
  · have e : i = xs.length := by omega
    subst e
    exact .inl ⟨⟨xs, q, Nat.le_refl _⟩, hd σ H p⟩
theorem for_range {lo : Int} {n : Nat} {g : TG} {tb : TS} {D : Ends} {σ : St} {H : Hp} (Pv : Nat → St → Hp → Prop) (h0 : Pv 0 σ H)
    (hs : ∀ i σ H, i < n → Pv i σ H → g (.int (lo + i)) σ H fun σ2 H2 => tb { D with nx := Pv (i + 1), ct := Pv (i + 1), bk := D.nx } σ2 H2) (hd : ∀ σ H, Pv n σ H → D.nx σ H) :
    ∃ W : Nat → Nat → St → Hp → Prop, (∃ m, W 0 m σ H) ∧ ∀ i m σ H, W i m σ H →
      ((Itr lo n).stop i H ∧ D.nx σ H) ∨ ((Itr lo n).go i H ∧ ∃ N : St → Hp → Prop, (∀ σ' H', N σ' H' → ∃ m', m' < m ∧ W (i + 1) m' σ' H') ∧ ∀ x H', (Itr lo n).yld i H x H' → g x σ H' fun σ2 H2 => tb { D with nx := N, ct := N, bk := D.nx } σ2 H2) := by
  refine ⟨fun i m σ H => m = n - i ∧ i ≤ n ∧ Pv i σ H, ⟨n, by simp, Nat.zero_le _, h0⟩, ?_⟩
  rintro i m σ H ⟨rfl, hi, p⟩
  by_cases hlt : i < n
  · refine .inr ⟨hlt, Pv (i + 1), fun σ' H' p' => ⟨n - (i + 1), by omega, rfl, hlt, p'⟩, fun x H' y => ?_⟩
    obtain ⟨e, y⟩ := y
    subst e y
    exact hs i σ _ hlt p
  · have e : i = n := by omega
    subst e
    exact .inl ⟨Nat.le_refl _, hd σ H p⟩
end L2

namespace L2
open PySem PySem.Spec PyProof.Rows

noncomputable abbrev R2 := V → V → Hp → VK → Prop
noncomputable def OpR (X : Cx) (f : Value → Value → Sem Value) (r : R2) : Prop :=
  ∀ (pins : List (Addr × Obj)) (s : Shared) (σ : St) (H : Hp) (x y : V) (v u : Value) (Q : VK), Inv X pins σ H s → RelV x v → RelV y u → r x y H Q →
    wpAny (model X.prog X.w) X.A (f v u) (EP X pins σ Q) X.xe s
noncomputable def CallR (X : Cx) (f : Value) (r : List V → Hp → VK → Prop) : Prop :=
  ∀ (pins : List (Addr × Obj)) (s : Shared) (σ : St) (H : Hp) (xs : List V) (us : List Value) (Q : VK), Inv X pins σ H s → Vals xs us → r xs H Q →
    wpAny (model X.prog X.w) X.A (call f us) (EP X pins σ Q) X.xe s
noncomputable def tOp (r : R2) (ta tb : TE) : TE := fun σ H Q => ta σ H fun x H1 => tb σ H1 fun y H2 => r x y H2 Q
noncomputable def rI (C : Int → Int → Prop) (g : Int → Int → V) : R2 := fun x y H Q => ∃ i j, x = .int i ∧ y = .int j ∧ C i j ∧ Q (g i j) H
noncomputable def rI0 (g : Int → Int → V) : R2 := fun x y H Q => ∃ i j, x = .int i ∧ y = .int j ∧ Q (g i j) H
section
variable {X : Cx} {a b c : Expr} {ta tb tc : TE} {pos : Pos}

theorem binT (ha : PE X a ta) (hb : PE X b tb) {pins : List (Addr × Obj)} {s : Shared} {σ : St} {H : Hp} {R : V → V → Hp → Prop} (I : Inv X pins σ H s)
    (h : ta σ H fun x H1 => tb σ H1 fun y H2 => R x y H2) {Q : Value → Shared → Prop} {f : Value → Value → Sem Value}
    (hf : ∀ v u s2 x y H2, Inv X pins σ H2 s2 → RelV x v → RelV y u → R x y H2 → wpAny (model X.prog X.w) X.A (f v u) Q X.xe s2) :
    wpAny (model X.prog X.w) X.A (eval a X.env) (fun v s₁ => wpAny (model X.prog X.w) X.A (eval b X.env) (fun u s₂ => wpAny (model X.prog X.w) X.A (f v u) Q X.xe s₂) X.xe s₁) X.xe s := by
  refine thn (ha pins s σ H _ I h) fun v s1 ⟨x, H1, I1, r1, q1⟩ => ?_
  refine thn (hb pins s1 σ H1 _ I1 q1) fun u s2 ⟨y, H2, I2, r2, q2⟩ => ?_
  exact hf v u s2 x y H2 I2 r1 r2 q2

theorem pe_op {op : Operator} {r : R2} (ho : OpR X (binaryOp op) r) (ha : PE X a ta) (hb : PE X b tb) : PE X (.BinOp a op b pos) (tOp r ta tb) := by
  intro pins s σ H Q I h
  exact wpAny_BinOp (binT ha hb I h fun v u s2 x y H2 I2 rx ry q => ho pins s2 σ H2 x y v u Q I2 rx ry q)
theorem opI {f : Value → Value → Sem Value} {C : Int → Int → Prop} {g : Int → Int → Int}
    (rule : ∀ (i j : Int) (t u : Tok) (s : Shared) (Q : Value → Shared → Prop) (E : Value → Shared → Prop), C i j → Q (.int (g i j) s.toks) { s with toks := s.toks + 1 } → wpAny (model X.prog X.w) X.A (f (.int i t) (.int j u)) Q E s) :
    OpR X f (rI C fun i j => .int (g i j)) := by
  intro pins s σ H x y v u Q I rx ry h
  obtain ⟨i, j, rfl, rfl, hc, q⟩ := h
  obtain ⟨t, rfl⟩ := rx
  obtain ⟨t', rfl⟩ := ry
  exact rule i j t t' s _ _ hc ⟨.int (g i j), H, I.tok _, ⟨_, rfl⟩, q⟩
theorem opI0 {f : Value → Value → Sem Value} {g : Int → Int → Int}
    (rule : ∀ (i j : Int) (t u : Tok) (s : Shared) (Q : Value → Shared → Prop) (E : Value → Shared → Prop), Q (.int (g i j) s.toks) { s with toks := s.toks + 1 } → wpAny (model X.prog X.w) X.A (f (.int i t) (.int j u)) Q E s) :
    OpR X f (rI0 fun i j => .int (g i j)) := by
  intro pins s σ H x y v u Q I rx ry h
  obtain ⟨i, j, rfl, rfl, q⟩ := h
  obtain ⟨t, rfl⟩ := rx
  obtain ⟨t', rfl⟩ := ry
  exact rule i j t t' s _ _ ⟨.int (g i j), H, I.tok _, ⟨_, rfl⟩, q⟩
theorem opB0 {f : Value → Value → Sem Value} {g : Int → Int → Bool}
    (rule : ∀ (i j : Int) (t u : Tok) (s : Shared) (Q : Value → Shared → Prop) (E : Value → Shared → Prop), Q (.bool (g i j)) s → wpAny (model X.prog X.w) X.A (f (.int i t) (.int j u)) Q E s) :
    OpR X f (rI0 fun i j => .bl (g i j)) := by
  intro pins s σ H x y v u Q I rx ry h
  obtain ⟨i, j, rfl, rfl, q⟩ := h
  obtain ⟨t, rfl⟩ := rx
  obtain ⟨t', rfl⟩ := ry
  exact rule i j t t' s _ _ ⟨.bl (g i j), H, I, rfl, q⟩

noncomputable def CDiv (i j : Int) : Prop := 0 < j ∧ j < 1073741824
noncomputable def CPow (i j : Int) : Prop := 0 ≤ j ∧ j ≤ 1000000 ∧ i.natAbs < 2 ^ 64
noncomputable def CMul (i j : Int) : Prop := (-(2 ^ 64) < i ∧ i < 2 ^ 64) ∨ (-(2 ^ 64) < j ∧ j < 2 ^ 64)
theorem CMul.ok {i j : Int} (h : CMul i j) : IntMulOk i j := by
  rcases h with ⟨h1, h2⟩ | ⟨h1, h2⟩
  · exact .of_left (intBits_le_64 h1 h2)
  · exact .of_right (intBits_le_64 h1 h2)
theorem op_add : OpR X (binaryOp .Add) (rI0 fun i j => .int (i + j)) := opI0 fun _ _ _ _ _ _ _ q => add_int q
theorem op_sub : OpR X (binaryOp .Sub) (rI0 fun i j => .int (i - j)) := opI0 fun _ _ _ _ _ _ _ q => sub_int q
theorem op_mul : OpR X (binaryOp .Mult) (rI CMul fun i j => .int (i * j)) := opI fun _ _ _ _ _ _ _ hc q => mul_int q hc.ok
theorem op_fdiv : OpR X (binaryOp .FloorDiv) (rI CDiv fun i j => .int (i / j)) := opI fun i j _ _ _ _ _ hc q => by
  have h1 : (0 : Int) < j := hc.1
  have h2 : j < 1073741824 := hc.2
  exact floordiv_int (by omega) (by rw [Int.fdiv_eq_ediv_of_nonneg i (by omega)]; exact q) (.inl (PyProof.noPylong_small (by omega)))
theorem op_mod : OpR X (binaryOp .Mod) (rI (fun _ j => 0 < j) fun i j => .int (i % j)) := opI fun i j _ _ _ _ _ hc q => by
  have h1 : (0 : Int) < j := hc
  exact mod_int' (by omega) (by rw [Int.fmod_eq_emod_of_nonneg i (by omega)]; exact q)
theorem op_pow : OpR X (binaryOp .Pow) (rI CPow fun i j => .int (i ^ j.toNat)) := opI fun _ _ _ _ _ _ _ hc q => pow_int_small hc.1 hc.2.1 hc.2.2 q
end

noncomputable def scal : V → V → Bool
  | .non, .non => true | .non, .int _ => true | .int _, .non => true | .non, .bl _ => true | .bl _, .non => true | .non, .str _ => true | .str _, .non => true
  | .int _, .int _ => true | .bl _, .bl _ => true | .str _, .str _ => true | .byt _, .byt _ => true
  | .int _, .str _ => true | .str _, .int _ => true | .bl _, .str _ => true | .str _, .bl _ => true
  | _, _ => false
noncomputable def rEq : R2 := fun x y H Q => scal x y = true ∧ Q (.bl (decide (x = y))) H
noncomputable def rNe : R2 := fun x y H Q => scal x y = true ∧ Q (.bl (!decide (x = y))) H

theorem dec_int {i j : Int} : decide (V.int i = V.int j) = (i == j) := by
  rw [Bool.eq_iff_iff]
  simp
theorem dec_bl {i j : Bool} : decide (V.bl i = V.bl j) = (i == j) := by
  rw [Bool.eq_iff_iff]
  simp
theorem dec_str {i j : Str} : decide (V.str i = V.str j) = (i == j) := by
  rw [Bool.eq_iff_iff]
  simp
theorem dec_byt {i j : Array UInt8} : decide (V.byt i = V.byt j) = (i.toList == j.toList) := by
  rw [Bool.eq_iff_iff]
  cases i
  cases j
  simp

section
variable {X : Cx} {a b c : Expr} {ta tb tc : TE} {pos : Pos}
theorem fin_bl {pins : List (Addr × Obj)} {σ : St} {H : Hp} {s : Shared} {Q : VK} {k k' : Bool} (I : Inv X pins σ H s) (q : Q (.bl k) H) (e : k = k') : EP X pins σ Q (.bool k') s := by
  subst e
  exact ⟨.bl k, H, I, rfl, q⟩
theorem op_eq : OpR X (compareOp .Eq) rEq := by
  intro pins s σ H x y v u Q I rx ry h
  obtain ⟨hs, q⟩ := h
  cases x with
  | non =>
    cases rx
    cases y with
    | non => cases ry; exact PySem.EqNone.eq_none_none (fin_bl I q (by simp))
    | bl j => cases ry; exact PySem.EqNone.eq_none_bool (fin_bl I q (by simp))
    | int j => obtain ⟨t', rfl⟩ := ry; exact PySem.EqNone.eq_none_int (fin_bl I q (by simp))
    | str j => obtain ⟨t', rfl⟩ := ry; exact PySem.EqNone.eq_none_str (fin_bl I q (by simp))
    | _ => exact absurd (show false = true from hs) Bool.false_ne_true
  | bl i =>
    cases rx
    cases y with
    | non => cases ry; exact PySem.EqNone.eq_bool_none (fin_bl I q (by simp))
    | bl j => cases ry; exact eq_bool (fin_bl I q dec_bl)
    | str j => obtain ⟨t', rfl⟩ := ry; exact PySem.EqMixed.eq_bool_str (fin_bl I q (by simp))
    | _ => exact absurd (show false = true from hs) Bool.false_ne_true
  | int i =>
    obtain ⟨t, rfl⟩ := rx
    cases y with
    | non => cases ry; exact PySem.EqNone.eq_int_none (fin_bl I q (by simp))
    | int j => obtain ⟨t', rfl⟩ := ry; exact eq_int (fin_bl I q dec_int)
    | str j => obtain ⟨t', rfl⟩ := ry; exact PySem.EqMixed.eq_int_str (fin_bl I q (by simp))
    | _ => exact absurd (show false = true from hs) Bool.false_ne_true
  | str i =>
    obtain ⟨t, rfl⟩ := rx
    cases y with
    | non => cases ry; exact PySem.EqNone.eq_str_none (fin_bl I q (by simp))
    | bl j => cases ry; exact PySem.EqMixed.eq_str_bool (fin_bl I q (by simp))
    | int j => obtain ⟨t', rfl⟩ := ry; exact PySem.EqMixed.eq_str_int (fin_bl I q (by simp))
    | str j => obtain ⟨t', rfl⟩ := ry; exact eq_str (fin_bl I q dec_str)
    | _ => exact absurd (show false = true from hs) Bool.false_ne_true
  | byt i =>
    obtain ⟨t, rfl⟩ := rx
    cases y with
    | byt j => obtain ⟨t', rfl⟩ := ry; exact PySem.W.eq_bytes (fin_bl I q dec_byt)
    | _ => exact absurd (show false = true from hs) Bool.false_ne_true
  | _ => cases y <;> exact absurd (show false = true from hs) Bool.false_ne_true
theorem op_ne : OpR X (compareOp .NotEq) rNe := by
  intro pins s σ H x y v u Q I rx ry h
  obtain ⟨hs, q⟩ := h
  cases x with
  | non =>
    cases rx
    cases y with
    | non => cases ry; exact PySem.EqNone.ne_none_none (fin_bl I q (by simp))
    | bl j => cases ry; exact PySem.EqNone.ne_none_bool (fin_bl I q (by simp))
    | int j => obtain ⟨t', rfl⟩ := ry; exact PySem.EqNone.ne_none_int (fin_bl I q (by simp))
    | str j => obtain ⟨t', rfl⟩ := ry; exact PySem.EqNone.ne_none_str (fin_bl I q (by simp))
    | _ => exact absurd (show false = true from hs) Bool.false_ne_true
  | bl i =>
    cases rx
    cases y with
    | non => cases ry; exact PySem.EqNone.ne_bool_none (fin_bl I q (by simp))
    | bl j => cases ry; exact ne_bool (fin_bl I q (congrArg not dec_bl))
    | str j => obtain ⟨t', rfl⟩ := ry; exact PySem.EqMixed.ne_bool_str (fin_bl I q (by simp))
    | _ => exact absurd (show false = true from hs) Bool.false_ne_true
  | int i =>
    obtain ⟨t, rfl⟩ := rx
    cases y with
    | non => cases ry; exact PySem.EqNone.ne_int_none (fin_bl I q (by simp))
    | int j => obtain ⟨t', rfl⟩ := ry; exact ne_int (fin_bl I q (congrArg not dec_int))
    | str j => obtain ⟨t', rfl⟩ := ry; exact PySem.EqMixed.ne_int_str (fin_bl I q (by simp))
    | _ => exact absurd (show false = true from hs) Bool.false_ne_true
  | str i =>
    obtain ⟨t, rfl⟩ := rx
    cases y with
    | non => cases ry; exact PySem.EqNone.ne_str_none (fin_bl I q (by simp))
    | bl j => cases ry; exact PySem.EqMixed.ne_str_bool (fin_bl I q (by simp))
    | int j => obtain ⟨t', rfl⟩ := ry; exact PySem.EqMixed.ne_str_int (fin_bl I q (by simp))
    | str j => obtain ⟨t', rfl⟩ := ry; exact ne_str (fin_bl I q (congrArg not dec_str))
    | _ => exact absurd (show false = true from hs) Bool.false_ne_true
  | byt i =>
    obtain ⟨t, rfl⟩ := rx
    cases y with
    | byt j => obtain ⟨t', rfl⟩ := ry; exact PySem.W.ne_bytes (fin_bl I q (congrArg not dec_byt))
    | _ => exact absurd (show false = true from hs) Bool.false_ne_true
  | _ => cases y <;> exact absurd (show false = true from hs) Bool.false_ne_true

theorem op_lt : OpR X (compareOp .Lt) (rI0 fun i j => .bl (decide (i < j))) := opB0 fun _ _ _ _ _ _ _ q => lt_int q
theorem op_le : OpR X (compareOp .LtE) (rI0 fun i j => .bl (decide (i ≤ j))) := opB0 fun _ _ _ _ _ _ _ q => le_int q
theorem op_gt : OpR X (compareOp .Gt) (rI0 fun i j => .bl (decide (j < i))) := opB0 fun _ _ _ _ _ _ _ q => gt_int q
theorem op_ge : OpR X (compareOp .GtE) (rI0 fun i j => .bl (decide (j ≤ i))) := opB0 fun _ _ _ _ _ _ _ q => ge_int q
theorem op_in_str : OpR X (compareOp .In) (fun x y H Q => ∃ i j, x = .str i ∧ y = .str j ∧ Q (.bl (!(Builtin.Str.occurrences j i 0 j.length 1).isEmpty)) H) := by
  intro pins s σ H x y v u Q I rx ry h
  obtain ⟨i, j, rfl, rfl, q⟩ := h
  obtain ⟨t, rfl⟩ := rx
  obtain ⟨t', rfl⟩ := ry
  exact in_str (fin_bl I q rfl)

theorem op_notN : OpR X (compareOp .IsNot) (fun x y H Q => y = .non ∧ Q (.bl (!decide (x = .non))) H) := by
  intro pins s σ H x y v u Q I rx ry h
  obtain ⟨rfl, q⟩ := h
  cases ry
  refine isnot_none_gen (fin_bl I q ?_)
  cases x <;> first
    | (cases rx; rfl)
    | (obtain ⟨t, rfl⟩ := rx; rfl)

theorem OpR.or {f : Value → Value → Sem Value} {r r' : R2} (h : OpR X f r) (h' : OpR X f r') : OpR X f (fun x y H Q => r x y H Q ∨ r' x y H Q) := by
  intro pins s σ H x y v u Q I rx ry q
  rcases q with q | q
  · exact h pins s σ H x y v u Q I rx ry q
  · exact h' pins s σ H x y v u Q I rx ry q

theorem nomark (b : Expr) {op : CmpOp} (h : op ≠ .In := by decide) (h2 : op ≠ .NotIn := by decide) : behindInMarks op b = false := by
  have e1 : (op == CmpOp.In) = false := by cases op <;> first | rfl | exact absurd rfl h
  have e2 : (op == CmpOp.NotIn) = false := by cases op <;> first | rfl | exact absurd rfl h2
  cases b <;> simp [behindInMarks, e1, e2]
theorem pe_cmpR {op : CmpOp} {r : R2} (ho : OpR X (compareOp op) r) (ha : PE X a ta) (hb : PE X b tb) (hm : behindInMarks op b = false) : PE X (.Compare a [op] [b] pos) (tOp r ta tb) := by
  intro pins s σ H Q I h
  exact wpAny_Compare1 (binT ha hb I h fun v u s2 x y H2 I2 rx ry q => ho pins s2 σ H2 x y v u Q I2 rx ry q) hm
noncomputable def tTest (t : TE) : TT := fun σ H Q => t σ H fun x H' => ∃ k, x = .bl k ∧ Q k H'
theorem pt_cmpR {op : CmpOp} {r : R2} (ho : OpR X (compareOp op) r) (ha : PE X a ta) (hb : PE X b tb) (hm : behindInMarks op b = false) : PT X (.Compare a [op] [b] pos) (tTest (tOp r ta tb)) := by
  intro pins s σ H Q I h
  refine wpAny_isTrue_Compare1 (thn (ha pins s σ H _ I h) fun v s1 ⟨x, H1, I1, r1, q1⟩ => thn (hb pins s1 σ H1 _ I1 q1) fun u s2 ⟨y, H2, I2, r2, q2⟩ =>
    thn (ho pins s2 σ H2 x y v u _ I2 r1 r2 q2) fun c s3 ⟨z, H3, I3, r3, k, e, q3⟩ => ?_) hm
  subst e
  cases r3
  exact wpAny_truthy_bool ⟨H3, I3, q3⟩
noncomputable def tChain (r r' : R2) (ta tb tc : TE) : TE := fun σ H Q => ta σ H fun x H1 => tb σ H1 fun y H2 => r x y H2 fun z H3 => ∃ k, z = .bl k ∧
  (if k = true then tc σ H3 fun w' H4 => r' y w' H4 Q else Q (.bl false) H3)
theorem pt_chain {op op' : CmpOp} {r r' : R2} (ho : OpR X (compareOp op) r) (ho' : OpR X (compareOp op') r') (ha : PE X a ta) (hb : PE X b tb) (hc : PE X c tc)
    (hm : lastMarks [op, op'] [b, c] = false := by with_unfolding_all rfl) : PT X (.Compare a [op, op'] [b, c] pos) (tTest (tChain r r' ta tb tc)) := by
  intro pins s σ H Q I h
  refine isTrue_chain (thn (ha pins s σ H _ I h) fun v s1 ⟨x, H1, I1, r1, q1⟩ => test_link (thn (hb pins s1 σ H1 _ I1 q1) fun u s2 ⟨y, H2, I2, r2, q2⟩ =>
    thn (ho pins s2 σ H2 x y v u _ I2 r1 r2 q2) fun d s3 ⟨z, H3, I3, r3, k, e, q3⟩ => ?_)) hm
  subst e
  cases r3
  refine wpAny_truthy_bool ?_
  cases k with
  | false =>
    obtain ⟨k', e', q'⟩ := q3
    cases e'
    exact ite_ff ⟨H3, I3, q'⟩
  | true =>
    refine ite_tt (test_last (thn (hc pins s3 σ H3 _ I3 q3) fun w' s4 ⟨z', H4, I4, r4, q4⟩ => thn (ho' pins s4 σ H4 y z' u w' _ I4 r2 r4 q4) fun d' s5 ⟨z2, H5, I5, r5, k2, e2, q5⟩ => ?_))
    subst e2
    cases r5
    exact wpAny_truthy_bool ⟨H5, I5, q5⟩

theorem line63 : (sizeLine : Nat) < 2 ^ 63 := by rw [sizeLine_eq]; decide
theorem op_add_str : OpR X (binaryOp .Add) (fun x y H Q => ∃ i j, x = .str i ∧ y = .str j ∧ i.length + j.length ≤ sizeLine ∧ Q (.str (i ++ j)) H) := by
  intro pins s σ H x y v u Q I rx ry h
  obtain ⟨i, j, rfl, rfl, hz, q⟩ := h
  obtain ⟨t, rfl⟩ := rx
  obtain ⟨t', rfl⟩ := ry
  exact add_str (fun t' tk => ⟨.str (i ++ j), H, I.tok _, ⟨_, rfl⟩, q⟩) hz
theorem vals1 {x : V} {us : List Value} (r : Vals [x] us) : ∃ u, us = [u] ∧ RelV x u := by
  cases r with
  | cons r1 r2 => cases r2; exact ⟨_, rfl, r1⟩
theorem vals2 {x y : V} {us : List Value} (r : Vals [x, y] us) : ∃ u w', us = [u, w'] ∧ RelV x u ∧ RelV y w' := by
  cases r with
  | cons r1 r2 =>
    cases r2 with
    | cons r3 r4 => cases r4; exact ⟨_, _, rfl, r1, r3⟩
theorem call_max2 (hc : X.calm = true) : CallR X (.builtin "max") (fun xs H Q => ∃ i j, xs = [.int i, .int j] ∧ Q (.int (if j > i then j else i)) H) := by
  intro pins s σ H xs us Q I r h
  obtain ⟨i, j, rfl, q⟩ := h
  obtain ⟨u, w', rfl, ⟨t, rfl⟩, ⟨t', rfl⟩⟩ := vals2 r
  refine max_two_ints (I.ok.hd hc) fun h' tk k => ⟨_, H, I.kept k, ?_, q⟩
  by_cases hj : j > i
  · rw [if_pos hj, if_pos hj]; exact ⟨_, rfl⟩
  · rw [if_neg hj, if_neg hj]; exact ⟨_, rfl⟩
theorem call_min2 (hc : X.calm = true) : CallR X (.builtin "min") (fun xs H Q => ∃ i j, xs = [.int i, .int j] ∧ Q (.int (if j < i then j else i)) H) := by
  intro pins s σ H xs us Q I r h
  obtain ⟨i, j, rfl, q⟩ := h
  obtain ⟨u, w', rfl, ⟨t, rfl⟩, ⟨t', rfl⟩⟩ := vals2 r
  refine min_two_ints (I.ok.hd hc) fun h' tk k => ⟨_, H, I.kept k, ?_, q⟩
  by_cases hj : j < i
  · rw [if_pos hj, if_pos hj]; exact ⟨_, rfl⟩
  · rw [if_neg hj, if_neg hj]; exact ⟨_, rfl⟩
theorem call_int1 : CallR X (.type "int") (fun xs H Q => (∃ i, xs = [.int i] ∧ Q (.int i) H) ∨ ∃ k, xs = [.bl k] ∧ Q (.int (if k then 1 else 0)) H) := by
  intro pins s σ H xs us Q I r h
  rcases h with ⟨i, rfl, q⟩ | ⟨k, rfl, q⟩
  · obtain ⟨u, rfl, t, rfl⟩ := vals1 r
    exact call_int_int ⟨.int i, H, I, ⟨_, rfl⟩, q⟩
  · obtain ⟨u, rfl, r1⟩ := vals1 r
    cases r1
    exact call_int_bool ⟨.int (if k then 1 else 0), H, I.tok _, ⟨_, rfl⟩, q⟩
end
end L2

namespace L2
open PySem PySem.Spec PyProof.Rows

structure ObjM (h : Heap) (x dx C : Addr) (mA : Str → Option Value) : Prop where
  obj : h.get? x = some (PySem.W.instObj C dx)
  ns : h.Ns1 dx mA
  ne : dx ≠ x

section
variable {prog : Program} {w : World} {A : Around} {E : Value → Shared → Prop} {s : Shared} {K : PySem.W.Frag} {x dx C f : Addr} {mA : Str → Option Value} {name : Str} {v : Value}

end

theorem RelO.some_of {v : V} {o : Option Value} (r : RelO (some v) o) : ∃ u, o = some u ∧ RelV v u := by
  cases o with
  | none => exact (show False from r).elim
  | some u => exact ⟨u, rfl, r⟩
section
variable {P : Program} {w : World} {H H' : Hp} {h h' : Heap} {a C dx : Addr} {fs fs' : List (Str × V)}
end

structure Cls (K : PySem.W.Frag) (C : Addr) : Prop where
  pg : PySem.W.plainGet K C Str.empty = true
  hd : PySem.W.hasDictIn K C = true
  po : PySem.W.plainOver K C = true
  sa : PySem.W.findIn K (.ref C) "__setattr__" = some (some (.builtin "object.__setattr__"))
theorem Cls.get {K : PySem.W.Frag} {C : Addr} (c : Cls K C) (f : Str) : PySem.W.plainGet K C f = true := c.pg
structure Con (K : PySem.W.Frag) (C : Addr) (f : Str) (v : V) (u : Value) : Prop where
  at_ : PySem.W.findIn K (.ref C) f = some (some u)
  rel : RelV v u
  get : PySem.W.specialIn K u "__get__" = some none
  cp : PySem.W.copiedNames.contains f = false
structure Meth (K : PySem.W.Frag) (C : Addr) (m : Str) (f : Addr) : Prop where
  at_ : PySem.W.findIn K (.ref C) m = some (some (.ref f))
  fn : PySem.W.isFn K (.ref f) = true
  kp : PySem.W.keepIn K (.ref f) = true

section
variable {X : Cx} {pins : List (Addr × Obj)} {σ : St} {H : Hp} {s : Shared} {a C dx : Addr} {fs : List (Str × V)} {f : Str} {v : V} {A : Around} {E : Value → Shared → Prop}

theorem Inv.made (I : Inv X pins σ H s) : Inv X pins σ (upd (upd H s.heap.objs.size (.own (s.heap.objs.size + 1))) (s.heap.objs.size + 1) (.ins C s.heap.objs.size []))
    { s with heap := (s.heap.push PySem.W.emptyDict).push (PySem.W.instObj C s.heap.objs.size) } := by
  have e1 : (s.heap.push PySem.W.emptyDict).get? s.heap.objs.size = some PySem.W.emptyDict := Heap.get?_push_size s.heap rfl
  have e2 : ((s.heap.push PySem.W.emptyDict).push (PySem.W.instObj C s.heap.objs.size)).get? (s.heap.objs.size + 1) = some (PySem.W.instObj C s.heap.objs.size) := by
    have := Heap.get?_push_size (s.heap.push PySem.W.emptyDict) (o := PySem.W.instObj C s.heap.objs.size) rfl
    rwa [Heap.size_push] at this
  have e3 : (s.heap.push PySem.W.emptyDict).Ns s.heap.objs.size (fun _ => none) := ⟨PySem.W.emptyDict, #[], _, e1, rfl, (fun e he => absurd he (by simp)), fun _ => rfl⟩
  have I1 := I.laid (a := s.heap.objs.size) (o := .own (s.heap.objs.size + 1)) (h' := s.heap.push PySem.W.emptyDict) (t' := s.toks) (fun b u q => Heap.get?_push_of_some _ q) (Nat.le_refl _) ⟨_, e1⟩
  refine I1.laid (a := s.heap.objs.size + 1) (o := .ins C s.heap.objs.size []) (t' := s.toks) (fun b u q => Heap.get?_push_of_some _ q) (Nat.le_of_eq (Heap.size_push _ _)) ?_
  have ne : s.heap.objs.size ≠ s.heap.objs.size + 1 := Nat.ne_of_lt (Nat.lt_succ_self _)
  refine ⟨by rw [upd_ne ne, upd_same], Nat.zero_le _, ne, e2, fun _ => none, (Heap.Ns1.of_empty e3).at fun o q => Heap.get?_push_of_some _ q, fun _ => True.intro, fun y hy => absurd rfl hy⟩

end

section
variable {X : Cx} {o e value : Expr} {f : Str} {pos pos' tpos : Pos} {ta tv : TE}
end

section
variable {X : Cx} {pins : List (Addr × Obj)} {σ : St} {H : Hp} {s : Shared} {A : Around} {E : Value → Shared → Prop} {Q : Value → Shared → Prop} {c : Value} {b : Bool}
inductive TyOf (K : PySem.W.Frag) (H : Hp) : V → Value → Prop where
  | non : TyOf K H .non (.type "NoneType")
  | bl (x : Bool) : TyOf K H (.bl x) (.type "bool")
  | int (i : Int) : TyOf K H (.int i) (.type "int")
  | str (x : Str) : TyOf K H (.str x) (.type "str")
  | flt (x : UInt64) : TyOf K H (.flt x) (.type "float")
  | lst {a : Addr} {xs : List V} (e : H a = some (.lst xs)) : TyOf K H (.ref a) (.type "list")
  | frz {a : Addr} {o : Obj} {xs : List V} (e : H a = some (.frz o (.lst xs))) : TyOf K H (.ref a) (.type "list")
  | tup {a : Addr} {xs : List V} (e : H a = some (.tup xs)) : TyOf K H (.ref a) (.type "tuple")
  | dK {a : Addr} {kvs : List (Key × V)} (e : H a = some (.dK kvs)) : TyOf K H (.ref a) (.type "dict")
  | dT {a : Addr} {kvs : List (List Key × V)} (e : H a = some (.dT kvs)) : TyOf K H (.ref a) (.type "dict")
  | ins {a C dx : Addr} {fs : List (Str × V)} (e : H a = some (.ins C dx fs)) (cl : Cls K C) (ha : PySem.W.findIn K (.ref C) "__class__" = some (some (.builtin "object.__class__")))
      (hn : PySem.W.specialIn K (.builtin "object.__class__") "__get__" = some (some (.builtin "getset_descriptor.__get__"))) (htk : PySem.W.takesIn K (.builtin "object.__class__") = some true)
      (hm : PySem.W.mroIn K C (.type "object") = some true) : TyOf K H (.ref a) (.ref C)
end
end L2

namespace L2
open PySem PySem.Spec PyProof.Rows

structure Room (k : Nat) (A : Around) : Prop where
  hd : A.handled = none
  dp : A.depth + 3 * k + 5 < recursionLimit
  un : A.units + 16 * k + 200 < cLine
  gd : A.guards = some []
theorem Room.mono {j k : Nat} {A : Around} (r : Room k A) (h : j ≤ k) : Room j A := ⟨r.hd, by have := r.dp; omega, by have := r.un; omega, r.gd⟩
theorem Room.deeper {k : Nat} {A : Around} (r : Room (k + 1) A) (env : Env) : Room k (A.deeper env) :=
  ⟨r.hd, by have := r.dp; show A.depth + 1 + 3 * k + 5 < _; omega, by have := r.un; show A.units + 3 + 16 * k + 200 < _; omega, r.gd⟩
theorem Room.in1 {k : Nat} {A : Around} (r : Room (k + 1) A) : Room k A.in1 :=
  ⟨r.hd, by have := r.dp; show A.depth + 3 * k + 5 < _; omega, by have := r.un; show A.units + 1 + 16 * k + 200 < _; omega, r.gd⟩
theorem Room.depth {k : Nat} {A : Around} (r : Room k A) : A.depth < recursionLimit := by have := r.dp; omega
theorem Room.units {k : Nat} {A : Around} (r : Room k A) : A.units + 64 < cLine := by have := r.un; omega
noncomputable def tNil : TA := fun _ H Q => Q [] H
noncomputable def tCons (ta : TE) (tr : TA) : TA := fun σ H Q => ta σ H fun x H1 => tr σ H1 fun xs H2 => Q (x :: xs) H2
section
variable {X : Cx} {e : Expr} {es : List Expr} {te : TE} {t : TA} {pos : Pos}
theorem pa_nil : PA X [] tNil := fun _ _ _ _ H Q I h => Calls.spliced_nil ⟨[], H, I, .nil, h⟩
theorem pa_cons (ha : PE X e te) (hr : PA X es t) (hs : starEach (e :: es) X.env = (false, eval e X.env) :: starEach es X.env := by rfl) : PA X (e :: es) (tCons te t) := by
  intro pos pins s σ H Q I h
  rw [hs]
  show wpAny _ _ (spliced ((false, eval e X.env) :: backTo pos (starEach es X.env))) _ _ s
  refine Calls.spliced_cons (thn (ha pins s σ H _ I h) fun u s1 ⟨x, H1, I1, r1, q1⟩ => ?_)
  exact thn (hr pos pins s1 σ H1 _ I1 q1) fun us s2 ⟨xs, H2, I2, r2, q2⟩ => ⟨x :: xs, H2, I2, .cons r1 r2, q2⟩

noncomputable def tTup (t : TA) : TE := fun σ H Q => t σ H fun xs H1 => xs.length ≤ sizeLine ∧ ∀ p, H1 p = none → Q (.ref p) (upd H1 p (.tup xs))
noncomputable def tLst (t : TA) : TE := fun σ H Q => t σ H fun xs H1 => xs.length ≤ sizeLine ∧ ∀ p, H1 p = none → Q (.ref p) (upd H1 p (.lst xs))
theorem pe_tup {x1} (h : PA X es t) : PE X (.Tuple es x1 pos) (tTup t) := by
  intro pins s σ H Q I hq
  refine wpAny_Tuple_spliced (thn (h pos pins s σ H _ I hq) fun us s1 ⟨xs, H1, I1, r, z, q⟩ => ⟨by rw [← r.length]; exact z, ?_⟩)
  have hf : H1 s1.heap.objs.size = none := I1.hok.fresh (Nat.le_refl _)
  refine ⟨.ref s1.heap.objs.size, upd H1 s1.heap.objs.size (.tup xs), I1.laid (t' := s1.toks) (fun b u e => Heap.get?_push_of_some _ e) (Nat.le_refl _) ?_, rfl, q _ hf⟩
  exact ⟨z, us, r, ⟨_, Heap.get?_push_size _ rfl, rfl, _, rfl⟩⟩
theorem pe_lst (h : PA X es t) : PE X (.List es pos) (tLst t) := by
  intro pins s σ H Q I hq
  refine wpAny_List_spliced (thn (h pos pins s σ H _ I hq) fun us s1 ⟨xs, H1, I1, r, z, q⟩ => ⟨by rw [← r.length]; exact z, ?_⟩)
  have hf : H1 s1.heap.objs.size = none := I1.hok.fresh (Nat.le_refl _)
  refine ⟨.ref s1.heap.objs.size, upd H1 s1.heap.objs.size (.lst xs), I1.laid (t' := s1.toks) (fun b u e => Heap.get?_push_of_some _ e) (Nat.le_refl _) ?_, rfl, q _ hf⟩
  exact ⟨z, us, 0, r, Heap.get?_push_size _ rfl⟩
end

noncomputable abbrev Sp := List V → Hp → VK → XK → Prop
noncomputable abbrev CXT := List Env → Hp → Shared → XK → Value → Shared → Prop

structure Env0 (P : Program) (w : World) (K : PySem.W.Frag) (mg : Str → Option Value) (base : Heap) (A : Around) (outer : List Env) (s : Shared) (H : Hp) : Prop where
  frames : A.frames = some outer
  mod : Mod K mg base
  bs : ∀ b o, base.get? b = some o → s.heap.get? b = some o ∧ H b = none
  bsz : base.objs.size ≤ s.heap.objs.size
  funs : s.heap.FunFrames base outer
  frf : ∀ b ∈ frs outer, H b = none
  hok : HOk P w H s.heap
  bare : AllBare s.gens
noncomputable def CE (outer : List Env) (P : Program) (w : World) (H : Hp) (s : Shared) (Q : VK) (u : Value) (s' : Shared) : Prop :=
  ∃ v H', s'.os = s.os ∧ AllBare s'.gens ∧ Un (frs outer) [] H H' s.heap s'.heap ∧ HOk P w H' s'.heap ∧ RelV v u ∧ Q v H'
noncomputable def CR (CX : CXT) (outer : List Env) (P : Program) (w : World) (H : Hp) (s : Shared) (Q : VK) (E : XK) (r : Result) (s' : Shared) : Prop :=
  match r with
  | .ok (.ret u) => CE outer P w H s Q u s'
  | .ok _ => False
  | .error e => CX outer H s E e s'
structure FnOk (P : Program) (w : World) (K : PySem.W.Frag) (mg : Str → Option Value) (base : Heap) (CX : CXT) (k : Nat) (f : Addr) (fd : FuncData) (ps : List Str) (sp : Sp) : Prop where
  len : ∀ vs H Q E, sp vs H Q E → vs.length = ps.length
  run : ∀ (A : Around) (outer : List Env) (s : Shared) (H : Hp) (args : Args) (us : List Value) (vs : List V) (Q : VK) (E : XK), Room k A → Env0 P w K mg base A outer s H → BindsTo s fd args (ps.zip us) → Vals vs us → sp vs H Q E →
    codeAny (model P w) A (.call (.ref f) args) (CR CX outer P w H s Q E) s
theorem FnOk.mono {P : Program} {w : World} {K : PySem.W.Frag} {mg : Str → Option Value} {base : Heap} {CX : CXT} {j k : Nat} {f : Addr} {fd : FuncData} {ps : List Str} {sp : Sp} (F : FnOk P w K mg base CX j f fd ps sp) (h : j ≤ k) :
    FnOk P w K mg base CX k f fd ps sp := ⟨F.len, fun A outer s H args us vs Q E hr => F.run A outer s H args us vs Q E (hr.mono h)⟩
theorem FnOk.imp {P : Program} {w : World} {K : PySem.W.Frag} {mg : Str → Option Value} {base : Heap} {CX : CXT} {k : Nat} {f : Addr} {fd : FuncData} {ps : List Str} {sp sp' : Sp} (F : FnOk P w K mg base CX k f fd ps sp)
    (h : ∀ vs H Q E, sp' vs H Q E → sp vs H Q E) : FnOk P w K mg base CX k f fd ps sp' :=
  ⟨fun vs H Q E q => F.len vs H Q E (h _ _ _ _ q), fun A outer s H args us vs Q E hr he hb hv hs => F.run A outer s H args us vs Q E hr he hb hv (h _ _ _ _ hs)⟩

theorem Env0.in1 {P : Program} {w : World} {K : PySem.W.Frag} {mg : Str → Option Value} {base : Heap} {A : Around} {outer : List Env} {s : Shared} {H : Hp} (e : Env0 P w K mg base A outer s H) :
    Env0 P w K mg base A.in1 outer s H := ⟨e.frames, e.mod, e.bs, e.bsz, e.funs, e.frf, e.hok, e.bare⟩

section
variable {X : Cx} {pins : List (Addr × Obj)} {σ : St} {H : Hp} {s s' : Shared}
theorem Inv.env0 (I : Inv X pins σ H s) : Env0 X.prog X.w X.K X.mg X.base X.A X.stack s H :=
  ⟨I.ok.frames, I.ok.mod, I.bs, Nat.le_trans I.ok.bsz I.sz, I.stack, I.stkFree, I.hok, I.bare⟩
theorem Inv.after {Q : VK} {u : Value} (I : Inv X pins σ H s) (h : CE X.stack X.prog X.w H s Q u s') : EP X pins σ Q u s' := by
  obtain ⟨v, H', os, bare, un, hok, r, q⟩ := h
  obtain ⟨hh, g, d, t, os'⟩ := s'
  obtain rfl : os' = s.os := os
  exact ⟨v, H', I.call (h' := hh) (g' := g) (d' := d) (t' := t) (ch := []) un hok bare (fun b z => absurd z (by simp)), r, q⟩
end

noncomputable def tCall (sp : Sp) (dvs : List V) (E : XK) (t : TA) : TE := fun σ H Q => t σ H fun vs H1 => sp (vs ++ dvs) H1 Q E
noncomputable def Binds (K : PySem.W.Frag) (fd : FuncData) (ps : List Str) (ds : List Value) : Prop :=
  ∀ (s : Shared) (us : List Value), K.In s.heap → (us ++ ds).length = ps.length → BindsTo s fd ⟨us, []⟩ (ps.zip (us ++ ds))
theorem Binds.all {K : PySem.W.Frag} {fd : FuncData} {ps : List Str} (h : ∀ us : List Value, us.length = ps.length → bindArgs fd ⟨us, []⟩ = pure (ps.zip us)) : Binds K fd ps [] := fun s us _ hl => by
  rw [List.append_nil] at hl ⊢
  exact .of_eq (h us hl)

noncomputable def Passes (CX : CXT) (X : Cx) (E : XK) : Prop := ∀ (pins : List (Addr × Obj)) (σ : St) (H : Hp) (s : Shared) (e : Value) (s' : Shared), Inv X pins σ H s → CX X.stack H s E e s' → X.xe e s'

section
variable {X : Cx} {CX : CXT} {k : Nat} {f C : Addr} {fd : FuncData} {ps : List Str} {sp : Sp} {dvs : List V} {ds : List Value} {E : XK} {x m : Str} {p pos apos : Pos} {e o : Expr} {es : List Expr} {ta : TE} {t : TA}

theorem run_fn {pins : List (Addr × Obj)} {σ : St} {H : Hp} {s : Shared} {Q : VK} {us : List Value} {vs : List V} (F : FnOk X.prog X.w X.K X.mg X.base CX k f fd ps sp) (hr : Room k X.A) (hb : Binds X.K fd ps ds) (hd : Vals dvs ds) (hx : Passes CX X E)
    (I : Inv X pins σ H s) (r : Vals vs us) (h : sp (vs ++ dvs) H Q E) : wpAny (model X.prog X.w) X.A (call (.ref f) us) (EP X pins σ Q) X.xe s := by
  have r2 : Vals (vs ++ dvs) (us ++ ds) := r.append hd
  have hl : (us ++ ds).length = ps.length := by rw [← r2.length]; exact F.len _ _ _ _ h
  refine wpAny_call (codeAny_mono (F.run X.A X.stack s H ⟨us, []⟩ (us ++ ds) (vs ++ dvs) Q E hr I.env0 (hb s us I.kIn hl) r2 h) fun r s' hq => ?_)
  cases r with
  | error e => exact hx pins σ H s e s' I hq
  | ok fl =>
    cases fl with
    | ret u => exact I.after hq
    | next => exact False.elim hq
    | brk => exact False.elim hq
    | cont => exact False.elim hq

theorem pe_call (F : FnOk X.prog X.w X.K X.mg X.base CX k f fd ps sp) (hr : Room k X.A) (hg : Gl X x) (hm : X.mg x = some (.ref f)) (hk : PySem.W.keepIn X.K (.ref f) = true) (hb : Binds X.K fd ps ds) (hd : Vals dvs ds) (hx : Passes CX X E)
    (ha : PA X (e :: es) t) (hdb : (x == ("__debug__" : Str)) = false := by decide) (he : starEach (e :: es) X.env = (false, eval e X.env) :: starEach es X.env := by rfl) (hpl : (backTo pos (starEach es X.env)).any (·.1) = false := by rfl) :
    PE X (.Call (.Name x p) (e :: es) [] pos) (tCall sp dvs E t) := by
  intro pins s σ H Q I h
  refine wpAny_Call_Name_kw (ld_glob I hg hm ?_ hdb)
  refine PySem.W.callWith_K (h₀ := X.base) I.ok.mod.kin hk (thn (ha pos pins s σ H _ I h) fun us s1 ⟨vs, H1, I1, r, q⟩ => ⟨I1.kIn, ?_⟩) he hpl
  exact run_fn F hr hb hd hx I1 r q
structure Mk (K : PySem.W.Frag) (C f : Addr) : Prop where
  makes : PySem.W.makesIn K C = true
  init : PySem.W.findIn K (.ref C) "__init__" = some (some (.ref f))
  fn : PySem.W.isFn K (.ref f) = true
  kp : PySem.W.keepIn K (.ref C) = true

end

section
variable {X : Cx} {CX : CXT} {k : Nat} {f C : Addr} {fd : FuncData} {ps ks : List Str} {sp : Sp} {E : XK} {x m : Str} {p pos apos kpos : Pos} {e o : Expr} {es : List Expr} {kws : List Keyword} {te ta : TE} {t tk : TA} {nm : Option Str}
structure KBinds (K : PySem.W.Frag) (fd : FuncData) (ps ks : List Str) (g : List Value → List Value → List Value) (gV : List V → List V → List V) : Prop where
  to : ∀ (s : Shared) (us ws : List Value), K.In s.heap → (g us ws).length = ps.length → BindsTo s fd ⟨us, ks.zip ws⟩ (ps.zip (g us ws))
  rel : ∀ {vs : List V} {us : List Value} {zs : List V} {ws : List Value}, Vals vs us → Vals zs ws → Vals (gV vs zs) (g us ws)
variable {g : List Value → List Value → List Value} {gV : List V → List V → List V}
end

structure FnScope (N P : List Str) (sc : Scope) : Prop where
  kind : sc.kind = .function
  co : sc.isCoroutine = false
  gen : sc.isGenerator = false
  nd : N.Nodup
  pre : N.take P.length = P
  par : ∀ x ∈ P, sc.names.lookup x = some .local ∨ sc.names.lookup x = some .cell
  nofree : ∀ y ∈ sc.names, y.2 ≠ .free

theorem bindL_out {kindOf : Str → Option NameKind} {x : Str} : ∀ {binds : List (Str × Value)} {m : Str → Option Value}, (∀ v, (x, v) ∉ binds) → bindL kindOf binds m x = m x
  | [], _, _ => rfl
  | (n, v) :: r, m, h => by
    unfold bindL
    rw [bindL_out fun w hw => h w (List.mem_cons_of_mem _ hw)]
    split
    · have : x ≠ n := by rintro rfl; exact h v List.mem_cons_self
      simp [this]
    · rfl
theorem bindC_out {kindOf : Str → Option NameKind} {x : Str} : ∀ {binds : List (Str × Value)} {m : Str → Option Value}, (∀ v, (x, v) ∉ binds) → bindC kindOf binds m x = m x
  | [], _, _ => rfl
  | (n, v) :: r, m, h => by
    unfold bindC
    rw [bindC_out fun w hw => h w (List.mem_cons_of_mem _ hw)]
    split
    · rfl
    · have : x ≠ n := by rintro rfl; exact h v List.mem_cons_self
      simp [this]
theorem bindL_get {kindOf : Str → Option NameKind} {x : Str} {v : Value} : ∀ {P : List Str} {vs : List Value} {i : Nat} {m : Str → Option Value}, P.Nodup → P[i]? = some x → vs[i]? = some v → kindOf x = some .local →
    bindL kindOf (P.zip vs) m x = some v
  | [], _, _, _, _, h, _, _ => by simp at h
  | _ :: _, [], _, _, _, _, h, _ => by simp at h
  | p :: P, w :: vs, 0, m, nd, h1, h2, hk => by
    simp at h1 h2; subst h1; subst h2
    show bindL kindOf ((p, w) :: P.zip vs) m p = _
    unfold bindL
    rw [bindL_out fun v hv => (List.nodup_cons.mp nd).1 (List.of_mem_zip hv).1, if_pos hk]
    simp
  | p :: P, w :: vs, i + 1, m, nd, h1, h2, hk => by
    show bindL kindOf ((p, w) :: P.zip vs) m x = _
    unfold bindL
    exact bindL_get (i := i) (List.nodup_cons.mp nd).2 (by simpa using h1) (by simpa using h2) hk
theorem bindC_get {kindOf : Str → Option NameKind} {x : Str} {v : Value} : ∀ {P : List Str} {vs : List Value} {i : Nat} {m : Str → Option Value}, P.Nodup → P[i]? = some x → vs[i]? = some v → kindOf x ≠ some .local →
    bindC kindOf (P.zip vs) m x = some v
  | [], _, _, _, _, h, _, _ => by simp at h
  | _ :: _, [], _, _, _, _, h, _ => by simp at h
  | p :: P, w :: vs, 0, m, nd, h1, h2, hk => by
    simp at h1 h2; subst h1; subst h2
    show bindC kindOf ((p, w) :: P.zip vs) m p = _
    unfold bindC
    rw [bindC_out fun v hv => (List.nodup_cons.mp nd).1 (List.of_mem_zip hv).1, if_neg hk]
    simp
  | p :: P, w :: vs, i + 1, m, nd, h1, h2, hk => by
    show bindC kindOf ((p, w) :: P.zip vs) m x = _
    unfold bindC
    exact bindC_get (i := i) (List.nodup_cons.mp nd).2 (by simpa using h1) (by simpa using h2) hk

noncomputable def start (N : List Str) (vs : List V) : St := vs.map some ++ List.replicate (N.length - vs.length) none

noncomputable def cxOf (CX : CXT) (P : Program) (w : World) (K : PySem.W.Frag) (mg : Str → Option Value) (base : Heap) (N : List Str) (qual : Str) (scope : Scope) (f : Addr) (cd : Value) (A : Around) (outer : List Env) (s : Shared) (H : Hp) (E : XK) : Cx where
  prog := P
  w := w
  K := K
  mg := mg
  base := base
  A := A.deeper (envOfC qual scope s.heap.objs.size f cd)
  N := N
  s₀ := s
  H₀ := H
  env := envOfC qual scope s.heap.objs.size f cd
  outer := outer
  stack := envOfC qual scope s.heap.objs.size f cd :: outer
  ex := []
  calm := true
  fn := fun _ => true
  pn := []
  xe := fun e s' => wpAny (model P w) (A.deeper (envOfC qual scope s.heap.objs.size f cd)) (leaving (envOfC qual scope s.heap.objs.size f cd) e) (fun _ s'' => CX outer H s E e s'') (fun e' s'' => CX outer H s E e' s'') s'

theorem cell_has {sc : Scope} {n : Nat} {x : Str} (h : sc.names.lookup x = some .cell) : ∃ c, (cellsFrom n sc.names []).lookup x = some c := by
  have q := PySem.W.cellsFrom_some sc.names n [] (.inl h)
  exact Option.isSome_iff_exists.mp q

theorem inv_start {CX : CXT} {P : Program} {w : World} {K : PySem.W.Frag} {mg : Str → Option Value} {base : Heap} {N ps : List Str} {qual : Str} {scope : Scope} {f : Addr} {cd : Value} {A : Around} {outer : List Env} {s s1 : Shared} {H : Hp} {E : XK} {us : List Value} {vs : List V}
    (S : FnScope N ps scope) (hd : A.handled = none) (e0 : Env0 P w K mg base A outer s H) (hl : vs.length = ps.length) (r : Vals vs us)
    (x : InCallC s s.heap.objs.size (bindL (envOfC qual scope s.heap.objs.size f cd).kindOf (ps.zip us) fun _ => none) (cellsFrom (s.heap.objs.size + 1) scope.names []) (bindC (envOfC qual scope s.heap.objs.size f cd).kindOf (ps.zip us) fun _ => none) s1) :
    Inv (cxOf CX P w K mg base N qual scope f cd A outer s H E) [] (start N vs) H s1 := by
  have hpl : ps.length ≤ N.length := by have := congrArg List.length S.pre; rw [List.length_take] at this; omega
  obtain ⟨h1, tk, rfl, hk⟩ := x.done
  have noA : ∀ b : Addr, b ∉ (cxOf CX P w K mg base N qual scope f cd A outer s H E).ex := fun b z => absurd (show b ∈ ([] : List Addr) from z) (by simp)
  refine ⟨⟨e0.mod, S.kind, rfl, rfl, Nat.le_refl _, fun y z c h1 h2 => ?_, fun y hy => ?_, fun y c _ h => ?_, fun _ => hd, Around.frames_deeper e0.frames, .inr ⟨rfl, rfl⟩, fun b z => absurd z (noA b), e0.bs, e0.bsz, fun b _ _ => noA b, fun b z => absurd z (noA b), e0.funs, e0.frf⟩,
    rfl, e0.bare, Un.kept hk, ⟨_, x.toInCall.ns, fun i y v h1 h2 h3 => ?_⟩, fun y c h => ⟨_, x.cell y c h⟩, e0.hok.fresh (Nat.le_refl _), fun y c h => ?_, fun p hp => absurd (show p ∈ ([] : List (Addr × Obj)) from hp) (by simp), e0.hok.kept hk, ?_⟩
  · exact name_of_addr x.apart (PySem.mem_of_lookup h1) (PySem.mem_of_lookup h2)
  · have hy : scope.names.lookup y = some .cell ∨ scope.names.lookup y = some .free := hy
    rcases hy with hy | hy
    · exact cell_has hy
    · exact absurd rfl (S.nofree _ (PySem.mem_of_lookup hy))
  · exact Nat.le_of_lt (x.above y c (PySem.mem_of_lookup h))
  · have hi : i < vs.length := by
      unfold start at h2
      by_cases hi : i < vs.length
      · exact hi
      · rw [List.getElem?_append_right (by simpa using hi)] at h2
        rw [List.getElem?_replicate] at h2
        split at h2 <;> cases h2
    have ha : vs[i]? = some v := by
      unfold start at h2
      rw [List.getElem?_append_left (by simpa using hi), List.getElem?_map] at h2
      cases e : vs[i]? with
      | none => rw [e] at h2; cases h2
      | some a => rw [e] at h2; cases h2; rfl
    obtain ⟨u, hu, rv⟩ := r.get ha
    have hp : ps[i]? = some y := by
      rw [← S.pre, List.getElem?_take_of_lt (by omega)]; exact h1
    have ndP : ps.Nodup := by rw [← S.pre]; exact S.nd.sublist (List.take_sublist _ _)
    refine ⟨u, rv, ?_⟩
    rcases S.par y (List.mem_of_getElem? hp) with k | k
    · exact .inl ⟨k, bindL_get ndP hp hu k⟩
    · obtain ⟨c, e⟩ := cell_has (n := s.heap.objs.size + 1) k
      refine .inr ⟨.inl k, c, e, ?_⟩
      have q := x.cell y c e
      rw [bindC_get ndP hp hu (by show scope.names.lookup y ≠ _; rw [k]; decide)] at q
      exact q
  · exact e0.hok.fresh (Nat.le_of_lt (x.above y c (PySem.mem_of_lookup h)))
  · unfold start
    show _ = N.length
    rw [List.length_append, List.length_map, List.length_replicate]
    omega

theorem fn_of {CX : CXT} {P : Program} {w : World} {K : PySem.W.Frag} {mg : Str → Option Value} {base : Heap} {k : Nat} {f : Addr} {name qual : Str} {params : Arguments} {body : List Stmt} {scope : Scope} {dV kV doc pm cdv ct oc : Value} {an od : Option Addr}
    {osl : Array (Option Value)} {N ps : List Str} {sp : Sp} (lk : K.lookup f = some ⟨oc, od, .func (PySem.W.fnOf name qual params body scope dV kV doc pm an cdv ct), osl⟩) (hcd : PySem.W.codeIn K cdv qual = true) (S : FnScope N ps scope)
    (len : ∀ vs H Q E, sp vs H Q E → vs.length = ps.length)
    (hbody : ∀ (A : Around) (outer : List Env) (s : Shared) (H : Hp) (vs : List V) (Q : VK) (E : XK), Room k (A.deeper (envOfC qual scope s.heap.objs.size f cdv)) → sp vs H Q E →
      ∃ t, PSs (cxOf CX P w K mg base N qual scope f cdv A outer s H E) body t ∧ t { nx := fun _ H' => Q .non H', rt := Q } (start N vs) H) :
    FnOk P w K mg base CX (k + 1) f (PySem.W.fnOf name qual params body scope dV kV doc pm an cdv ct) ps sp := by
  refine ⟨len, fun A outer s H args us vs Q E hr e0 hb r hsp => ?_⟩
  have hl := len _ _ _ _ hsp
  have KX : K.In s.heap := e0.mod.kin.keeps fun b o e => (e0.bs b o e).1
  have lim : s.heap.NoLimit := e0.mod.nolimit.keeps fun b o e => (e0.bs b o e).1
  have hkind : ∀ y ∈ ps.zip us, scope.names.lookup y.1 = some .local ∨ (scope.names.lookup y.1 = some .cell ∧ ((cellsFrom (s.heap.objs.size + 1) scope.names []).lookup y.1).isSome = true) := fun ⟨n, v⟩ hy => by
    rcases S.par n (List.of_mem_zip hy).1 with q | q
    · exact .inl q
    · exact .inr ⟨q, PySem.W.cellsFrom_some _ _ _ (.inl q)⟩
  refine codeAny_call_function hr.depth (KX _ _ lk) rfl S.co S.gen rfl (PySem.W.codeRec_of KX hcd) (hb _ _ _ _ ?_)
  refine wpAny_newFunctionEnv_cells S.kind hkind fun env he s1 x => ?_
  subst he
  refine ⟨lim.keeps x.toInCall.keep, codeAny_func ?_⟩
  obtain ⟨t, ht, hq⟩ := hbody A outer s H vs Q E (hr.deeper _) hsp
  have I : Inv (cxOf CX P w K mg base N qual scope f cdv A outer s H E) [] (start N vs) H s1 := inv_start S hr.hd e0 hl r x
  refine wpAny_mono (ht [] s1 (start N vs) H _ I hq) (fun fl s' hs => ?_) fun e s' hs => hs
  have fin : ∀ {σ' : St} {H' : Hp} {v : V} {u : Value}, Inv (cxOf CX P w K mg base N qual scope f cdv A outer s H E) [] σ' H' s' → RelV v u → Q v H' → CE outer P w H s Q u s' :=
    fun {σ' H' v u} J rv q => ⟨v, H', J.os, J.bare, J.base, J.hok, rv, q⟩
  cases fl with
  | ret u =>
    obtain ⟨v, σ', H', J, rv, q⟩ := hs
    exact fin J rv q
  | next =>
    obtain ⟨σ', H', J, q⟩ := hs
    exact fin (v := V.non) (u := Value.none) J rfl q
  | brk =>
    obtain ⟨_, _, _, q⟩ := hs
    exact False.elim q
  | cont =>
    obtain ⟨_, _, _, q⟩ := hs
    exact False.elim q
end L2

namespace L2
open PySem PySem.Spec PyProof.Rows
section
variable {X : Cx} {x : Str} {p pos : Pos} {e : Expr} {es : List Expr} {t : TA} {id T : String} {r : List V → Hp → VK → Prop}

noncomputable def tCB (r : List V → Hp → VK → Prop) (t : TA) : TE := fun σ H Q => t σ H fun vs H1 => r vs H1 Q
theorem pe_callB (hc : CallR X (.builtin id) r) (hg : Gl X x) (hm : X.mg x = none) (hv : bootBuiltins x = some (.builtin id)) (ha : PA X (e :: es) t) (hn : x ≠ "__name__" := by decide) (hdb : (x == ("__debug__" : Str)) = false := by decide)
    (he : starEach (e :: es) X.env = (false, eval e X.env) :: starEach es X.env := by rfl) (hpl : (backTo pos (starEach es X.env)).any (·.1) = false := by rfl) : PE X (.Call (.Name x p) (e :: es) [] pos) (tCB r t) := by
  intro pins s σ H Q I h
  refine wpAny_Call_Name_kw (ld_blt I hg hm hv ?_ hn hdb)
  exact PyProof.Rows.callWith_builtin1 (thn (ha pos pins s σ H _ I h) fun us s1 ⟨vs, H1, I1, r1, q1⟩ => hc pins s1 σ H1 vs us Q I1 r1 q1) he hpl
theorem pe_callTy (hc : CallR X (.type T) r) (hg : Gl X x) (hm : X.mg x = none) (hv : bootBuiltins x = some (.type T)) (ha : PA X (e :: es) t) (hn : x ≠ "__name__" := by decide) (hdb : (x == ("__debug__" : Str)) = false := by decide)
    (he : starEach (e :: es) X.env = (false, eval e X.env) :: starEach es X.env := by rfl) (hpl : (backTo pos (starEach es X.env)).any (·.1) = false := by rfl) : PE X (.Call (.Name x p) (e :: es) [] pos) (tCB r t) := by
  intro pins s σ H Q I h
  refine wpAny_Call_Name_kw (ld_blt I hg hm hv ?_ hn hdb)
  exact PyProof.Rows.callWith_type1 (thn (ha pos pins s σ H _ I h) fun us s1 ⟨vs, H1, I1, r1, q1⟩ => hc pins s1 σ H1 vs us Q I1 r1 q1) he hpl
end
end L2

namespace HT
open PySem PyProof.Rows

section
open PySem.SeqAt
open PySem.AutoSeq1 (wpAny_loadPart')
open PySem.MeetsSeq PySem.MeetsSeq2 PySem.MeetsSeq3

end

section
variable {prog : Program} {w : World} {A : Around} {E : Value → Shared → Prop} {s : Shared}

theorem cat_tup {t b : Addr} {vs ws : List Value} {Q : Value → Shared → Prop} (ht : IsTup s.heap t vs.toArray) (hb : IsTup s.heap b ws.toArray) (hv : vs ≠ [])
    (h1 : ws = [] → Q (.ref t) s) (h2 : ws ≠ [] → Q (.ref s.heap.objs.size) { s with heap := s.heap.push { cls := .type "tuple", data := .seq (vs ++ ws).toArray } })
    (hsz : vs.length + ws.length ≤ sizeLine) : wpAny (model prog w) A (binaryOp .Add (.ref t) (.ref b)) Q E s := by
  obtain ⟨⟨cls, dd, data, sl⟩, ho, hc, n, hd⟩ := id ht
  obtain ⟨⟨cls2, dd2, data2, sl2⟩, ho2, hc2, n2, hd2⟩ := id hb
  simp only at hc hd hc2 hd2
  subst hc hd hc2 hd2
  have e : vs.toArray ++ ws.toArray = (vs ++ ws).toArray := by simp
  by_cases hw : ws = []
  · exact concat_meets ⟨_, ho, rfl⟩ ⟨_, ho2, rfl⟩ noFill_tuple_add seq_tuple_add PySem.F.slot_tuple_add PySem.F.entry_tuple_add (PySem.F.args_tuple_add_2 _ _)
      (tuple_addW1 t b vs.toArray ws.toArray n n2 dd dd2 sl sl2 (by simpa using hv) (by simp [hw])) ⟨ho, ho2, h1 hw⟩
  · refine concat_meets ⟨_, ho, rfl⟩ ⟨_, ho2, rfl⟩ noFill_tuple_add seq_tuple_add PySem.F.slot_tuple_add PySem.F.entry_tuple_add (PySem.F.args_tuple_add_2 _ _)
      (tuple_addW2 t b vs.toArray ws.toArray n n2 dd dd2 sl sl2 (by simpa using hv) (by simpa using hw) (by rw [List.size_toArray, List.size_toArray]; exact hsz)) ⟨ho, ho2, ?_⟩
    rw [e]
    exact h2 hw

noncomputable def sIx (n d : Nat) : Option Int → Nat
  | none => d
  | some v => if v < 0 then (v + (n : Int)).toNat else min v.toNat n
theorem sIx_none (n d : Nat) : sIx n d none = d := rfl
theorem sIx_nat (n d k : Nat) : sIx n d (some (k : Int)) = min k n := by
  show (if (k : Int) < 0 then ((k : Int) + (n : Int)).toNat else min (k : Int).toNat n) = min k n
  rw [if_neg (by omega), Int.toNat_natCast]
theorem sIx_le (n d : Nat) (hd : d ≤ n) (o : Option Int) : sIx n d o ≤ n := by
  cases o with
  | none => exact hd
  | some v =>
    show (if v < 0 then (v + (n : Int)).toNat else min v.toNat n) ≤ n
    by_cases hv : v < 0
    · rw [if_pos hv]; omega
    · rw [if_neg hv]; exact Nat.min_le_right _ _
end
end HT

namespace L2
open PySem PySem.Spec PyProof.Rows

noncomputable abbrev TO := St → Hp → (Option Int → Hp → Prop) → Prop
noncomputable def PO (X : Cx) (e : Option Expr) (t : TO) : Prop :=
  ∀ (pins : List (Addr × Obj)) (s : Shared) (σ : St) (H : Hp) (Q : Option Int → Hp → Prop), Inv X pins σ H s → t σ H Q →
    wpAny (model X.prog X.w) X.A (evalPart e X.env) (fun u s' => ∃ o H', Inv X pins σ H' s' ∧ IsPart u o ∧ Q o H') X.xe s
noncomputable def tNoPart : TO := fun _ H Q => Q none H
noncomputable def tPart (t : TE) : TO := fun σ H Q => t σ H fun x H1 => ∃ i, x = .int i ∧ Q (some i) H1

theorem intsAre_of {ns : List Int} : ∀ {us : List Value}, Vals (ns.map V.int) us → IntsAre us ns := by
  induction ns with
  | nil => intro us r; rw [List.map_nil] at r; cases r; exact .nil
  | cons n ns ih =>
    intro us r
    rw [List.map_cons] at r
    cases r with
    | cons r1 r2 =>
      obtain ⟨t, e⟩ := r1
      subst e
      exact .cons n t (ih r2)

section
variable {X : Cx} {e : Expr} {te : TE} {lo hi : Option Expr} {tl th : TO} {pos p2 : Pos}

theorem po_none : PO X none tNoPart := by
  intro pins s σ H Q I h
  rw [evalPart_none]
  exact wpAny_pure ⟨none, H, I, .none, h⟩
theorem po_some (h : PE X e te) : PO X (some e) (tPart te) := by
  intro pins s σ H Q I hw
  rw [evalPart_some]
  refine thn (h pins s σ H _ I hw) fun u s1 ⟨x, H1, I1, r1, q1⟩ => ?_
  obtain ⟨i, rfl, q⟩ := q1
  obtain ⟨t, rfl⟩ := r1
  exact ⟨some i, H1, I1, .int i t, q⟩

noncomputable def SlR (X : Cx) (r : V → Option Int → Option Int → Hp → VK → Prop) : Prop :=
  ∀ (pins : List (Addr × Obj)) (s : Shared) (σ : St) (H : Hp) (x : V) (v vl vu : Value) (lo hi : Option Int) (sl : Addr) (Q : VK), Inv X pins σ H s → RelV x v → s.heap.IsSliceOf sl vl vu .none → IsPart vl lo → IsPart vu hi → r x lo hi H Q →
    ∃ T id, typeLookup (.type T) "__getitem__" = pure (some (.builtin id)) ∧ s.TypeIs v T ∧ wpAny (model X.prog X.w) X.A (getItem v (.ref sl)) (EP X pins σ Q) X.xe s
theorem SlR.or {r r' : V → Option Int → Option Int → Hp → VK → Prop} (h : SlR X r) (h' : SlR X r') : SlR X (fun x lo hi H Q => r x lo hi H Q ∨ r' x lo hi H Q) := by
  intro pins s σ H x v vl vu lo hi sl Q I rx hs pl pu q
  rcases q with q | q
  · exact h pins s σ H x v vl vu lo hi sl Q I rx hs pl pu q
  · exact h' pins s σ H x v vl vu lo hi sl Q I rx hs pl pu q
noncomputable def tSl (r : V → Option Int → Option Int → Hp → VK → Prop) (te : TE) (tl th : TO) : TE := fun σ H Q => te σ H fun x H1 => tl σ H1 fun l H2 => th σ H2 fun u H3 => r x l u H3 Q
theorem pe_slice {r : V → Option Int → Option Int → Hp → VK → Prop} (hr : SlR X r) (he : PE X e te) (hl : PO X lo tl) (hu : PO X hi th) : PE X (.Subscript e (.Slice lo hi none p2) pos) (tSl r te tl th) := by
  intro pins s σ H Q I h
  refine Subscript_ (thn (he pins s σ H _ I h) fun v s1 ⟨x, H1, I1, r1, q1⟩ => ?_)
  refine wpAny_Slice (thn (hl pins s1 σ H1 _ I1 q1) fun vl s2 ⟨l, H2, I2, pl, q2⟩ => thn (hu pins s2 σ H2 _ I2 q2) fun vu s3 ⟨u, H3, I3, pu, q3⟩ => ?_)
  rw [evalPart_none]
  refine wpAny_pure ?_
  have I4 : Inv X pins σ H3 { s3 with heap := s3.heap.push { cls := .type "slice", data := .fields #[vl, vu, .none] } } := I3.kept (t' := s3.toks) fun b ob q => Heap.get?_push_of_some _ q
  obtain ⟨T, id, hT, ht, hg⟩ := hr pins { s3 with heap := s3.heap.push { cls := .type "slice", data := .fields #[vl, vu, .none] } } σ H3 x v vl vu l u s3.heap.objs.size Q I4 r1 (Heap.IsSliceOf.new ..) pl pu q3
  show wpAny (model X.prog X.w) X.A (subscriptTail e (.Slice lo hi none p2) v (.ref s3.heap.objs.size)) (EP X pins σ Q) X.xe { s3 with heap := s3.heap.push { cls := .type "slice", data := .fields #[vl, vu, .none] } }
  exact tail_any (ops := [.ref s3.heap.objs.size, v]) ht hT hg (by with_unfolding_all rfl)

noncomputable def cutV (xs : List V) (lo hi : Option Int) : List V := (xs.drop (HT.sIx xs.length 0 lo)).take (HT.sIx xs.length xs.length hi - HT.sIx xs.length 0 lo)
theorem cutV_length (xs : List V) (lo hi : Option Int) : (cutV xs lo hi).length ≤ xs.length := by
  unfold cutV
  rw [List.length_take, List.length_drop]
  omega
noncomputable def rCatT (K : PySem.W.Frag) : R2 := fun x y H Q => ∃ a b xs ys, x = .ref a ∧ y = .ref b ∧ SqT K H a xs ∧ SqT K H b ys ∧ xs ≠ [] ∧ xs.length + ys.length ≤ sizeLine ∧
  (ys = [] → Q (.ref a) H) ∧ (ys ≠ [] → ∀ p, H p = none → Q (.ref p) (upd H p (.tup (xs ++ ys))))
theorem Vals.nil_iff {xs : List V} {us : List Value} (r : Vals xs us) : us = [] ↔ xs = [] := by
  cases r with
  | nil => simp
  | cons _ _ => simp
theorem op_catT : OpR X (binaryOp .Add) (rCatT X.K) := by
  intro pins s σ H x y v u Q I rx ry h
  obtain ⟨a, b, xs, ys, rfl, rfl, ha, hb, hx, hz, q1, q2⟩ := h
  cases rx
  cases ry
  obtain ⟨its, r1, p1, _⟩ := I.tuple ha
  obtain ⟨its2, r2, p2, _⟩ := I.tuple hb
  refine HT.cat_tup p1 p2 (fun z => hx (r1.nil_iff.mp z)) (fun z => ⟨.ref a, H, I, rfl, q1 (r2.nil_iff.mp z)⟩) (fun z => ?_) (by rw [← r1.length, ← r2.length]; exact hz)
  refine ⟨.ref s.heap.objs.size, _, I.laid (t' := s.toks) (o := .tup (xs ++ ys)) (fun b ob q => Heap.get?_push_of_some _ q) (Nat.le_refl _) ?_, rfl, q2 (fun w => z (r2.nil_iff.mpr w)) _ (I.hok.fresh (Nat.le_refl _))⟩
  exact ⟨by rw [List.length_append]; exact hz, _, r1.append r2, IsTup.new _ _⟩
end
end L2

namespace L2
open PySem PySem.Spec PyProof.Rows

noncomputable def ixN (n : Nat) (i : Int) : Option Nat := if 0 ≤ i then (if i < n then some i.toNat else none) else if -(n : Int) ≤ i then some (i + n).toNat else none
noncomputable def atI {α : Type} (xs : List α) (i : Int) : Option α := (ixN xs.length i).bind fun j => xs[j]?
theorem ixN_seq {n : Nat} {i : Int} {j : Nat} (h : ixN n i = some j) : seqIndex? i n = some j ∧ j < n ∧ -(n : Int) ≤ i ∧ i < n := by
  unfold ixN at h
  by_cases h0 : 0 ≤ i
  · rw [if_pos h0] at h
    by_cases h1 : i < n
    · rw [if_pos h1] at h
      have e : i.toNat = j := Option.some.inj h
      exact ⟨by rw [seqIndex_of h0 h1, e], by omega, by omega, h1⟩
    · rw [if_neg h1] at h; cases h
  · rw [if_neg h0] at h
    by_cases h1 : -(n : Int) ≤ i
    · rw [if_pos h1] at h
      have e : (i + n).toNat = j := Option.some.inj h
      exact ⟨by rw [seqIndex_neg (by omega) h1, e], by omega, h1, by omega⟩
    · rw [if_neg h1] at h; cases h
theorem atI_get {α : Type} {xs : List α} {i : Int} {v : α} (h : atI xs i = some v) : ∃ j, seqIndex? i xs.length = some j ∧ xs[j]? = some v ∧ j < xs.length ∧ -(xs.length : Int) ≤ i ∧ i < xs.length := by
  unfold atI at h
  cases e : ixN xs.length i with
  | none => rw [e] at h; cases h
  | some j =>
    rw [e] at h
    obtain ⟨h1, h2, h3, h4⟩ := ixN_seq e
    exact ⟨j, h1, h, h2, h3, h4⟩
theorem atI_nat {α : Type} {xs : List α} {j : Nat} {v : α} (h : xs[j]? = some v) : atI xs (j : Int) = some v := by
  have hj : j < xs.length := (List.getElem?_eq_some_iff.mp h).1
  have e : ixN xs.length (j : Int) = some j := by
    unfold ixN
    rw [if_pos (by omega), if_pos (by omega)]; simp
  unfold atI; rw [e]; exact h
noncomputable def PlainIx (b : Expr) : Prop := ∀ o i, subscripted b false o i = operate [o, i] (getItem o i)
noncomputable def IxR (X : Cx) (r : R2) : Prop :=
  ∀ (value slice : Expr) (pins : List (Addr × Obj)) (s : Shared) (σ : St) (H : Hp) (x y : V) (v u : Value) (Q : VK), Inv X pins σ H s → RelV x v → RelV y u → r x y H Q →
    subscripted slice false v u = operate [v, u] (getItem v u) → wpAny (model X.prog X.w) X.A (subscriptTail value slice v u) (EP X pins σ Q) X.xe s
noncomputable def MtR (X : Cx) (id : String) (r : V → List V → Hp → VK → Prop) : Prop :=
  ∀ (pins : List (Addr × Obj)) (s : Shared) (σ : St) (H : Hp) (x : V) (xs : List V) (v : Value) (us : List Value) (Q : VK), Inv X pins σ H s → RelV x v → Vals xs us → r x xs H Q →
    wpAny (model X.prog X.w) X.A (call (.builtin id) (v :: us)) (EP X pins σ Q) X.xe s
section
variable {X : Cx} {a b : Expr} {ta tb : TE} {pos : Pos}
theorem IxR.or {r r' : R2} (h : IxR X r) (h' : IxR X r') : IxR X (fun x y H Q => r x y H Q ∨ r' x y H Q) := by
  intro value slice pins s σ H x y v u Q I rx ry q hs
  rcases q with q | q
  · exact h value slice pins s σ H x y v u Q I rx ry q hs
  · exact h' value slice pins s σ H x y v u Q I rx ry q hs
theorem MtR.or {id : String} {r r' : V → List V → Hp → VK → Prop} (h : MtR X id r) (h' : MtR X id r') : MtR X id (fun x xs H Q => r x xs H Q ∨ r' x xs H Q) := by
  intro pins s σ H x xs v us Q I rx rs q
  rcases q with q | q
  · exact h pins s σ H x xs v us Q I rx rs q
  · exact h' pins s σ H x xs v us Q I rx rs q
theorem pe_ix {r : R2} (hr : IxR X r) (ha : PE X a ta) (hb : PE X b tb) (hs : PlainIx b) : PE X (.Subscript a b pos) (tOp r ta tb) := by
  intro pins s σ H Q I h
  exact Subscript_ (binT ha hb I h fun v u s2 x y H2 I2 rx ry q => hr a b pins s2 σ H2 x y v u Q I2 rx ry q (hs _ _))

noncomputable def rIxL (K : PySem.W.Frag) : R2 := fun x y H Q => ∃ p xs i v, x = .ref p ∧ y = .int i ∧ SqL K H p xs ∧ atI xs i = some v ∧ Q v H
noncomputable def rIxT (K : PySem.W.Frag) : R2 := fun x y H Q => ∃ p xs i v, x = .ref p ∧ y = .int i ∧ SqT K H p xs ∧ atI xs i = some v ∧ Q v H
noncomputable def rIxS : R2 := fun x y H Q => ∃ z i c, x = .str z ∧ y = .int i ∧ z.length ≤ sizeLine ∧ atI z.cps.toList i = some c ∧ Q (.str ⟨#[c]⟩) H
theorem ix_list : IxR X (rIxL X.K) := by
  intro value slice pins s σ H x y v u Q I rx ry h hs
  obtain ⟨p, xs, i, z, rfl, rfl, hq, he, q⟩ := h
  cases rx
  obtain ⟨t, rfl⟩ := ry
  obtain ⟨its, r, pl, hz⟩ := I.list hq
  obtain ⟨j, h1, h2, h3, h4, h5⟩ := atI_get he
  obtain ⟨w, ew, rw'⟩ := r.get h2
  have hl := r.length
  have hn := line63
  have fin : EP X pins σ Q w s := ⟨z, H, I, rw', q⟩
  by_cases h0 : 0 ≤ i
  · have hj : i.toNat = j := by
      rw [seqIndex_of h0 h5] at h1
      exact Option.some.inj h1
    exact item_listR pl.isList h0 (by omega) (by rw [hj]; simpa using ew) fin hs
  · have hj : (i + (its.toArray.size : Int)).toNat = j := by
      rw [seqIndex_neg (by omega) h4] at h1
      rw [List.size_toArray, ← hl]
      exact Option.some.inj h1
    exact subscriptTail_builtinR (x := w) pl.isList.typeIs slot_list_getitem.lookup
      (wpAny_getItem_list_neg (Q := fun r s' => r = w ∧ EP X pins σ Q r s') pl.isList (by omega) (by rw [List.size_toArray] <;> omega) (by omega) (by rw [hj]; simpa using ew) ⟨rfl, fin⟩) hs
theorem ix_tup : IxR X (rIxT X.K) := by
  intro value slice pins s σ H x y v u Q I rx ry h hs
  obtain ⟨p, xs, i, z, rfl, rfl, hq, he, q⟩ := h
  cases rx
  obtain ⟨t, rfl⟩ := ry
  obtain ⟨its, r, pl, hz⟩ := I.tuple hq
  obtain ⟨j, h1, h2, h3, h4, h5⟩ := atI_get he
  obtain ⟨w, ew, rw'⟩ := r.get h2
  have hl := r.length
  have hn := line63
  have fin : EP X pins σ Q w s := ⟨z, H, I, rw', q⟩
  exact subscriptTail_builtinR (x := w) pl.typeIs slot_tuple_getitem.lookup
    (getItem_tuple (j := j) (Q := fun r s' => r = w ∧ EP X pins σ Q r s') pl (by omega) (by omega) (by rw [List.size_toArray, ← hl]; exact h1) (by simpa using ew) ⟨rfl, fin⟩) hs
theorem ix_str : IxR X rIxS := by
  intro value slice pins s σ H x y v u Q I rx ry h hs
  obtain ⟨z, i, c, rfl, rfl, hz, he, q⟩ := h
  obtain ⟨t, rfl⟩ := rx
  obtain ⟨t', rfl⟩ := ry
  obtain ⟨j, h1, h2, h3, h4, h5⟩ := atI_get he
  have hl : z.cps.toList.length = z.length := by simp [Str.length]
  rw [hl] at h1 h4 h5
  have hn := line63
  exact tail_any (typeIs_str s z t) slot_str_getitem.lookup (getItem_str (c := c) (by
    have e1 : decide (i < -(2 ^ 63 : Int)) = false := decide_eq_false (by omega)
    have e2 : decide (i ≥ 2 ^ 63) = false := decide_eq_false (by omega)
    rw [e1, e2, Bool.or_false]) (by rw [h1]; simpa using h2) ⟨.str ⟨#[c]⟩, H, I.tok _, ⟨_, rfl⟩, q⟩) hs
theorem mapSeq_set (its : List Value) (n j : Nat) (u : Value) : Obj.mapSeq (·.setIfInBounds j u) { cls := .type "list", data := .seq its.toArray n } = { cls := .type "list", data := .seq (its.set j u).toArray n } := by
  simp [Obj.mapSeq]
theorem Inv.lst {pins : List (Addr × Obj)} {σ : St} {H : Hp} {s : Shared} {p : Addr} {xs : List V} (I : Inv X pins σ H s) (h : H p = some (.lst xs)) :
    ∃ (its : List Value) (n : Nat), Vals xs its ∧ s.heap.get? p = some { cls := .type "list", data := .seq its.toArray n } ∧ xs.length ≤ sizeLine := by
  obtain ⟨z, its, n, r, e⟩ := I.hok p _ h
  exact ⟨its, n, r, e, z⟩
theorem Inv.lstUpd {pins : List (Addr × Obj)} {σ : St} {H : Hp} {s : Shared} {p : Addr} {xs ys : List V} {its its' : List Value} {n n' : Nat} {f : Obj → Obj} (I : Inv X pins σ H s) (h : H p = some (.lst xs))
    (ho : s.heap.get? p = some { cls := .type "list", data := .seq its.toArray n }) (hf : f { cls := .type "list", data := .seq its.toArray n } = { cls := .type "list", data := .seq its'.toArray n' }) (r : Vals ys its') (hz : ys.length ≤ sizeLine) (t : Nat) :
    Inv X pins σ (upd H p (.lst ys)) { s with heap := s.heap.update p f, toks := t } := by
  have e : (s.heap.update p f).get? p = some { cls := .type "list", data := .seq its'.toArray n' } := by
    rw [Heap.get?_update_self f ho (by rw [hf] <;> rfl), hf]
  refine I.write (x := p) (e := p) (by rw [h]; trivial) (.inl rfl) (fun b u hb q => (Heap.get?_update_other _ _ (Ne.symm hb)).trans q) ⟨_, e⟩ ?_
  exact ⟨hz, its', n', r, e⟩
noncomputable def rSetL : V → V → V → Hp → (Hp → Prop) → Prop := fun o i v H Q => ∃ p xs k j, o = .ref p ∧ i = .int k ∧ H p = some (.lst xs) ∧ ixN xs.length k = some j ∧ Q (upd H p (.lst (xs.set j v)))
theorem set_list : PSet X rSetL := by
  intro pins s σ H o i v ov iv u Q I ro ri rv h
  obtain ⟨p, xs, k, j, rfl, rfl, hp, hj, q⟩ := h
  cases ro
  obtain ⟨t, rfl⟩ := ri
  obtain ⟨its, n, r, ho, hz⟩ := I.lst hp
  obtain ⟨h1, h2, h3, h4⟩ := ixN_seq hj
  have hl := r.length
  have hn := line63
  have I' : Inv X pins σ (upd H p (.lst (xs.set j v))) { s with heap := s.heap.update p (Obj.mapSeq (·.setIfInBounds j u)) } :=
    I.lstUpd hp ho (mapSeq_set its n j u) (r.set rv j) (by rw [List.length_set]; exact hz) s.toks
  by_cases h0 : 0 ≤ k
  · have hk : k.toNat = j := by
      rw [seqIndex_of h0 h4] at h1
      exact Option.some.inj h1
    exact PySem.W.ki_setAt ho h0 (by omega) (by rw [List.size_toArray, ← hl]; exact h4) (by rw [hk]; exact ⟨_, I', q⟩)
  · have hk : (k + (its.toArray.size : Int)).toNat = j := by
      rw [seqIndex_neg (by omega) h3] at h1
      rw [List.size_toArray, ← hl]
      exact Option.some.inj h1
    exact PySem.W.ki_setBack ho (by omega) (by rw [List.size_toArray, ← hl]; exact h3) (by omega) (by rw [hk]; exact ⟨_, I', q⟩)

theorem slice_bounds (lo hi : Option Int) (n : Nat) : (sliceBounds lo hi none n).1 = ((HT.sIx n 0 lo : Nat) : Int) ∧ (sliceBounds lo hi none n).2.1 = ((HT.sIx n n hi : Nat) : Int) ∧ (sliceBounds lo hi none n).2.2 = 1 := by
  refine ⟨?_, ?_, rfl⟩
  · cases lo with
    | none => simp [sliceBounds, HT.sIx]
    | some i =>
      simp only [sliceBounds, HT.sIx, Option.getD_none, show (1 : Int) > 0 by decide, if_true]
      by_cases h : i < 0
      · simp only [h, if_true] <;> omega
      · simp only [h, if_false] <;> omega
  · cases hi with
    | none => simp [sliceBounds, HT.sIx]
    | some i =>
      simp only [sliceBounds, HT.sIx, Option.getD_none, show (1 : Int) > 0 by decide, if_true]
      by_cases h : i < 0
      · simp only [h, if_true] <;> omega
      · simp only [h, if_false] <;> omega
theorem slicePick_cut (its : List Value) (lo hi : Option Int) : slicePick its.toArray lo hi none = ((its.drop (HT.sIx its.length 0 lo)).take (HT.sIx its.length its.length hi - HT.sIx its.length 0 lo)).toArray := by
  obtain ⟨h1, h2, h3⟩ := slice_bounds lo hi its.toArray.size
  unfold slicePick
  rw [h1, h2, h3]
  simp only [sliceRange_one, pick_run, List.size_toArray] <;> rfl
noncomputable def rSlL (K : PySem.W.Frag) : V → Option Int → Option Int → Hp → VK → Prop := fun x lo hi H Q => ∃ a xs, x = .ref a ∧ SqL K H a xs ∧ ∀ p, H p = none → Q (.ref p) (upd H p (.lst (cutV xs lo hi)))
theorem sl_list : SlR X (rSlL X.K) := by
  intro pins s σ H x v vl vu lo hi sl Q I rx hs pl pu h
  obtain ⟨a, xs, rfl, hx, q⟩ := h
  cases rx
  obtain ⟨its, r, ht, hz⟩ := I.list hx
  have hlen := r.length
  refine ⟨"list", _, slot_list_getitem.lookup, ht.isList.typeIs, ?_⟩
  refine wpAny_getItem_list_slice ht.isList hs pl pu .none (by simp) ?_ (by rw [List.size_toArray] <;> omega)
  rw [slicePick_cut, ← hlen]
  refine ⟨.ref s.heap.objs.size, _, I.laid (t' := s.toks) (o := .lst (cutV xs lo hi)) (fun b ob q => Heap.get?_push_of_some _ q) (Nat.le_refl _) ?_, rfl, q _ (I.hok.fresh (Nat.le_refl _))⟩
  exact ⟨Nat.le_trans (cutV_length xs lo hi) hz, _, 0, (r.drop (HT.sIx xs.length 0 lo)).take (HT.sIx xs.length xs.length hi - HT.sIx xs.length 0 lo), Heap.get?_push_size _ rfl⟩

noncomputable def flatV : V → Bool
  | .non => true
  | .bl _ => true
  | .int _ => true
  | .str _ => true
  | _ => false
noncomputable def eqV : V → V → Bool
  | .non, .non => true
  | .bl a, .bl b => a == b
  | .bl a, .int b => (if a then 1 else 0) == b
  | .int a, .bl b => a == (if b then 1 else 0)
  | .int a, .int b => a == b
  | .str a, .str b => a == b
  | _, _ => false
theorem eqAt_V {A : Around} {s : Shared} {y x : V} {u v : Value} (ry : RelV y u) (rx : RelV x v) (fy : flatV y = true) (fx : flatV x = true) : SeqAt.EqAt A s u v (eqV y x) := by
  cases y with
  | non =>
    cases ry
    cases x with
    | non => cases rx; exact SeqAt.EqAt.same _
    | bl b => cases rx; exact SeqAt.EqAt.none_bool b
    | int b => obtain ⟨t, rfl⟩ := rx; exact SeqAt.EqAt.none_int b t
    | str b => obtain ⟨t, rfl⟩ := rx; exact SeqAt.EqAt.none_str b t
    | _ => exact absurd (show false = true from fx) Bool.false_ne_true
  | bl a =>
    cases ry
    cases x with
    | non => cases rx; exact SeqAt.EqAt.bool_none a
    | bl b => cases rx; exact SeqAt.EqAt.bool_bool a b
    | int b => obtain ⟨t, rfl⟩ := rx; exact SeqAt.EqAt.bool_int a b t
    | str b => obtain ⟨t, rfl⟩ := rx; exact SeqAt.EqAt.bool_str a b t
    | _ => exact absurd (show false = true from fx) Bool.false_ne_true
  | int a =>
    obtain ⟨t', rfl⟩ := ry
    cases x with
    | non => cases rx; exact SeqAt.EqAt.int_none a t'
    | bl b => cases rx; exact SeqAt.EqAt.int_bool a t' b
    | int b => obtain ⟨t, rfl⟩ := rx; exact SeqAt.EqAt.int_int a t' b t
    | str b => obtain ⟨t, rfl⟩ := rx; exact SeqAt.EqAt.int_str a t' b t
    | _ => exact absurd (show false = true from fx) Bool.false_ne_true
  | str a =>
    obtain ⟨t', rfl⟩ := ry
    cases x with
    | non => cases rx; exact SeqAt.EqAt.str_none a t'
    | bl b => cases rx; exact SeqAt.EqAt.str_bool a t' b
    | int b => obtain ⟨t, rfl⟩ := rx; exact SeqAt.EqAt.str_int a t' b t
    | str b => obtain ⟨t, rfl⟩ := rx; exact SeqAt.EqAt.str_str a t' b t
    | _ => exact absurd (show false = true from fx) Bool.false_ne_true
  | _ => exact absurd (show false = true from fy) Bool.false_ne_true
noncomputable def eqU (x : V) (u : Value) : Bool := match u with
  | .none => eqV .non x
  | .bool b => eqV (.bl b) x
  | .int i _ => eqV (.int i) x
  | .str z _ => eqV (.str z) x
  | _ => false
theorem eqU_of {x y : V} {u : Value} (r : RelV y u) (f : flatV y = true) : eqU x u = eqV y x := by
  cases y with
  | non => cases r; rfl
  | bl b => cases r; rfl
  | int i => obtain ⟨t, rfl⟩ := r; rfl
  | str z => obtain ⟨t, rfl⟩ := r; rfl
  | _ => exact absurd (show false = true from f) Bool.false_ne_true
theorem any_eqU {x : V} : ∀ {xs : List V} {us : List Value}, Vals xs us → xs.all flatV = true → us.any (eqU x) = xs.any fun y => eqV y x
  | _, _, .nil, _ => rfl
  | y :: xs, u :: us, .cons r t, f => by
    rw [List.all_cons, Bool.and_eq_true] at f
    rw [List.any_cons, List.any_cons, eqU_of r f.1, any_eqU t f.2]
theorem mem_eqAt {A : Around} {s : Shared} {x : V} {v : Value} (rx : RelV x v) (fx : flatV x = true) : ∀ {xs : List V} {us : List Value}, Vals xs us → xs.all flatV = true → ∀ u ∈ us, SeqAt.EqAt A s u v (eqU x u)
  | _, _, .nil, _ => fun u hu => by cases hu
  | y :: xs, u :: us, .cons r t, f => fun u' hu => by
    rw [List.all_cons, Bool.and_eq_true] at f
    rcases List.mem_cons.mp hu with rfl | hu
    · rw [eqU_of r f.1]; exact eqAt_V r rx f.1 fx
    · exact mem_eqAt rx fx t f.2 u' hu
noncomputable def inV (x : V) (xs : List V) : Bool := xs.any fun y => eqV y x
noncomputable def rIn (K : PySem.W.Frag) (neg : Bool) : R2 := fun x y H Q => ∃ p xs, y = .ref p ∧ (SqL K H p xs ∨ SqT K H p xs) ∧ flatV x = true ∧ xs.all flatV = true ∧ Q (.bl (if neg then !inV x xs else inV x xs)) H
theorem op_in_seq : OpR X (compareOp .In) (rIn X.K false) := by
  intro pins s σ H x y v u Q I rx ry h
  obtain ⟨p, xs, rfl, hq, fx, fs, q⟩ := h
  cases ry
  rcases hq with hq | hq
  · obtain ⟨its, r, pl, hz⟩ := I.list hq
    refine SeqAt.in_listAt (eqU x) pl.isList (fun w hw => mem_eqAt rx fx r fs w (by simpa using hw)) ⟨.bl _, H, I, rfl, ?_⟩
    rw [show its.toArray.any (eqU x) = its.any (eqU x) by simp, any_eqU r fs]
    exact q
  · obtain ⟨its, r, pl, hz⟩ := I.tuple hq
    refine SeqAt.in_tupleAt (eqU x) pl (fun w hw => mem_eqAt rx fx r fs w (by simpa using hw)) ⟨.bl _, H, I, rfl, ?_⟩
    rw [show its.toArray.any (eqU x) = its.any (eqU x) by simp, any_eqU r fs]
    exact q
theorem op_notIn_seq : OpR X (compareOp .NotIn) (rIn X.K true) := by
  intro pins s σ H x y v u Q I rx ry h
  obtain ⟨p, xs, rfl, hq, fx, fs, q⟩ := h
  cases ry
  rcases hq with hq | hq
  · obtain ⟨its, r, pl, hz⟩ := I.list hq
    refine SeqAt.notIn_listAt (eqU x) pl.isList (fun w hw => mem_eqAt rx fx r fs w (by simpa using hw)) ⟨.bl _, H, I, rfl, ?_⟩
    rw [show its.toArray.any (eqU x) = its.any (eqU x) by simp, any_eqU r fs]
    exact q
  · obtain ⟨its, r, pl, hz⟩ := I.tuple hq
    refine SeqAt.notIn_tupleAt (eqU x) pl (fun w hw => mem_eqAt rx fx r fs w (by simpa using hw)) ⟨.bl _, H, I, rfl, ?_⟩
    rw [show its.toArray.any (eqU x) = its.any (eqU x) by simp, any_eqU r fs]
    exact q
theorem call_len_seq : CallR X (.builtin "len") (fun xs H Q => ∃ p ys, xs = [.ref p] ∧ (SqL X.K H p ys ∨ SqT X.K H p ys) ∧ Q (.int ys.length) H) := by
  intro pins s σ H xs us Q I r h
  obtain ⟨p, ys, rfl, hq, q⟩ := h
  obtain ⟨u, rfl, rx⟩ := vals1 r
  cases rx
  have hn := line63
  rcases hq with hq | hq
  · obtain ⟨its, r', pl, hz⟩ := I.list hq
    have hlen := r'.length
    exact Calls.call_len_list pl.isList (by simp only [List.size_toArray] <;> omega) ⟨.int ys.length, H, I.tok _, ⟨s.toks + 1, by rw [List.size_toArray, hlen]⟩, q⟩
  · obtain ⟨its, r', pl, hz⟩ := I.tuple hq
    have hlen := r'.length
    exact len_tuple pl (by simp only [List.size_toArray] <;> omega) ⟨.int ys.length, H, I.tok _, ⟨s.toks + 1, by rw [List.size_toArray, hlen]⟩, q⟩
theorem call_len_str : CallR X (.builtin "len") (fun xs H Q => ∃ z, xs = [.str z] ∧ z.length ≤ sizeLine ∧ Q (.int z.length) H) := by
  intro pins s σ H xs us Q I r h
  obtain ⟨z, rfl, hz, q⟩ := h
  obtain ⟨u, rfl, t, rfl⟩ := vals1 r
  have hn := line63
  exact len_str (by omega) ⟨.int z.length, H, I.tok _, ⟨_, rfl⟩, q⟩
theorem CallR.or {f : Value} {r r' : List V → Hp → VK → Prop} (h : CallR X f r) (h' : CallR X f r') : CallR X f (fun xs H Q => r xs H Q ∨ r' xs H Q) := by
  intro pins s σ H xs us Q I rs q
  rcases q with q | q
  · exact h pins s σ H xs us Q I rs q
  · exact h' pins s σ H xs us Q I rs q
theorem call_list_of : CallR X (.type "list") (fun xs H Q => ∃ p ys, xs = [.ref p] ∧ (SqL X.K H p ys ∨ SqT X.K H p ys) ∧ ∀ l, H l = none → Q (.ref l) (upd H l (.lst ys))) := by
  intro pins s σ H xs us Q I r h
  obtain ⟨p, ys, rfl, hq, q⟩ := h
  obtain ⟨u, rfl, rx⟩ := vals1 r
  cases rx
  have fin : ∀ (its : List Value), Vals ys its → ys.length ≤ sizeLine → ∀ (h' : Heap) (c' : Nat), (∀ b o', s.heap.get? b = some o' → h'.get? b = some o') →
      h'.get? s.heap.objs.size = some { cls := .type "list", dict := none, data := .seq its.toArray c', slots := #[] } → EP X pins σ Q (.ref s.heap.objs.size) { s with heap := h' } := fun its r' hz h' c' kp e =>
    ⟨.ref s.heap.objs.size, _, I.laid (t' := s.toks) kp (Nat.le_refl _) (show ObjOk X.prog X.w _ h' _ (.lst ys) from ⟨hz, its, c', r', e⟩), rfl, q _ (I.hok.fresh (Nat.le_refl _))⟩
  rcases hq with hq | hq
  · obtain ⟨its, r', pl, hz⟩ := I.list hq
    have hlen := r'.length
    obtain ⟨o, ho, hc, n, hd⟩ := pl.isList
    exact call_list_seq p (.inl rfl) ho hc hd (fun h' c' kp e => fin its r' hz h' c' kp e) (by simp only [List.size_toArray] <;> omega)
  · obtain ⟨its, r', pl, hz⟩ := I.tuple hq
    have hlen := r'.length
    obtain ⟨o, ho, hc, n, hd⟩ := pl
    exact call_list_seq p (.inr rfl) ho hc hd (fun h' c' kp e => fin its r' hz h' c' kp e) (by simp only [List.size_toArray] <;> omega)
theorem call_tuple_of : CallR X (.type "tuple") (fun xs H Q => ∃ p ys, xs = [.ref p] ∧ ((SqL X.K H p ys ∧ ∀ l, H l = none → Q (.ref l) (upd H l (.tup ys))) ∨ (SqT X.K H p ys ∧ Q (.ref p) H))) := by
  intro pins s σ H xs us Q I r h
  obtain ⟨p, ys, rfl, h⟩ := h
  obtain ⟨u, rfl, rx⟩ := vals1 r
  cases rx
  rcases h with ⟨hq, q⟩ | ⟨hq, q⟩
  · obtain ⟨its, r', pl, hz⟩ := I.list hq
    have hlen := r'.length
    refine call_tuple_list pl.isList (fun h' kp => ?_) (by simp only [List.size_toArray] <;> omega)
    have I1 : Inv X pins σ H { s with heap := h' } := I.kept (t' := s.toks) kp
    have I2 : Inv X pins σ (upd H h'.objs.size (.tup ys)) { s with heap := h'.push { cls := .type "tuple", data := .seq its.toArray } } :=
      I1.laid (t' := s.toks) (fun b o e => Heap.get?_push_of_some _ e) (Nat.le_refl _) (show ObjOk X.prog X.w _ _ _ (.tup ys) from ⟨hz, its, r', IsTup.new _ _⟩)
    exact ⟨.ref h'.objs.size, _, I2, rfl, q _ (I1.hok.fresh (Nat.le_refl _))⟩
  · obtain ⟨its, r', pl, hz⟩ := I.tuple hq
    exact call_tuple_same pl ⟨.ref p, H, I, rfl, q⟩

noncomputable def tyV (K : PySem.W.Frag) (T : String) (x : V) (H : Hp) : Prop := match x with
  | .str _ => T = "str"
  | .int _ => T = "int"
  | .ref p => (T = "list" ∧ ∃ xs, SqL K H p xs) ∨ (T = "tuple" ∧ ∃ o, K.lookup p = some o ∧ o.cls = .type "tuple" ∧ o.dict = none) ∨
      (T = "dict" ∧ ((∃ kvs, H p = some (.dK kvs)) ∨ ∃ kvs, H p = some (.dT kvs))) ∨ (T = "set" ∧ ∃ S n, H p = some (.set S n))
  | _ => False
theorem tyV_is {pins : List (Addr × Obj)} {σ : St} {H : Hp} {s : Shared} {T : String} {x : V} {v : Value} (I : Inv X pins σ H s) (r : RelV x v) (ty : tyV X.K T x H) :
    s.TypeIs v T ∧ ∀ a, v = .ref a → ∃ ob, s.heap.get? a = some ob ∧ ob.dict = none := by
  cases x with
  | str z =>
    obtain ⟨t, rfl⟩ := r
    cases (show T = "str" from ty)
    exact ⟨typeIs_str s z t, fun _ e => nomatch e⟩
  | int i =>
    obtain ⟨t, rfl⟩ := r
    cases (show T = "int" from ty)
    exact ⟨typeIs_int s i t, fun _ e => nomatch e⟩
  | ref p =>
    cases r
    rcases ty with ⟨rfl, xs, hq⟩ | ⟨rfl, o, hk, hc, hd⟩ | ⟨rfl, hk⟩ | ⟨rfl, S, n, hk⟩
    · obtain ⟨its, _, pl, _⟩ := I.list hq
      refine ⟨pl.isList.typeIs, fun a e => ?_⟩
      cases e
      obtain ⟨o, n, e, c, hd, _⟩ := pl
      exact ⟨o, e, hd⟩
    · refine ⟨⟨o, I.kIn p o hk, hc⟩, fun a e => ?_⟩
      cases e
      exact ⟨o, I.kIn _ o hk, hd⟩
    · have z : ∃ o, s.heap.get? p = some o ∧ o.ExactDict := by
        rcases hk with ⟨kvs, hk⟩ | ⟨kvs, hk⟩
        · obtain ⟨_, _, _, _, o, _, _, e, ex, _⟩ := I.hok p _ hk
          exact ⟨o, e, ex⟩
        · obtain ⟨_, _, _, _, o, _, _, e, ex, _⟩ := I.hok p _ hk
          exact ⟨o, e, ex⟩
      obtain ⟨o, e, ex⟩ := z
      refine ⟨⟨o, e, ex.1⟩, fun a e2 => ?_⟩
      cases e2
      exact ⟨o, e, ex.2.1⟩
    · obtain ⟨o, _, _, _, e, ex, _⟩ := I.hok p _ hk
      refine ⟨⟨o, e, ex.1⟩, fun a e2 => ?_⟩
      cases e2
      exact ⟨o, e, ex.2.1⟩
  | _ => exact False.elim ty
noncomputable def tBM0 (K : PySem.W.Frag) (T : String) (r : V → List V → Hp → VK → Prop) (to : TE) : TE := fun σ H Q => to σ H fun x H1 => tyV K T x H1 ∧ r x [] H1 Q
noncomputable def tBM (K : PySem.W.Frag) (T : String) (r : V → List V → Hp → VK → Prop) (to : TE) (t : TA) : TE := fun σ H Q => to σ H fun x H1 => tyV K T x H1 ∧ t σ H1 fun xs H2 => r x xs H2 Q
variable {o e : Expr} {es : List Expr} {to : TE} {t : TA} {name : Str} {apos cpos : Pos} {T id : String} {r : V → List V → Hp → VK → Prop}
theorem pe_bm0 (pa : PlainAttrs T) (slot : Slot T name id) (hty : typeOf (.builtin id) = pure (.type "method_descriptor")) (hm : MtR X id r) (ho : PE X o to)
    (hbase : attributeBase o name X.env (eval o X.env) = eval o X.env := by rfl) (hline : (apos.endLine == cpos.line) = true := by rfl) : PE X (.Call (.Attribute o name apos) [] [] cpos) (tBM0 X.K T r to) := by
  intro pins s σ H Q I h
  refine wpAny_Call_method0_late hbase hline (thn (ho pins s σ H _ I h) fun v s1 ⟨x, H1, I1, r1, ty, q1⟩ => ?_)
  obtain ⟨h1, h2⟩ := tyV_is I1 r1 ty
  exact ⟨T, id, pa, slot, hty, h1, h2, Calls.callWith_builtin rfl (PySem.evalArgs_none (hm pins s1 σ H1 x [] v [] Q I1 r1 .nil q1))⟩
theorem pe_bm (pa : PlainAttrs T) (slot : Slot T name id) (hty : typeOf (.builtin id) = pure (.type "method_descriptor")) (hm : MtR X id r) (ho : PE X o to) (ha : PA X (e :: es) t)
    (hbase : attributeBase o name X.env (eval o X.env) = eval o X.env := by rfl)
    (hfew : ((backTo cpos (starEach (e :: es) X.env)).all (fun x => !x.1) && (backToKw cpos (keywordEach [] X.env)).all (fun x => x.1.isSome)
      && decide ((e :: es).length + ([] : List Keyword).length + (if ([] : List Keyword).isEmpty then 0 else 1) < 30)) = true := by rfl)
    (hline : (apos.endLine == cpos.line) = true := by rfl) (hs : starEach (e :: es) X.env = (false, eval e X.env) :: starEach es X.env := by rfl) (hplain : (backTo cpos (starEach es X.env)).any (·.1) = false := by rfl) :
    PE X (.Call (.Attribute o name apos) (e :: es) [] cpos) (tBM X.K T r to t) := by
  intro pins s σ H Q I h
  refine wpAny_Call_method_late hbase hfew hline rfl (thn (ho pins s σ H _ I h) fun v s1 ⟨x, H1, I1, r1, ty, q1⟩ => ?_)
  obtain ⟨h1, h2⟩ := tyV_is I1 r1 ty
  refine ⟨T, id, pa, slot, hty, h1, h2, ?_⟩
  have hA := ha cpos pins s1 σ H1 _ I1 q1
  rw [hs] at hA ⊢
  refine Calls.callWith_builtin (by show (false || (backTo cpos (starEach es X.env)).any (·.1)) = false; rw [hplain] <;> rfl) (Calls.evalArgs_plain ?_)
  exact thn hA fun us s2 ⟨vs, H2, I2, r2, q2⟩ => hm pins s2 σ H2 x vs v us Q I2 r1 r2 q2
/- xs.append(e), list.index on a module's tuple .. are MtR facts of 06m -/
end
end L2

namespace L2
open PySem PySem.Spec PyProof.Rows

noncomputable def MtM (X : Cx) (id : String) (r : V → List V → Hp → VK → Prop) : Prop :=
  ∀ (pins : List (Addr × Obj)) (s : Shared) (σ : St) (H : Hp) (x : V) (xs : List V) (v : Value) (us : List Value) (Q : VK), Inv X pins σ H s → RelV x v → Vals xs us → r x xs H Q →
    wpAny (model X.prog X.w) X.A (call (.builtin id) (v :: us)) (EP X pins σ Q) X.xe s

theorem Vals.one : ∀ {x : V} {us : List Value}, Vals [x] us → ∃ u, us = [u] ∧ RelV x u
  | _, _, .cons r .nil => ⟨_, rfl, r⟩
theorem Vals.two : ∀ {x y : V} {us : List Value}, Vals [x, y] us → ∃ u v, us = [u, v] ∧ RelV x u ∧ RelV y v
  | _, _, _, .cons r (.cons q .nil) => ⟨_, _, rfl, r, q⟩
theorem Vals.zero : ∀ {us : List Value}, Vals [] us → us = []
  | _, .nil => rfl
theorem Vals.dropLast {xs : List V} {us : List Value} (h : Vals xs us) : Vals xs.dropLast us.dropLast := by
  induction h with
  | nil => exact .nil
  | cons r t ih =>
    cases t with
    | nil => exact .nil
    | cons q t' => exact .cons r ih
theorem Vals.eraseIdx : ∀ {xs : List V} {us : List Value} (i : Nat), Vals xs us → Vals (xs.eraseIdx i) (us.eraseIdx i)
  | _, _, _, .nil => .nil
  | _, _, 0, .cons _ t => t
  | _, _, i + 1, .cons r t => .cons r (Vals.eraseIdx i t)
theorem Vals.reverse {xs : List V} {us : List Value} (h : Vals xs us) : Vals xs.reverse us.reverse := by
  induction h with
  | nil => exact .nil
  | cons r t ih => rw [List.reverse_cons, List.reverse_cons]; exact Vals.append ih (.cons r .nil)
theorem len_erase {α : Type} : ∀ (l : List α) (i : Nat), (l.eraseIdx i).length ≤ l.length
  | [], _ => Nat.le_refl _
  | _ :: _, 0 => Nat.le_succ _
  | _ :: r, i + 1 => Nat.succ_le_succ (len_erase r i)
section
variable {X : Cx} {pins : List (Addr × Obj)} {σ : St} {H : Hp} {s : Shared} {l b : Addr} {xs ys zs : List V}

theorem Inv.lset {its its' : List Value} {n : Nat} {f : Array Value → Array Value} {t' : Nat} (I : Inv X pins σ H s) (hH : H l = some (.lst xs))
    (e : s.heap.get? l = some { cls := .type "list", data := .seq its.toArray n }) (hf : f its.toArray = its'.toArray) (hv : Vals ys its') (hz : ys.length ≤ sizeLine) :
    Inv X pins σ (upd H l (.lst ys)) { s with heap := s.heap.update l (Obj.mapSeq f), toks := t' } := by
  have q := PySem.IsL.update e f
  rw [hf] at q
  refine I.write (x := l) (e := l) (by rw [hH]; exact trivial) (.inl rfl) (fun b' u hb hu => (Heap.get?_update_other s.heap (Obj.mapSeq f) (Ne.symm hb)).trans hu) ⟨_, q⟩ ?_
  exact ⟨hz, its', _, hv, q⟩
theorem Inv.lnew {its : List Value} {t' : Nat} (I : Inv X pins σ H s) (hv : Vals ys its) (hz : ys.length ≤ sizeLine) :
    Inv X pins σ (upd H s.heap.objs.size (.lst ys)) { s with heap := s.heap.push { cls := .type "list", data := .seq its.toArray }, toks := t' } :=
  I.laid (fun _ _ q => Heap.get?_push_of_some _ q) (Nat.le_refl _) ⟨hz, its, 0, hv, Heap.get?_push_size _ rfl⟩
theorem Inv.fresh (I : Inv X pins σ H s) : H s.heap.objs.size = none := I.hok.fresh (Nat.le_refl _)
theorem Inv.lstM (I : Inv X pins σ H s) (hH : H l = some (.lst xs)) : xs.length ≤ sizeLine ∧ ∃ (its : List Value) (n : Nat), Vals xs its ∧ xs.length = its.length ∧ s.heap.get? l = some { cls := .type "list", data := .seq its.toArray n } := by
  obtain ⟨z, its, n, r, e⟩ := I.hok l _ hH
  exact ⟨z, its, n, r, r.length, e⟩

theorem notLongL {n : Nat} (h : n ≤ sizeLine) : Builtin.List.listTooLong n = false := by
  unfold Builtin.List.listTooLong
  exact decide_eq_false (by omega)
end

section
variable {X : Cx}

noncomputable def rAppend : V → List V → Hp → VK → Prop := fun x vs H Q => ∃ l xs y, x = .ref l ∧ vs = [y] ∧ H l = some (.lst xs) ∧ xs.length < sizeLine ∧ Q .non (upd H l (.lst (xs ++ [y])))
theorem mt_append : MtM X "list.append" rAppend := by
  intro pins s σ H x vs v us Q I rx rv h
  obtain ⟨l, xs, y, rfl, rfl, hH, hz, q⟩ := h
  cases rx
  obtain ⟨u, rfl, ru⟩ := rv.one
  obtain ⟨z, its, n, r, hl, e⟩ := I.lstM hH
  refine call_meets F.slot_list_append ⟨_, e, rfl⟩ F.entry_list_append (F.args_list_append_2 _ _) (PySem.list_append l its.toArray n u (by rw [List.size_toArray]; omega)) ⟨e, ?_⟩
  refine ⟨.non, _, I.lset (its' := its ++ [u]) hH e (by simp) (r.append (.cons ru .nil)) ?_, rfl, q⟩
  rw [List.length_append, List.length_singleton]
  omega

noncomputable def rExtend : V → List V → Hp → VK → Prop := fun x vs H Q => ∃ l b xs zs, x = .ref l ∧ vs = [.ref b] ∧ H l = some (.lst xs) ∧ H b = some (.lst zs) ∧ xs.length + zs.length ≤ sizeLine ∧ Q .non (upd H l (.lst (xs ++ zs)))
theorem mt_extend : MtM X "list.extend" rExtend := by
  intro pins s σ H x vs v us Q I rx rv h
  obtain ⟨l, b, xs, zs, rfl, rfl, hH, hB, hz, q⟩ := h
  cases rx
  obtain ⟨u, rfl, ru⟩ := rv.one
  cases ru
  obtain ⟨z, its, n, r, hl, e⟩ := I.lstM hH
  obtain ⟨z2, its2, n2, r2, hl2, e2⟩ := I.lstM hB
  have hsz : its.toArray.size + its2.toArray.size ≤ sizeLine := by rw [List.size_toArray, List.size_toArray]; omega
  have hlong : ¬ (!its.toArray.isEmpty && Builtin.List.listTooLong (its.toArray.size + its2.toArray.size)) = true := by
    rw [notLongL hsz, Bool.and_false]
    exact Bool.false_ne_true
  refine call_meets F.slot_list_extend ⟨_, e, rfl⟩ F.entry_list_extend (F.args_list_extend_2 _ _)
    (AutoSeq1.list_extend_list_list_0 l its.toArray n b its2.toArray n2 hlong (by rw [List.size_toArray]; omega) (by omega)) ⟨e, e2, ?_⟩
  refine ⟨.non, _, I.lset (its' := its ++ its2) hH e (by simp) (r.append r2) ?_, rfl, q⟩
  rw [List.length_append]
  omega

noncomputable def rPopAt : V → List V → Hp → VK → Prop := fun x vs H Q => ∃ l xs i k y, x = .ref l ∧ vs = [.int i] ∧ H l = some (.lst xs) ∧ -(2 ^ 63) ≤ i ∧ i < 2 ^ 63 ∧ seqIndex? i xs.length = some k ∧ xs[k]? = some y ∧ Q y (upd H l (.lst (xs.eraseIdx k)))
theorem mt_popAt : MtM X "list.pop" rPopAt := by
  intro pins s σ H x vs v us Q I rx rv h
  obtain ⟨l, xs, i, k, y, rfl, rfl, hH, h1, h2, hk, hy, q⟩ := h
  cases rx
  obtain ⟨u, rfl, ru⟩ := rv.one
  obtain ⟨t, rfl⟩ := ru
  obtain ⟨z, its, n, r, hl, e⟩ := I.lstM hH
  obtain ⟨w, hw, rw'⟩ := r.get hy
  refine call_meets F.slot_list_pop ⟨_, e, rfl⟩ F.entry_list_pop (F.args_list_pop_2 _ _)
    (MeetsSeq.list_pop_at l its.toArray n i t k w (fitsIndex_both h1 h2) (by rw [List.size_toArray, ← hl]; exact hk) (by rw [← Array.getElem?_toList]; exact hw) (by rw [List.size_toArray]; omega)) ⟨e, ?_⟩
  refine ⟨y, _, I.lset (its' := its.eraseIdx k) hH e ?_ (r.eraseIdx k) ?_, rw', q⟩
  · show its.toArray.eraseIdxIfInBounds k = (its.eraseIdx k).toArray
    rw [List.eraseIdxIfInBounds_toArray]
  · have := len_erase xs k
    omega

noncomputable def rCat : R2 := fun x y H Q => ∃ l b xs zs, x = .ref l ∧ y = .ref b ∧ H l = some (.lst xs) ∧ H b = some (.lst zs) ∧ xs.length + zs.length ≤ sizeLine ∧ ∀ p, H p = none → Q (.ref p) (upd H p (.lst (xs ++ zs)))
theorem op_cat : OpR X (binaryOp .Add) rCat := by
  intro pins s σ H x y v u Q I rx ry h
  obtain ⟨l, b, xs, zs, rfl, rfl, hH, hB, hz, q⟩ := h
  cases rx
  cases ry
  obtain ⟨z, its, n, r, hl, e⟩ := I.lstM hH
  obtain ⟨z2, its2, n2, r2, hl2, e2⟩ := I.lstM hB
  refine PySem.P.add_list e e2 ?_ (by rw [List.size_toArray, List.size_toArray]; omega)
  have ea : its.toArray ++ its2.toArray = (its ++ its2).toArray := by simp
  rw [ea]
  exact ⟨.ref _, _, I.lnew (t' := s.toks) (r.append r2) (by rw [List.length_append]; omega), rfl, q _ I.fresh⟩
end

section
variable {prog : Program} {w : World} {A : Around} {E : Value → Shared → Prop} {s : Shared}
end

section
variable {X : Cx}
end
end L2

namespace Att
open PySem PySem.W PySem.Calls PyProof.Rows

theorem ints_of_wellAll {P : Params} {h : Heap} : ∀ (ns : List Int) (vs : List Value), WellAll P h vs (ns.map WData.int) → IntsAre vs ns := by
  intro ns
  induction ns with
  | nil =>
    intro vs w
    rw [List.map_nil] at w
    cases w
    exact .nil
  | cons n ns ih =>
    intro vs w
    rw [List.map_cons] at w
    cases w with
    | cons a b =>
      cases a
      exact .cons _ _ (ih _ b)

theorem script_of {l : OpenLaw} {n : Nat} (hn : l.most = some n) {P : Params} {h : Heap} {args : List WData} {vals : List Value}
    (hpre : l.row.toRowW.claim.pre args = true) (hwl : WellAll P h vals args) :
    ∃ a vs ns, vals = [Value.ref a] ∧ args = [WData.list (ns.map WData.int)] ∧ h.get? a = some { cls := .type "list", data := .seq vs.toArray } ∧ IntsAre vs ns ∧ ns.length ≤ n := by
  have hsh : WShape.hasAll [] args [.list .int] = true := (pre_splitW hpre).1
  have hc : l.pre.holds [] { args := args } = true := (pre_splitW hpre).2
  obtain ⟨d, r, rfl, h1, h2⟩ := hasAllW_cons hsh
  obtain rfl := hasAllW_nil h2
  obtain ⟨xs, rfl, h3⟩ := hasW_list h1
  obtain ⟨ns, rfl⟩ := items_int h3
  have hlen : ns.length ≤ n := by
    unfold OpenLaw.pre at hc
    have h4 : (WTm.not (.lt (.lit (.int (n : Int))) (.len (.arg 0)))).holds [] { args := [.list (ns.map .int)] } = true := by
      have h4 := (holds_andW hc).1
      rw [hn] at h4
      exact h4
    have h5 := condW_of h4 (w_not (w_lt w_lit (w_len_list (w_arg rfl))))
    rw [List.length_map] at h5
    refine Nat.le_of_not_lt fun q => ?_
    have q' : (n : Int) < ((ns.length : Nat) : Int) := by omega
    first
      | (rw [decide_eq_true q'] at h5; exact absurd h5 (by decide))
      | (simp at h5; omega)
  cases hwl with
  | cons w1 w2 =>
    cases w2
    cases w1 with
    | list ho hall => exact ⟨_, _, ns, rfl, rfl, ho, ints_of_wellAll ns _ hall, hlen⟩

theorem post_true (l : OpenLaw) (args : List WData) : l.row.toRowW.claim.post args (.bool true) args = true :=
  postW_of (r := l.row.toRowW) (X := (true == true))
    (show WShape.has [] (.bool true) .bool = true by first | rfl | decide | simp [WShape.has, WShape.arms, WShape.armsAll])
    (show (WTm.eq .res (.lit (.bool true))).value [] { args := args, res := some (.bool true), after := args } = some (.bool (true == true)) from w_eq_bool (w_res rfl) w_lit) rfl

theorem attach_call {l : OpenLaw} {n : Nat} {q : Program} {loose : List Str} {XP : (Str → Option Value) → Heap → Prop} {YP : World → Heap → Prop} {d : DefRec}
    (hn : l.most = some n) (hdf : d.params.defaults = [])
    (call : ∀ (w : World) (s₀ s₁ : Shared) (mg mb : Str → Option Value) (fa : Addr) (o : Obj) (pm cd doc : Value) (a : Addr) (vs : List Value) (ns : List Int),
      Ground q loose [] XP w s₀ mg mb s₁.heap → YP w s₁.heap →
      s₁.heap.get? fa = some o → o.data = .func (docDef d.name d.params d.body d.scope pm cd doc) → s₁.heap.CodeRec cd d.name → mg d.name = some (.ref fa) →
      s₁.heap.get? a = some { cls := .type "list", data := .seq vs.toArray } → IntsAre vs ns → ns.length ≤ n → s₁.gens = #[] →
      codeAny (model l.prog w) callerA (.call (.ref fa) ⟨[.ref a], []⟩) (fun r s' => r = .ok (.ret (.bool true)) ∧ OldK s₁.heap s'.heap ∧ s'.os = s₁.os ∧ AllBare s'.gens) s₁) :
    WalkO q loose XP YP l.row.toRowW d [] (fun f vs => PySem.call f vs) := by
  intro w s₀ s₁ mg mb G Y fa o pm cd doc dV kV ho hd hcd hD hmg hg args vals as hpre hlay hrd hwl hlo
  obtain rfl : dV = .none := Dflts.none hD hdf
  obtain rfl : kV = .none := Dflts.noKw hD
  obtain ⟨a, vs, ns, rfl, rfl, hobj, hints, hlen⟩ := script_of hn hpre hwl
  refine enter_call (codeAny_mono (call w s₀ s₁ mg mb fa o pm cd doc a vs ns G Y ho (fd_plain hd) hcd hmg hobj hints hlen hg) fun r s' hq => ?_)
  obtain ⟨rfl, h2, h3, h4⟩ := hq
  exact ⟨.inl ⟨.bool true, .bool true, [], rfl, fun _ => rfl, .bool true, post_true l _, fun _ => ⟨List.Pairwise.nil, fun _ hm => (nomatch hm)⟩⟩, h2, h3, h4⟩

section
variable {prog : Program} {w : World} {A : Around} {E : Value → Shared → Prop} {s : Shared} {K : Frag}

noncomputable def ledger (h : Heap) (L d : Addr) : List (Addr × Obj) := (List.range h.objs.size).filterMap fun a => if a = L ∨ a = d then none else (h.get? a).map fun o => (a, o)
end
end Att

namespace L2
open PySem PySem.Spec PyProof.Rows

theorem vals_ints : ∀ {vs : List Value} {ns : List Int}, IntsAre vs ns → Vals (ns.map V.int) vs
  | _, _, .nil => .nil
  | _, _, .cons n t h => .cons ⟨t, rfl⟩ (vals_ints h)

noncomputable def Only (H : Hp) : Prop := ∀ b, H b = none ∨ ∃ o xs, H b = some (.frz o (.lst xs))

theorem law_call {P : Program} {w : World} {K : PySem.W.Frag} {mg mb : Str → Option Value} {CX : CXT} {k : Nat} {fa a : Addr} {fd : FuncData} {x : Str} {sp : Sp} {s₁ : Shared} {vs : List Value} {ns : List Int}
    (KX : K.In s₁.heap) (hns : s₁.heap.Ns mainGlobals mg) (hb : s₁.heap.Ns builtinsNs mb) (hbb : ∀ x : Str, x ≠ "__name__" → mb x = bootBuiltins x) (hlim : s₁.heap.NoLimit) (hg : s₁.gens = #[])
    (ha : s₁.heap.get? a = some { cls := .type "list", data := .seq vs.toArray }) (hi : IntsAre vs ns) (hl : ns.length ≤ sizeLine) (hr : Room k callerA)
    (F : ∀ base : Heap, K.In base → base.Ns mainGlobals mg → FnOk P w K mg base CX k fa fd [x] sp) (hbind : ∀ (s : Shared) (u : Value), BindsTo s fd ⟨[u], []⟩ [(x, u)])
    (hsp : ∀ H : Hp, Only H → SqL K H a (ns.map V.int) → sp [.ref a] H (fun v _ => v = .bl true) fun _ _ _ => False)
    (hCX : ∀ H e s', CX [] H s₁ (fun _ _ _ => False) e s' → False) :
    codeAny (model P w) callerA (.call (.ref fa) ⟨[.ref a], []⟩) (fun r s' => r = .ok (.ret (.bool true)) ∧ OldK s₁.heap s'.heap ∧ s'.os = s₁.os ∧ AllBare s'.gens) s₁ := by
  have rv := vals_ints hi
  have lenV := hi.length
  -- from an abstract heap in which nothing but the script may be tracked
  have core : ∀ H : Hp, Only H → SqL K H a (ns.map V.int) → HOk P w H s₁.heap → (∀ b, H b ≠ none → b = a) → (H a ≠ none → K.lookup a = none) →
      codeAny (model P w) callerA (.call (.ref fa) ⟨[.ref a], []⟩) (fun r s' => r = .ok (.ret (.bool true)) ∧ OldK s₁.heap s'.heap ∧ s'.os = s₁.os ∧ AllBare s'.gens) s₁ := by
    intro H hO hS hok hA hK
    have base_of : ∀ {b : Addr} {o : Obj}, s₁.heap.get? b = some o → H b = none → (hidT s₁.heap H).get? b = some o := fun e n => hidT_get e n
    have noA : ∀ {b : Addr} {o : Obj} {es : Array DictEntry} {ep : Nat}, s₁.heap.get? b = some o → o.data = .dict es ep → H b = none := fun {b o es ep} e d => by
      cases q : H b with
      | none => rfl
      | some u =>
        have e' : b = a := hA b (by rw [q]; simp)
        subst e'
        rw [ha] at e; cases e
        have d' : Data.seq vs.toArray _ = Data.dict es ep := d
        cases d'
    have nsK : ∀ {b : Addr} {m : Str → Option Value}, s₁.heap.Ns b m → (hidT s₁.heap H).Ns b m := fun {b m} ⟨o, es, ep, e, d, r⟩ => ⟨o, es, ep, base_of e (noA e d), d, r⟩
    have hKb : K.In (hidT s₁.heap H) := fun b o e => base_of (KX b o e) (by
      cases q : H b with
      | none => rfl
      | some u =>
        have e' : b = a := hA b (by rw [q]; simp)
        subst e'
        rw [hK (by rw [q]; simp)] at e; cases e)
    have hM : Mod K mg (hidT s₁.heap H) := ⟨hKb, nsK hns, ⟨mb, nsK hb, hbb⟩, let ⟨mc, h1, h2⟩ := hlim; ⟨mc, nsK h1, h2⟩⟩
    have e0 : Env0 P w K mg (hidT s₁.heap H) callerA [] s₁ H := ⟨rfl, hM, fun b o e => of_hidT e, Nat.le_of_eq (hidT_size _ _), trivial, fun b hb => absurd (show b ∈ ([] : List Addr) from hb) (by simp), hok, .of_eq hg⟩
    refine codeAny_mono ((F _ hKb (nsK hns)).run callerA [] s₁ H ⟨[.ref a], []⟩ [.ref a] [.ref a] _ _ hr e0 (hbind s₁ (.ref a)) (.cons rfl .nil) (hsp H hO hS)) fun r s' h => ?_
    cases r with
    | error e => exact (hCX H e s' h).elim
    | ok fl =>
      cases fl with
      | next => exact False.elim h
      | brk => exact False.elim h
      | cont => exact False.elim h
      | ret u =>
        obtain ⟨v, H', os, bare, un, hok', r', q⟩ := h
        have q' : v = .bl true := q
        subst q'
        obtain rfl : u = Value.bool true := r'
        refine ⟨rfl, OldK.of_keep fun b o e => ?_, os, bare⟩
        cases q : H b with
        | none => exact un.keep b o e q (by intro z; exact absurd (show b ∈ ([] : List Addr) from z) (by simp)) (by simp)
        | some u =>
          rcases hO b with z | ⟨ob, xs, z⟩
          · rw [q] at z; cases z
          · have z2 := un.frzs b ob _ z
            obtain ⟨e1, _⟩ := hok b _ z
            obtain ⟨e2, _⟩ := hok' b _ z2
            rw [e] at e1; cases e1
            exact e2
  cases hk : K.lookup a with
  | some o =>
    -- the script is one of the module's own objects
    have e := KX a o hk
    rw [ha] at e
    cases e
    refine core (fun _ => none) (fun _ => .inl rfl) (.inr ⟨_, vs.toArray, _, hk, rfl, rfl, rfl, by rw [List.size_toArray, lenV]; exact hl, by simpa using rv⟩) (fun b u z => by have z' : (none : Option HO) = some u := z; cases z') (fun b z => absurd rfl z) fun z => absurd rfl z
  | none =>
    refine core (fun b => if b = a then some (.frz { cls := .type "list", data := .seq vs.toArray } (.lst (ns.map V.int))) else none) (fun b => ?_) (.inl (.inr ⟨{ cls := .type "list", data := .seq vs.toArray }, if_pos rfl⟩)) (fun b u z => ?_) (fun b z => ?_) fun _ => hk
    · by_cases hb : b = a
      · exact .inr ⟨_, _, if_pos hb⟩
      · exact .inl (if_neg hb)
    · by_cases hb : b = a
      · have z' := (if_pos hb).symm.trans z
        cases z'
        subst hb
        exact ⟨ha, by rw [List.length_map]; exact hl, vs, _, rv, ha⟩
      · have z' := (if_neg hb).symm.trans z
        cases z'
    · by_cases hb : b = a
      · exact hb
      · exact absurd (if_neg hb) z
end L2

namespace L2
open PySem PySem.Spec PyProof.Rows

noncomputable abbrev KOf {K : PySem.W.Frag} {h : Heap} (_ : K.In h) : PySem.W.Frag := K

theorem walk_of {l : PySem.W.OpenLaw} {n k : Nat} {q : Program} {loose : List Str} {XP : (Str → Option Value) → Heap → Prop} {YP : World → Heap → Prop} {d : DefRec} {K : Params → PySem.W.Frag} {CX : World → CXT} {sp : World → Sp} {x : Str}
    (hn : l.most = some n) (hn2 : n ≤ sizeLine) (hdf : d.params.defaults = []) (hr : Room k callerA)
    (hY : ∀ (w : World) (h : Heap), YP w h → (K w.params).In h)
    (F : ∀ (w : World) (mg : Str → Option Value) (fa : Addr) (h : Heap), (K w.params).In h → h.Ns mainGlobals mg → mg d.name = some (.ref fa) →
      ∃ fd : FuncData, (∀ (s : Shared) (u : Value), BindsTo s fd ⟨[u], []⟩ [(x, u)]) ∧
        ∀ base : Heap, (K w.params).In base → base.Ns mainGlobals mg → FnOk l.prog w (K w.params) mg base (CX w) k fa fd [x] (sp w))
    (hsp : ∀ (w : World) (H : Hp) (a : Addr) (ns : List Int), ns.length ≤ n → Only H → SqL (K w.params) H a (ns.map V.int) → sp w [.ref a] H (fun v _ => v = .bl true) fun _ _ _ => False)
    (hCX : ∀ (w : World) (H : Hp) (s : Shared) (e : Value) (s' : Shared), CX w [] H s (fun _ _ _ => False) e s' → False) :
    PySem.W.WalkO q loose XP YP l.row.toRowW d [] (fun f vs => PySem.call f vs) := by
  refine Att.attach_call hn hdf fun w s₀ s₁ mg mb fa o pm cd doc a vs ns G Y ho hd hcd hmg hobj hints hlen hg => ?_
  have KX := hY w _ Y
  obtain ⟨fd, hb, hF⟩ := F w mg fa _ KX G.T.g hmg
  exact law_call KX G.T.g G.T.b G.T.builtins G.T.nolimit hg hobj hints (Nat.le_trans hlen hn2) hr hF hb (fun H hO hS => hsp w H a ns hlen hO hS) fun H e s' => hCX w H s₁ e s'
end L2

/- THE LAST THEOREM (shape; LID, My.* are yours):
   My.Adr: a structure of the addresses that your layer names (classes, functions); My.Txt K t: a structure (Prop) of the equations over K;
   My.txt_mk : {K} {implicit addresses ..} (e1 : nsIn K mainGlobals "law" = some (some (.ref f))) (e2 : K.lookup f = some ⟨oc, od, .func (fnOf "law" "law" params body scope dV kV doc pm an cdv ct), sl⟩) (e3 : codeIn K cdv "law" = true) .. : ∃ t, My.Txt K t

set_option maxRecDepth 100000 in
set_option maxHeartbeats 0 in
theorem PySem.Challenge.cw_LID_holds : PySem.Challenge.rw_LID.Holds := by
  w_on; o_law; k_head; (case hw => w_witness2)
  k_fill
  refine L2.walk_of (l := PySem.Challenge.rw_LID) (n := 63) (k := 40) (x := "script") (CX := fun w => ..) (sp := fun _ => My.sp_law) rfl (by decide) rfl ⟨rfl, by decide, by decide⟩ (fun w h Y => PySem.W.kIn_of Y) ?F ?S ?C
  case F =>
    intro w mg fa h KX G hmg
    have T : ∃ t, My.Txt (L2.KOf KX) t := by
      dsimp only [L2.KOf]                          -- K must stand as «<heap const> w.params» for k_is
      refine' My.txt_mk ?e1 ?e2 ?e3 ..
      (case e1 => PySem.W.k_is)                    -- in the order: a name -> its address -> its object -> its parts
      (case e2 => PySem.W.k_is)
      ..
    obtain ⟨t, T⟩ := T
    have e0 := hmg.symm.trans (PySem.W.mg_of KX G T.law)
    cases e0                                       -- fa is the law's own address
    exact ⟨_, fun s u => .of_eq rfl, fun base kb nb => My.law_fn T kb nb⟩     -- if «.of_eq rfl» comes too early: refine' ⟨_, ?b, fun base kb nb => My.law_fn T kb nb⟩; exact fun s u => .of_eq rfl
  case S => exact fun w H a ns hl hO hS => ..
  case C => exact ..
(the tactic k_is has no namespace: write k_is) -/

namespace L2
open PySem PySem.Spec PyProof.Rows

noncomputable def defArgs (s : Stmt) : Arguments := match s with
  | .FunctionDef _ a _ _ _ _ _ _ _ _ => a
  | _ => { posonlyargs := [], args := [], vararg := none, kwonlyargs := [], kw_defaults := [], kwarg := none, defaults := [] }
noncomputable def defBody (s : Stmt) : List Stmt := match s with
  | .FunctionDef _ _ b _ _ _ _ _ _ _ => b
  | _ => []
noncomputable def defScope (s : Stmt) : Scope := match s with
  | .FunctionDef _ _ _ _ _ _ sc _ _ _ => sc
  | _ => { kind := .function, names := [], isGenerator := false, isCoroutine := false }

noncomputable abbrev CX0 : CXT := fun _ _ _ _ _ _ => False
noncomputable abbrev E0 : XK := fun _ _ _ => False
theorem pass0 {X : Cx} : Passes CX0 X E0 := fun _ _ _ _ _ _ _ h => h.elim

structure Fun (K : PySem.W.Frag) (x qual : Str) (st : Stmt) (f : Addr) (fd : FuncData) : Prop where
  ex : ∃ (oc : Value) (od : Option Addr) (kV doc pm : Value) (an : Option Addr) (cdv ct : Value) (osl : Array (Option Value)),
    fd = PySem.W.fnOf x qual (defArgs st) (defBody st) (defScope st) .none kV doc pm an cdv ct ∧ K.lookup f = some ⟨oc, od, .func fd, osl⟩ ∧ PySem.W.codeIn K cdv qual = true
  kp : PySem.W.keepIn K (.ref f) = true
section
variable {P : Program} {w : World} {K : PySem.W.Frag} {mg : Str → Option Value} {base : Heap}
theorem Fun.ok {x qual : Str} {st : Stmt} {f : Addr} {fd : FuncData} {N ps : List Str} {k : Nat} {sp : Sp} (F : Fun K x qual st f fd) (S : FnScope N ps (defScope st)) (len : ∀ vs H Q E, sp vs H Q E → vs.length = ps.length)
    (hbody : ∀ (cdv : Value) (A : Around) (outer : List Env) (s : Shared) (H : Hp) (vs : List V) (Q : VK) (E : XK), Room k (A.deeper (envOfC qual (defScope st) s.heap.objs.size f cdv)) → sp vs H Q E →
      ∃ t, PSs (cxOf CX0 P w K mg base N qual (defScope st) f cdv A outer s H E).nox (defBody st) t ∧ t { nx := fun _ H' => Q .non H', rt := Q } (start N vs) H) : FnOk P w K mg base CX0 (k + 1) f fd ps sp := by
  obtain ⟨oc, od, kV, doc, pm, an, cdv, ct, osl, rfl, lk, hcd⟩ := F.ex
  refine fn_of lk hcd S len fun A outer s H vs Q E hr hsp => ?_
  obtain ⟨t, h, q⟩ := hbody cdv A outer s H vs Q E hr hsp
  exact ⟨t, h.nox, q⟩
theorem Fun.binds {x qual : Str} {st : Stmt} {f : Addr} {fd : FuncData} {ps : List Str} (F : Fun K x qual st f fd)
    (h : ∀ (kV doc pm : Value) (an : Option Addr) (cdv ct : Value) (us : List Value), us.length = ps.length → bindArgs (PySem.W.fnOf x qual (defArgs st) (defBody st) (defScope st) .none kV doc pm an cdv ct) ⟨us, []⟩ = pure (ps.zip us)) : Binds K fd ps [] := by
  obtain ⟨oc, od, kV, doc, pm, an, cdv, ct, osl, rfl, lk, hcd⟩ := F.ex
  exact .all (h kV doc pm an cdv ct)
theorem fun_mk {x qual : Str} {st : Stmt} {f : Addr} {oc : Value} {od an : Option Addr} {osl : Array (Option Value)} {kV doc pm cdv ct : Value} (l : K.lookup f = some ⟨oc, od, .func (PySem.W.fnOf x qual (defArgs st) (defBody st) (defScope st) .none kV doc pm an cdv ct), osl⟩)
    (c : PySem.W.codeIn K cdv qual = true) (k : PySem.W.keepIn K (.ref f) = true) : Fun K x qual st f (PySem.W.fnOf x qual (defArgs st) (defBody st) (defScope st) .none kV doc pm an cdv ct) := ⟨⟨oc, od, kV, doc, pm, an, cdv, ct, osl, rfl, l, c⟩, k⟩
end
theorem hu_of {A : Around} {k : Nat} (hr : Room k A) : A.units + 1 < cLine := Nat.lt_of_le_of_lt (Nat.add_le_add_left (by decide : 1 ≤ 64) _) hr.units
section
variable {X : Cx}
theorem pv (i : Nat) {x : Str} {pos : Pos} (hN : X.N[i]? = some x := by rfl) (hv : Vis X.env.scope x := by first | exact Or.inl rfl | exact Or.inr (Or.inl rfl) | exact Or.inr (Or.inr rfl)) (hd : (x == ("__debug__" : Str)) = false := by decide)
    (hcd : (x == ("__classdict__" : Str)) = false := by decide) : PE X (.Name x pos) (tVar i) := pe_var hN hv hd hcd
end

theorem iteF {A B : Prop} (h : B) : if false = true then A else B := by
  rw [if_neg Bool.false_ne_true]
  exact h
theorem iteT {A B : Prop} (h : A) : if true = true then A else B := by
  rw [if_pos rfl]
  exact h
theorem ite2 {c A B : Prop} [Decidable c] (h1 : c → A) (h2 : ¬ c → B) : if c then A else B := by
  by_cases h : c
  · rw [if_pos h]
    exact h1 h
  · rw [if_neg h]
    exact h2 h
noncomputable def Same (H H' : Hp) : Prop := ∀ b o, H b = some o → H' b = some o
theorem Same.refl (H : Hp) : Same H H := fun _ _ h => h
theorem Same.trans {H H1 H2 : Hp} (a : Same H H1) (b : Same H1 H2) : Same H H2 := fun c o h => b c o (a c o h)
theorem Same.free {H H' : Hp} (e : Same H H') {l : Addr} (h : H' l = Option.none) : H l = Option.none := by
  cases q : H l with
  | none => rfl
  | some o =>
    rw [e l o q] at h
    cases h
theorem Same.seq {K : PySem.W.Frag} {H H' : Hp} {a : Addr} {xs : List V} (e : Same H H') (h : SqL K H a xs) : SqL K H' a xs := by
  rcases h with (h | ⟨o, h⟩) | h
  · exact .inl (.inl (e _ _ h))
  · exact .inl (.inr ⟨o, e _ _ h⟩)
  · exact .inr h

end L2
namespace L2
open PySem PySem.Spec PyProof.Rows

noncomputable def clOf (env : Env) : List (Str × NameKind) → List (Str × Addr) → List (Str × Addr)
  | [], acc => acc
  | (n, k) :: r, acc => clOf env r (if k == .free then (match env.cells.lookup n with | some a => (n, a) :: acc | none => acc) else acc)
theorem closureFor_loop {env : Env} : ∀ (names : List (Str × NameKind)) (acc : List (Str × Addr)), (∀ y ∈ names, y.2 = .free → ∃ c, env.cells.lookup y.1 = some c) →
    (forIn names acc fun (x : Str × NameKind) (cs : List (Str × Addr)) => (if (x.2 == NameKind.free) = true then do let a ← cellOf env x.1; pure (ForInStep.yield ((x.1, a) :: cs)) else pure (ForInStep.yield cs) : Sem (ForInStep (List (Str × Addr))))) = pure (clOf env names acc)
  | [], acc, _ => rfl
  | (n, k) :: r, acc, h => by
    rw [List.forIn_cons]
    have hr : ∀ y ∈ r, y.2 = .free → ∃ c, env.cells.lookup y.1 = some c := fun y hy => h y (List.mem_cons_of_mem _ hy)
    cases hk : (k == NameKind.free) with
    | false =>
      have e1 : clOf env ((n, k) :: r) acc = clOf env r acc := by
        show clOf env r (if (k == NameKind.free) = true then (match env.cells.lookup n with | some a => (n, a) :: acc | none => acc) else acc) = _
        rw [hk, if_neg Bool.false_ne_true]
      rw [e1, ← closureFor_loop r acc hr]
      simp only [hk, Bool.false_eq_true, if_false, pure_bind]
    | true =>
      obtain ⟨c, hc⟩ := h (n, k) List.mem_cons_self (by simpa using hk)
      have e1 : clOf env ((n, k) :: r) acc = clOf env r ((n, c) :: acc) := by
        have hc' : env.cells.lookup n = some c := hc
        show clOf env r (if (k == NameKind.free) = true then (match env.cells.lookup n with | some a => (n, a) :: acc | none => acc) else acc) = _
        rw [hk, hc', if_pos rfl]
      have e2 : cellOf env n = pure c := by
        have hc' : env.cells.lookup n = some c := hc
        unfold cellOf
        rw [hc']
      rw [e1, ← closureFor_loop r ((n, c) :: acc) hr]
      simp only [hk, if_true, e2, pure_bind]
theorem closureFor_cl {scope : Scope} {env : Env} (h : ∀ y ∈ scope.names, y.2 = .free → ∃ c, env.cells.lookup y.1 = some c) : closureFor scope env = pure (clOf env scope.names []) := by
  have e := closureFor_loop scope.names [] h
  simp only [closureFor]
  rw [e]
  rfl
theorem clOf_from {env : Env} {x : Str} {c : Addr} : ∀ (names : List (Str × NameKind)) (acc : List (Str × Addr)), (∀ y d, acc.lookup y = some d → env.cells.lookup y = some d) → (clOf env names acc).lookup x = some c → env.cells.lookup x = some c
  | [], acc, ha, h => ha x c h
  | (n, k) :: r, acc, ha, h => by
    refine clOf_from r _ (fun y d q => ?_) h
    by_cases hk : (k == NameKind.free) = true
    · rw [if_pos hk] at q
      cases e : env.cells.lookup n with
      | none => rw [e] at q; exact ha y d q
      | some a =>
        rw [e] at q
        have q' : List.lookup y ((n, a) :: acc) = some d := q
        rw [List.lookup_cons] at q'
        cases hy : (y == n) with
        | true =>
          rw [hy] at q'
          have : y = n := by simpa using hy
          subst this
          rw [e]; exact q'
        | false => rw [hy] at q'; exact ha y d q'
    · rw [if_neg hk] at q; exact ha y d q
theorem clOf_acc {env : Env} {x : Str} : ∀ (names : List (Str × NameKind)) (acc : List (Str × Addr)), (∃ c, acc.lookup x = some c) → ∃ c, (clOf env names acc).lookup x = some c
  | [], acc, h => h
  | (n, k) :: r, acc, ⟨c, hc⟩ => by
    refine clOf_acc r _ ?_
    by_cases hk : (k == NameKind.free) = true
    · rw [if_pos hk]
      cases e : env.cells.lookup n with
      | none => exact ⟨c, hc⟩
      | some a =>
        show ∃ c, List.lookup x ((n, a) :: acc) = some c
        rw [List.lookup_cons]
        cases hy : (x == n) with
        | true => exact ⟨a, rfl⟩
        | false => exact ⟨c, hc⟩
    · rw [if_neg hk]; exact ⟨c, hc⟩
theorem clOf_has {env : Env} {x : Str} : ∀ (names : List (Str × NameKind)) (acc : List (Str × Addr)), (∀ y ∈ names, y.2 = .free → ∃ c, env.cells.lookup y.1 = some c) → names.lookup x = some .free → ∃ c, (clOf env names acc).lookup x = some c
  | [], acc, _, h => by simp at h
  | (n, k) :: r, acc, hf, h => by
    have hr : ∀ y ∈ r, y.2 = .free → ∃ c, env.cells.lookup y.1 = some c := fun y hy => hf y (List.mem_cons_of_mem _ hy)
    rw [List.lookup_cons] at h
    cases hy : (x == n) with
    | true =>
      rw [hy] at h
      have hk : k = .free := Option.some.inj h
      subst hk
      have hx : x = n := by simpa using hy
      subst hx
      obtain ⟨c, hc⟩ := hf (x, .free) List.mem_cons_self rfl
      have hc' : env.cells.lookup x = some c := hc
      refine clOf_acc r _ ⟨c, ?_⟩
      rw [if_pos (show (NameKind.free == NameKind.free) = true by decide), hc']
      show List.lookup x ((x, c) :: acc) = some c
      rw [List.lookup_cons]
      simp
    | false =>
      rw [hy] at h
      exact clOf_has r _ hr h

theorem relabel_free {env : Env} : ∀ {names : List (Str × NameKind)} {x : Str}, names.lookup x = some .free →
    ((names.map fun (n, k) => if (k == NameKind.free && env.scope.kind == .function && env.kindOf n == some .cell) then (n, NameKind.cell) else (n, k)).lookup x = some .cell ∨
     (names.map fun (n, k) => if (k == NameKind.free && env.scope.kind == .function && env.kindOf n == some .cell) then (n, NameKind.cell) else (n, k)).lookup x = some .free)
  | [], _, h => by simp at h
  | (n, k) :: r, x, h => by
    have ih := @relabel_free env r x
    show (List.lookup x ((if (k == NameKind.free && env.scope.kind == .function && env.kindOf n == some .cell) = true then (n, NameKind.cell) else (n, k)) :: _) = _ ∨ List.lookup x ((if (k == NameKind.free && env.scope.kind == .function && env.kindOf n == some .cell) = true then (n, NameKind.cell) else (n, k)) :: _) = _)
    cases hx : x == n with
    | true =>
      simp only [List.lookup_cons, hx] at h
      cases h
      by_cases hc : ((NameKind.free == NameKind.free) && env.scope.kind == .function && env.kindOf n == some .cell) = true
      · rw [if_pos hc]; simp [List.lookup_cons, hx]
      · rw [if_neg hc]; simp [List.lookup_cons, hx]
    | false =>
      simp only [List.lookup_cons, hx] at h
      by_cases hc : (k == NameKind.free && env.scope.kind == .function && env.kindOf n == some .cell) = true
      · rw [if_pos hc]; simp only [List.lookup_cons, hx]; exact ih h
      · rw [if_neg hc]; simp only [List.lookup_cons, hx]; exact ih h
theorem relabel_back {env : Env} : ∀ {names : List (Str × NameKind)} {x : Str}, (∀ y ∈ names, y.2 ≠ .cell) →
    ((names.map fun (n, k) => if (k == NameKind.free && env.scope.kind == .function && env.kindOf n == some .cell) then (n, NameKind.cell) else (n, k)).lookup x = some .cell ∨
     (names.map fun (n, k) => if (k == NameKind.free && env.scope.kind == .function && env.kindOf n == some .cell) then (n, NameKind.cell) else (n, k)).lookup x = some .free) → names.lookup x = some .free
  | [], _, _, h => by simp at h
  | (n, k) :: r, x, hn, h => by
    have ih := @relabel_back env r x (fun y hy => hn y (List.mem_cons_of_mem _ hy))
    have hk := hn (n, k) List.mem_cons_self
    have h' : (List.lookup x ((if (k == NameKind.free && env.scope.kind == .function && env.kindOf n == some .cell) = true then (n, NameKind.cell) else (n, k)) :: (r.map fun (n, k) => if (k == NameKind.free && env.scope.kind == .function && env.kindOf n == some .cell) then (n, NameKind.cell) else (n, k))) = some .cell ∨ List.lookup x ((if (k == NameKind.free && env.scope.kind == .function && env.kindOf n == some .cell) = true then (n, NameKind.cell) else (n, k)) :: (r.map fun (n, k) => if (k == NameKind.free && env.scope.kind == .function && env.kindOf n == some .cell) then (n, NameKind.cell) else (n, k))) = some .free) := h
    cases hx : x == n with
    | true =>
      rw [List.lookup_cons, hx]
      by_cases hc : (k == NameKind.free && env.scope.kind == .function && env.kindOf n == some .cell) = true
      · have : (k == NameKind.free) = true := by
          rw [Bool.and_eq_true, Bool.and_eq_true] at hc; exact hc.1.1
        have hk' : k = .free := by simpa using this
        rw [hk']
      · rw [if_neg hc] at h'
        simp only [List.lookup_cons, hx] at h'
        rcases h' with h' | h'
        · exact absurd (Option.some.inj h') hk
        · exact h'
    | false =>
      rw [List.lookup_cons, hx]
      by_cases hc : (k == NameKind.free && env.scope.kind == .function && env.kindOf n == some .cell) = true
      · rw [if_pos hc] at h'; simp only [List.lookup_cons, hx] at h'; exact ih h'
      · rw [if_neg hc] at h'; simp only [List.lookup_cons, hx] at h'; exact ih h'

noncomputable abbrev noE : Value → Shared → Prop := fun _ _ => False
theorem compLoop_gen {prog : Program} {w : World} {A : Around} {R : Result → Shared → Prop} {s : Shared} {elt target iter : Expr} {ifs : List Expr} {scope : Scope} {pos : Pos} {it acc : Value} {env : Env} (I : Nat → Shared → Prop)
    (turn : ∀ n s, I n s → wpAny (model prog w) A (pyNext it) (fun r s₁ => match r with
      | none => R (.ok .next) s₁
      | some v => wpAny (model prog w) A (letOwnedTupleGo target it v) (fun _ s₁' => wpAny (model prog w) A (assign target env v) (fun _ s₂ =>
          wpAny (model prog w) A (forIn ifs true fun c r => if r = true then do let ok ← isTrue c env (eval c env); pure (ForInStep.yield ok) else pure (ForInStep.yield r)) (fun ok s₃ =>
            if ok = true then wpAny (model prog w) A (eval elt env) (fun x s₄ =>
              wpAny (model prog w) A (call (.builtin "list.append") [acc, x]) (fun _ s₅ => ∃ m, m < n ∧ I m s₅) noE s₄) noE s₃
            else ∃ m, m < n ∧ I m s₃) noE s₂) noE s₁') noE s₁) noE s)
    (n : Nat) (h : I n s) : codeAny (model prog w) A (.compLoop (.ListComp elt [⟨target, iter, ifs, 0⟩] scope pos) 0 it acc env) R s := by
  refine codeAny_loop rfl I (fun n s hI => ?_) n h
  show wpAny _ A ((compTurn (.ListComp elt [⟨target, iter, ifs, 0⟩] scope pos) 0 it acc env).onRaise (fun x => do noteFrame x env; theTreesLotGoes x)) _ _ s
  refine wpAny_noted ?_
  rw [compTurn_list]
  have no : ∀ {F : Value → Shared → Prop} (e : Value) (s' : Shared), noE e s' → F e s' := fun _ _ h => h.elim
  refine wpAny_bind (wpAny_standAt (wpAny_bind (wpAny_mono (turn n s hI) (fun r s₁ h₁ => ?_) no)))
  cases r with
  | none => exact wpAny_pure h₁
  | some v =>
    refine wpAny_bind (wpAny_mono h₁ (fun _ s₁' h₁' => ?_) no)
    refine wpAny_bind (wpAny_mono h₁' (fun _ s₂ h₂ => wpAny_bind (wpAny_mono h₂ (fun ok s₃ h₃ => ?_) no)) no)
    cases ok with
    | false => exact wpAny_pure ⟨rfl, h₃⟩
    | true =>
      exact wpAny_bind (wpAny_bind (wpAny_mono h₃ (fun x s₄ h₄ => wpAny_bind (wpAny_mono h₄ (fun _ s₅ h₅ => wpAny_pure (wpAny_pure ⟨rfl, h₅⟩)) no)) no))

noncomputable def cxComp (X : Cx) (scope : Scope) (C : Addr) (Nc : List Str) (s : Shared) (H : Hp) (fp : List Addr) : Cx where
  prog := X.prog
  w := X.w
  K := X.K
  mg := X.mg
  base := X.base
  A := X.A
  N := Nc
  s₀ := s
  H₀ := H
  env := compEnvC scope (clOf X.env scope.names []) C X.env
  outer := X.stack
  stack := X.stack
  ex := fp
  fn := fun _ => false
  calm := X.calm
  pn := []
  xe := noE
noncomputable def IxOk (X : Cx) (scope : Scope) : List Str → List (Option Nat) → Prop
  | [], [] => True
  | _ :: ys, none :: os => IxOk X scope ys os
  | y :: ys, some j :: os => (X.N[j]? = some y ∧ scope.names.lookup y = some .free ∧ (X.env.kindOf y = some .cell ∨ X.env.kindOf y = some .free)) ∧ IxOk X scope ys os
  | _, _ => False
noncomputable def subSt (σ : St) (ix : List (Option Nat)) : St := ix.map fun o => match o with | none => none | some j => (σ[j]?).getD none
noncomputable def Wk : St → St → Prop
  | [], [] => True
  | none :: a, _ :: b => Wk a b
  | some v :: a, w :: b => w = some v ∧ Wk a b
  | _, _ => False
theorem Wk.len : ∀ {a b : St}, Wk a b → a.length = b.length
  | [], [], _ => rfl
  | none :: a, _ :: b, h => congrArg (· + 1) (Wk.len (a := a) (b := b) h)
  | some _ :: a, _ :: b, h => congrArg (· + 1) (Wk.len (a := a) (b := b) h.2)
theorem Wk.get : ∀ {a b : St} {i : Nat} {v : V}, Wk a b → a[i]? = some (some v) → b[i]? = some (some v)
  | [], [], i, v, _, h => by simp at h
  | none :: a, x :: b, 0, v, _, h => by simp at h
  | none :: a, x :: b, i + 1, v, k, h => by
    have := Wk.get (a := a) (b := b) (i := i) (v := v) k (by simpa using h)
    simpa using this
  | some y :: a, x :: b, 0, v, k, h => by
    have e : y = v := by simpa using h
    subst e
    simp [k.1]
  | some y :: a, x :: b, i + 1, v, k, h => by
    have := Wk.get (a := a) (b := b) (i := i) (v := v) k.2 (by simpa using h)
    simpa using this
theorem IxOk.len {X : Cx} {scope : Scope} : ∀ {N : List Str} {ix : List (Option Nat)}, IxOk X scope N ix → ix.length = N.length
  | [], [], _ => rfl
  | _ :: ys, none :: os, h => congrArg (· + 1) (IxOk.len (N := ys) (ix := os) h)
  | _ :: ys, some _ :: os, h => congrArg (· + 1) (IxOk.len (N := ys) (ix := os) h.2)
theorem IxOk.get {X : Cx} {scope : Scope} : ∀ {N : List Str} {ix : List (Option Nat)} {i j : Nat}, IxOk X scope N ix → ix[i]? = some (some j) → ∃ y, N[i]? = some y ∧ X.N[j]? = some y ∧ scope.names.lookup y = some .free ∧ (X.env.kindOf y = some .cell ∨ X.env.kindOf y = some .free)
  | [], [], i, j, _, h => by simp at h
  | y :: ys, none :: os, 0, j, _, h => by simp at h
  | y :: ys, none :: os, i + 1, j, k, h => by
    obtain ⟨z, h1, h2⟩ := IxOk.get (N := ys) (ix := os) (i := i) (j := j) k (by simpa using h)
    exact ⟨z, by simpa using h1, h2⟩
  | y :: ys, some j' :: os, 0, j, k, h => by
    have e : j' = j := by simpa using h
    subst e
    exact ⟨y, by simp, k.1⟩
  | y :: ys, some j' :: os, i + 1, j, k, h => by
    obtain ⟨z, h1, h2⟩ := IxOk.get (N := ys) (ix := os) (i := i) (j := j) k.2 (by simpa using h)
    exact ⟨z, by simpa using h1, h2⟩
theorem subSt_get {σ : St} {ix : List (Option Nat)} {i : Nat} {v : V} (h : (subSt σ ix)[i]? = some (some v)) : ∃ j, ix[i]? = some (some j) ∧ σ[j]? = some (some v) := by
  unfold subSt at h
  rw [List.getElem?_map] at h
  cases e : ix[i]? with
  | none => rw [e] at h; cases h
  | some o =>
    rw [e] at h
    cases o with
    | none => cases h
    | some j =>
      refine ⟨j, rfl, ?_⟩
      have h' : some ((σ[j]?).getD none) = some (some v) := h
      cases q : σ[j]? with
      | none => rw [q] at h'; cases h'
      | some z => rw [q] at h'; cases h'; rfl
end L2
namespace L2
open PySem PySem.Spec PyProof.Rows

theorem comp_start {X : Cx} {pins : List (Addr × Obj)} {σ : St} {H : Hp} {s : Shared} (I : Inv X pins σ H s) {scope : Scope} {Nc : List Str} {ix : List (Option Nat)} (hix : IxOk X scope Nc ix) (hcell : ∀ y ∈ scope.names, y.2 ≠ .cell)
    (hkind : scope.kind = .function) (hfr : ∀ y ∈ scope.names, y.2 = .free → X.env.kindOf y.1 = some .cell ∨ X.env.kindOf y.1 = some .free) {fp : List Addr} (hf : ∀ b ∈ fp, FpOk X pins H b) (hfo : ∀ b ∈ fp, ∃ o, s.heap.get? b = some o)
    {C : Addr} {h' : Heap} {t' : Nat} {m0 : Str → Option Value} (hC : s.heap.objs.size ≤ C) (hns : h'.Ns C m0) (k : ∀ b o, s.heap.get? b = some o → h'.get? b = some o) :
    Inv (cxComp X scope C Nc s H fp) [] (subSt σ ix) H { s with heap := h', toks := t' } := by
  have hfc : ∀ y ∈ scope.names, y.2 = .free → ∃ c, X.env.cells.lookup y.1 = some c := fun y hy e => I.ok.has y.1 (hfr y hy e)
  have from_ : ∀ {x : Str} {c : Addr}, (clOf X.env scope.names []).lookup x = some c → X.env.cells.lookup x = some c := fun {x c} e => clOf_from scope.names [] (fun y d q => by simp at q) e
  refine ⟨⟨I.ok.mod, hkind, I.ok.glob, I.ok.blt, hC, fun x y c h1 h2 => I.ok.inj x y c (from_ h1) (from_ h2), fun x hx => ?_, fun x c h => ?_, I.ok.hd, I.ok.frames, .inl rfl, fun b hb => ?_, I.bs, Nat.le_trans I.ok.bsz I.sz, fun b o e hb => ?_, fun b hb hs => ?_, I.stack, I.stkFree⟩,
    rfl, I.bare, Un.kept k, ⟨m0, hns, fun i x v h1 h2 h3 => ?_⟩, fun x c e => ?_, I.hok.fresh hC, fun x c e => I.freeC x c (from_ e), fun p hp => absurd (show p ∈ ([] : List (Addr × Obj)) from hp) (by simp), I.hok.kept k, ?_⟩
  · have hx' : scope.names.lookup x = some .free := relabel_back hcell hx
    exact clOf_has scope.names [] hfc hx'
  · exact absurd (show false = true from h) (by decide)
  · refine ⟨?_, fun x c e => (hf b hb).2.2.2.2.1 x c (from_ e)⟩
    obtain ⟨o, ho⟩ := hfo b hb
    exact Nat.ne_of_lt (Nat.lt_of_lt_of_le (Heap.lt_size ho) hC)
  · rcases (hf b hb).2.2.2.1 with z | z
    · exact I.ok.noex b o e z
    · exact absurd (Nat.lt_of_lt_of_le (Heap.lt_size e) (Nat.le_trans I.ok.bsz z)) (Nat.lt_irrefl _)
  · rcases List.mem_cons.mp (I.stkSub b hs) with z | z
    · exact (hf b hb).2.1 z
    · exact (hf b hb).2.2.1 z
  · obtain ⟨j, e1, e2⟩ := subSt_get h2
    obtain ⟨y, y1, y2, y3, y4⟩ := hix.get e1
    have h1' : Nc[i]? = some x := h1
    rw [y1] at h1'
    cases h1'
    obtain ⟨m, hn, hl⟩ := I.loc
    have hv : Vis X.env.scope x := by
      rcases y4 with z | z
      · exact .inr (.inl z)
      · exact .inr (.inr z)
    obtain ⟨u, r, l⟩ := hl j x v y2 e2 hv
    refine ⟨u, r, .inr ⟨relabel_free y3, ?_⟩⟩
    rcases l with ⟨l, _⟩ | ⟨_, c, hc, q⟩
    · rcases y4 with z | z
      · rw [z] at l; cases l
      · rw [z] at l; cases l
    · obtain ⟨c', hc'⟩ := clOf_has scope.names [] hfc y3
      have e := from_ hc'
      rw [hc] at e
      cases e
      obtain ⟨o, ho, hd⟩ := q
      exact ⟨c, hc', o, k _ _ ho, hd⟩
  · obtain ⟨v, o, ho, hd⟩ := I.cell x c (from_ e)
    exact ⟨v, o, k _ _ ho, hd⟩
  · show (subSt σ ix).length = Nc.length
    unfold subSt
    rw [List.length_map]
    exact hix.len

theorem comp_exit {X : Cx} {pins pins' : List (Addr × Obj)} {σ σ' : St} {H H' : Hp} {s s' : Shared} (I : Inv X pins σ H s) {scope : Scope} {Nc : List Str} {fp : List Addr} {C D : Addr} (J : Inv (cxComp X scope C Nc s H fp) pins' σ' H' s')
    (hf : ∀ b ∈ fp, FpOk X pins H b) (hD : s.heap.objs.size ≤ D) (hC : s.heap.objs.size ≤ C) (hDC : D ≠ C) {its : List Value} {n : Nat} {acc : List V} (eD : s'.heap.get? D = some { cls := .type "list", data := .seq its.toArray n }) (r : Vals acc its)
    (hz : acc.length ≤ sizeLine) (nD : H' D = none) {oC : Obj} (eC : s'.heap.get? C = some oC) (dC : ∀ v, oC.data ≠ .cell v) : Inv X (pins ++ [(C, oC)]) σ (upd H' D (.lst acc)) s' := by
  have lt : ∀ b o, s.heap.get? b = some o → b ≠ D := fun b o e => Nat.ne_of_lt (Nat.lt_of_lt_of_le (Heap.lt_size e) hD)
  have U : Un (frs X.stack) fp H H' s.heap s'.heap := J.base
  have U' : Un (frs X.stack) fp H (upd H' D (.lst acc)) s.heap s'.heap :=
    ⟨U.keep, U.slot, fun b o e n hx => by rw [upd_ne (lt b o e)]; exact U.free b o e n hx, U.there, fun b xs e => by rw [upd_ne (ne_of_none (U.tups b xs e) nD)]; exact U.tups b xs e,
      fun b o u e => by rw [upd_ne (ne_of_none (U.frzs b o u e) nD)]; exact U.frzs b o u e, fun b ps e => by
        obtain ⟨more, q⟩ := U.tbls b ps e
        exact ⟨more, by rw [upd_ne (ne_of_none q nD)]; exact q⟩⟩
  have hok : HOk X.prog X.w (upd H' D (.lst acc)) s'.heap := fun b u e => by
    by_cases hb : b = D
    · subst hb
      rw [upd_same] at e; cases e
      exact ⟨hz, its, n, r, eD⟩
    · rw [upd_ne hb] at e
      exact (J.hok b u e).stay (fun c v _ q => q) (fun c q => by rw [upd_ne (ne_of_none q nD)]; exact q) fun c xs q => by rw [upd_ne (ne_of_none q nD)]; exact q
  have I' : Inv X pins σ (upd H' D (.lst acc)) s' := I.call' (ch := fp) J.os U' hok J.bare fun b hb => by
    obtain ⟨_, h1, _, h2, h3, h4⟩ := hf b hb
    exact ⟨h2, h1, h3, h4⟩
  refine I'.pins_of fun p hp => ?_
  rcases List.mem_append.mp hp with z | z
  · exact I'.pin p (List.mem_append_right _ z)
  · have e : p = (C, oC) := List.mem_singleton.mp z
    subst e
    refine ⟨eC, ?_, Nat.ne_of_gt (Nat.lt_of_lt_of_le I.lt hC), I.nofs hC, dC⟩
    rw [upd_ne (Ne.symm hDC)]
    exact J.free

noncomputable def PF (Y : Cx) (ifs : List Expr) (tc : TT) : Prop :=
  ∀ (pins : List (Addr × Obj)) (s : Shared) (σ : St) (H : Hp) (Q : Bool → Hp → Prop), Inv Y pins σ H s → tc σ H Q →
    wpAny (model Y.prog Y.w) Y.A (forIn ifs true fun c r => if r = true then do let ok ← isTrue c Y.env (eval c Y.env); pure (ForInStep.yield ok) else pure (ForInStep.yield r)) (TP Y pins σ Q) Y.xe s
noncomputable def tYes : TT := fun _ H Q => Q true H
theorem pf_nil {Y : Cx} : PF Y [] tYes := fun _ _ _ H _ I h => wpAny_tests_nil ⟨H, I, h⟩
theorem pf_one {Y : Cx} {c : Expr} {tc : TT} (h : PT Y c tc) : PF Y [c] tc := fun pins s σ H Q I hw => wpAny_tests_one (h pins s σ H Q I hw)

noncomputable def CompW (J : It) (σc : St) (g : TG) (tc : TT) (te : TE) (Q : VK) (H1 : Hp) : Prop :=
  ∃ W : Nat → Nat → List V → Hp → Prop, (∃ m, W 0 m [] H1) ∧ ∀ i m acc H, W i m acc H → acc.length < sizeLine ∧
  ((J.stop i H ∧ ∀ D, H D = none → Q (.ref D) (upd H D (.lst acc))) ∨
   (J.go i H ∧ ∀ x H', J.yld i H x H' → g x σc H' fun σ2 H2 => Wk σc σ2 ∧ tc σ2 H2 fun b H3 => if b = true then te σ2 H3 fun v H4 => ∃ m', m' < m ∧ W (i + 1) m' (acc ++ [v]) H4 else ∃ m', m' < m ∧ W (i + 1) m' acc H3))
noncomputable def tComp (wi : TI) (ix : List (Option Nat)) (g : TG) (tc : TT) (te : TE) : TE := fun σ H Q => wi σ H fun J H1 => CompW J (subSt σ ix) g tc te Q H1

theorem comp_core {X : Cx} {tg iter elt : Expr} {ifs : List Expr} {scope : Scope} {pos : Pos} {wi : TI} {g : TG} {tc : TT} {te : TE} {Nc : List Str} {ix : List (Option Nat)} (hi : PI X tg iter wi) (hcalm : X.calm = true) (hix : IxOk X scope Nc ix)
    (hcell : ∀ y ∈ scope.names, y.2 ≠ .cell) (hkind : scope.kind = .function) (hfr : ∀ y ∈ scope.names, y.2 = .free → X.env.kindOf y.1 = some .cell ∨ X.env.kindOf y.1 = some .free)
    (hG : ∀ C s H fp, PG (cxComp X scope C Nc s H fp) tg g) (hT : ∀ C s H fp, PF (cxComp X scope C Nc s H fp) ifs tc) (hE : ∀ C s H fp, PE (cxComp X scope C Nc s H fp) elt te)
    {pins : List (Addr × Obj)} {s : Shared} {σ : St} {H : Hp} {Q : VK} (I : Inv X pins σ H s) (h : tComp wi ix g tc te σ H Q) {RR : Value → Addr → Result → Shared → Prop}
    (hRR : ∀ (D C : Addr) (oC : Obj) (m : Str → Option Value) (H' : Hp) (s' : Shared), s'.heap.get? C = some oC → s'.heap.Ns C m → FpOk X pins H' C → Inv X (pins ++ [(C, oC)]) σ H' s' → Q (.ref D) H' → RR (.ref D) C (.ok .next) s') :
    wpAny (model X.prog X.w) X.A (eval iter X.env) (fun v s1 => wpAny (model X.prog X.w) X.A (pyIter v) (fun it s2 => wpAny (model X.prog X.w) X.A (newList []) (fun acc s3 =>
      wpAny (model X.prog X.w) X.A (newFunctionEnv scope X.env.globals (clOf X.env scope.names []) [] X.env.qual none .none (some X.env)) (fun cenv s4 =>
        codeAny (model X.prog X.w) X.A (.compStart (.ListComp elt [⟨tg, iter, ifs, 0⟩] scope pos) 0 it acc { cenv with scope := relabel scope X.env }) (RR acc cenv.locals) s4) X.xe s3) X.xe s2) X.xe s1) X.xe s := by
  refine thn (hi pins s σ H _ I h) fun v s1 h1 => thn h1 fun itv s2 h2 => ?_
  obtain ⟨it, fp, tn, J, H2, e, I2, T, st2, f2, W, ⟨m0, w0⟩, turn⟩ := h2
  subst e
  refine wpAny_newObj_type (wpAny_newFunctionEnv hcell (by intro y hy; simp at hy) (fun h₁ hns₁ hsb₁ => ?_) hkind)
  dsimp only at hns₁ hsb₁ ⊢
  generalize hH2 : s2.heap.push { cls := .type "list", dict := none, data := .seq ([] : List Value).toArray } = P2 at hns₁ hsb₁ ⊢
  have hC : P2.objs.size = s2.heap.objs.size + 1 := by rw [← hH2, Heap.size_push]
  have hDC : s2.heap.objs.size ≠ P2.objs.size := by rw [hC]; exact Nat.ne_of_lt (Nat.lt_succ_self _)
  have hCle : s2.heap.objs.size ≤ P2.objs.size := by rw [hC]; exact Nat.le_succ _
  have neC : ∀ b, b < s2.heap.objs.size → b ≠ P2.objs.size := fun b hb => by rw [hC]; exact Nat.ne_of_lt (Nat.lt_succ_of_lt hb)
  have old : ∀ b o, s2.heap.get? b = some o → h₁.get? b = some o := fun b o e => hsb₁.extBut b o (neC b (Heap.lt_size e)) (Heap.get?_push_of_some _ (hH2 ▸ Heap.get?_push_of_some _ e))
  have hacc : h₁.get? s2.heap.objs.size = some { cls := .type "list", data := .seq ([] : List Value).toArray } := hsb₁.extBut _ _ hDC (Heap.get?_push_of_some _ (hH2 ▸ Heap.get?_push_size _ rfl))
  have st₁ : tn 0 h₁ := T.keep 0 _ _ st2 fun b _ o e => old b o e
  have hfo : ∀ b ∈ fp, ∃ o, s2.heap.get? b = some o := fun b hb => let ⟨o, e, _⟩ := T.obj 0 _ st2 b hb; ⟨o, e⟩
  have fpD : ∀ b ∈ fp, s2.heap.objs.size ≠ b := fun b hb => let ⟨o, e⟩ := hfo b hb; Nat.ne_of_gt (Heap.lt_size e)
  have IY := comp_start I2 hix hcell hkind hfr f2 hfo (t' := s2.toks + ([] : List (Str × Value)).length) hCle hns₁ old
  have notS : ∀ b, s2.heap.objs.size ≤ b → b ∉ frs X.stack := fun b hb hs => by
    rcases List.mem_cons.mp (I2.stkSub b hs) with z | z
    · exact absurd (Nat.lt_of_lt_of_le I2.lt hb) (by rw [z]; exact Nat.lt_irrefl _)
    · exact I2.nofs hb z
  have from_ : ∀ {x : Str} {c : Addr}, (clOf X.env scope.names []).lookup x = some c → X.env.cells.lookup x = some c := fun {x c} e => clOf_from scope.names [] (fun y d q => by simp at q) e
  have cellD : ∀ x c, (clOf X.env scope.names []).lookup x = some c → c ≠ s2.heap.objs.size := fun x c e z => by
    obtain ⟨v, q⟩ := I2.cell x c (from_ e)
    exact absurd (q.lt) (by rw [z]; exact Nat.lt_irrefl _)
  have fY : ∀ {pl : List (Addr × Obj)} {H' : Hp}, (∀ p ∈ pl, p.1 = s2.heap.objs.size) → (∀ b ∈ fp, H' b = none) → ∀ b ∈ fp, FpOk (cxComp X scope P2.objs.size Nc s2 H2 fp) pl H' b := fun {pl H'} hpl hn b hb => by
    refine ⟨hn b hb, ?_, ?_, .inl hb, fun x c e => (f2 b hb).2.2.2.2.1 x c (from_ e), fun p hp => ?_⟩
    · obtain ⟨o, e⟩ := hfo b hb
      exact neC b (Heap.lt_size e)
    · intro hs
      rcases List.mem_cons.mp (I2.stkSub b hs) with z | z
      · exact (f2 b hb).2.1 z
      · exact (f2 b hb).2.2.1 z
    · rw [hpl p hp]
      exact fpD b hb
  have loop : ∀ s₃ : Shared, s₃ = { s2 with heap := h₁, toks := s2.toks + ([] : List (Str × Value)).length } →
      codeAny (model X.prog X.w) X.A (.compLoop (.ListComp elt [⟨tg, iter, ifs, 0⟩] scope pos) 0 (.ref it) (.ref s2.heap.objs.size) (compEnvC scope (clOf X.env scope.names []) P2.objs.size X.env)) (RR (.ref s2.heap.objs.size) P2.objs.size) s₃ := by
    rintro s₃ rfl
    refine compLoop_gen (fun n s' => ∃ i acc its nn H', Inv (cxComp X scope P2.objs.size Nc s2 H2 fp) [] (subSt σ ix) H' s' ∧ tn i s'.heap ∧ (∀ b ∈ fp, H' b = none) ∧
      s'.heap.get? s2.heap.objs.size = some { cls := .type "list", data := .seq (its : List Value).toArray nn } ∧ Vals acc its ∧ H' s2.heap.objs.size = none ∧ W i n acc H') ?_ m0
      ⟨0, [], [], 0, H2, IY, st₁, fun b hb => (f2 b hb).1, hacc, .nil, I2.hok.fresh (Nat.le_refl _), w0⟩
    rintro n s3 ⟨i, acc, its, nn, H3, I3, st3, fr3, eD, rv, nD, w3⟩
    obtain ⟨hz, alt⟩ := turn i n acc H3 w3
    have IP : Inv (cxComp X scope P2.objs.size Nc s2 H2 fp) [(s2.heap.objs.size, { cls := .type "list", data := .seq its.toArray nn })] (subSt σ ix) H3 s3 := I3.pins_of fun p hp => by
      have e : p = (s2.heap.objs.size, _) := List.mem_singleton.mp hp
      subst e
      refine ⟨eD, nD, hDC, notS _ (Nat.le_refl _), fun v z => ?_⟩
      have z' : Data.seq its.toArray nn = Data.cell v := z
      cases z'
    have hpl : ∀ p ∈ [(s2.heap.objs.size, ({ cls := .type "list", data := .seq its.toArray nn } : Obj))], p.1 = s2.heap.objs.size := fun p hp => by
      have e : p = (s2.heap.objs.size, _) := List.mem_singleton.mp hp
      rw [e]
    rcases alt with ⟨stop, fin⟩ | ⟨go, step⟩
    · refine thn (T.done (cxComp X scope P2.objs.size Nc s2 H2 fp) rfl rfl rfl hcalm i _ s3 _ H3 noE IP (fY hpl fr3) st3 stop) fun r s4 ⟨hr, I4⟩ => ?_
      subst hr
      obtain ⟨m, hn, _⟩ := id I4.loc
      obtain ⟨oC, es, ep, eC, dC, _⟩ := id hn
      have eD4 := (I4.pin (s2.heap.objs.size, _) (List.mem_append_right _ (List.mem_singleton.mpr rfl))).1
      have fin' := fin _ nD
      refine hRR _ _ oC m _ s4 eC hn ?_ (comp_exit I2 I4 f2 (Nat.le_refl _) hCle hDC eD4 rv (Nat.le_of_lt hz) nD eC fun v z => ?_) fin'
      · refine I2.fpOk hCle ?_
        rw [upd_ne (Ne.symm hDC)]
        exact I4.free
      · rw [dC] at z; cases z
    · refine thn (T.item (cxComp X scope P2.objs.size Nc s2 H2 fp) rfl rfl rfl hcalm i _ s3 _ H3 noE IP (fY hpl fr3) st3 go) fun r s4 ⟨u, hr, h4⟩ => ?_
      subst hr
      refine thn h4 fun _ s5 ⟨x, H5, I5, r5, y5, st5, fr5⟩ => ?_
      have I5' := I5.pinned (fY hpl fr5) (T.obj _ _ st5)
      refine thn (hG _ s2 H2 fp _ s5 _ H5 x u _ I5' r5 (step x H5 y5)) fun _ s6 ⟨σ6, H6, I6, wk, q6⟩ => ?_
      refine thn (hT _ s2 H2 fp _ s6 σ6 H6 _ I6 q6) fun b s7 ⟨H7, I7, q7⟩ => ?_
      have again : ∀ {H9 : Hp} {s9 : Shared} {m' : Nat}, Inv (cxComp X scope P2.objs.size Nc s2 H2 fp) ([(s2.heap.objs.size, ({ cls := .type "list", data := .seq its.toArray nn } : Obj))] ++ pinsAt fp s5.heap) σ6 H9 s9 →
          (s9.heap.get? s2.heap.objs.size = some { cls := .type "list", data := .seq its.toArray nn } ∧ H9 s2.heap.objs.size = none) ∧ tn (i + 1) s9.heap ∧ (∀ b ∈ fp, H9 b = none) ∧ Inv (cxComp X scope P2.objs.size Nc s2 H2 fp) [] (subSt σ ix) H9 s9 := fun {H9 s9 m'} I9 => by
        have pD := I9.pin (s2.heap.objs.size, _) (List.mem_append_right _ (List.mem_append_left _ (List.mem_singleton.mpr rfl)))
        refine ⟨⟨pD.1, pD.2.1⟩, T.keep _ _ _ st5 fun b hb o e => (I9.pin (b, o) (List.mem_append_right _ (List.mem_append_right _ (mem_pinsAt hb e)))).1, fun b hb => ?_, ?_⟩
        · obtain ⟨o, e, d⟩ := T.obj _ _ st5 b hb
          exact (I9.pin (b, o) (List.mem_append_right _ (List.mem_append_right _ (mem_pinsAt hb e)))).2.1
        · exact (I9.weak wk.len fun i v e => wk.get e).pins_of fun p hp => absurd hp (by simp)
      cases b with
      | false =>
        rw [if_neg Bool.false_ne_true] at q7 ⊢
        obtain ⟨m', hm, w7⟩ := q7
        obtain ⟨⟨e7, n7⟩, t7, f7, J7⟩ := again (m' := 0) I7
        exact ⟨m', hm, i + 1, acc, its, nn, H7, J7, t7, f7, e7, rv, n7, w7⟩
      | true =>
        rw [if_pos rfl] at q7 ⊢
        refine thn (hE _ s2 H2 fp _ s7 σ6 H7 _ I7 q7) fun y s8 ⟨v, H8, I8, r8, m', hm, w8⟩ => ?_
        obtain ⟨⟨e8, n8⟩, t8, f8, J8⟩ := again (m' := 0) I8
        refine wpAny_list_append_plain (items := its.toArray) ⟨nn, e8⟩ (fun h9 hl9 hs9 => ?_) (by rw [List.size_toArray, ← rv.length]; exact Nat.le_of_lt hz)
        obtain ⟨n9, e9⟩ := hl9
        refine ⟨m', hm, i + 1, acc ++ [v], its ++ [y], n9, H8, J8.turned (t' := s8.toks) (fun b o hb e => (hs9.2 b hb).trans e) n8 hDC (.inr (Nat.le_refl _)) cellD (fun p hp => absurd hp (by simp [cxComp])), ?_, f8, ?_, rv.append (.cons r8 .nil), n8, w8⟩
        · exact T.keep _ _ _ t8 fun b hb o e => (hs9.2 b (Ne.symm (fpD b hb))).trans e
        · simpa using e9
  exact codeAny_compStart_list (loop _ rfl) (T.self _ 0 _ _ _ st₁ (loop _ rfl))

theorem pe_comp {X : Cx} {tg iter elt : Expr} {ifs : List Expr} {scope : Scope} {pos : Pos} {wi : TI} {g : TG} {tc : TT} {te : TE} (Nc : List Str) (ix : List (Option Nat)) (hi : PI X tg iter wi) (hcalm : X.calm = true) (hix : IxOk X scope Nc ix)
    (hcell : ∀ y ∈ scope.names, y.2 ≠ .cell) (hkind : scope.kind = .function) (hfr : ∀ y ∈ scope.names, y.2 = .free → X.env.kindOf y.1 = some .cell ∨ X.env.kindOf y.1 = some .free)
    (hnames : ∀ x ∈ scope.names, x.2 = .local → scope.names.lookup x.1 = some .local)
    (hG : ∀ C s H fp, PG (cxComp X scope C Nc s H fp) tg g) (hT : ∀ C s H fp, PF (cxComp X scope C Nc s H fp) ifs tc) (hE : ∀ C s H fp, PE (cxComp X scope C Nc s H fp) elt te)
    (hs : ∀ x, foldedSetIterable iter X.env x = pure x := by intro _; rfl) : PE X (.ListComp elt [⟨tg, iter, ifs, 0⟩] scope pos) (tComp wi ix g tc te) := by
  intro pins s σ H Q I h
  rw [eval_ListComp]
  have hfc : ∀ y ∈ scope.names, y.2 = .free → ∃ c, X.env.cells.lookup y.1 = some c := fun y hy e => I.ok.has y.1 (hfr y hy e)
  refine wpAny_comprehension_free (use := none) rfl hs (closureFor_cl hfc) hkind hnames (comp_core hi hcalm hix hcell hkind hfr hG hT hE I h (RR := fun acc C => compPost (model X.prog X.w) X.A X.xe none (EP X pins σ Q) acc C) ?_)
  intro D C oC m H' s' eC hn fC I' q
  refine ⟨m, hn, fun h' hs' => ⟨.ref D, H', ?_, rfl, q⟩⟩
  exact I'.unpinned.turned (t' := s'.toks) (fun b o hb e => (hs'.2 b hb).trans e) fC.1 fC.2.1 fC.2.2.2.1 fC.2.2.2.2.1 fC.2.2.2.2.2
theorem ps_setC {X : Cx} {i : Nat} {x : Str} {tg iter elt : Expr} {ifs : List Expr} {scope : Scope} {pos spos pos' : Pos} {wi : TI} {g : TG} {tc : TT} {te : TE} (Nc : List Str) (ix : List (Option Nat)) (hN : X.N.Nodup) (hxi : X.N[i]? = some x) (hx : Loc X.env.scope x)
    (hsw : swapsWith (.ListComp elt [⟨tg, iter, ifs, 0⟩] scope pos) (some (.Name x pos')) spos.line X.env = pure true) (hi : PI X tg iter wi) (hcalm : X.calm = true) (hix : IxOk X scope Nc ix)
    (hcell : ∀ y ∈ scope.names, y.2 ≠ .cell) (hkind : scope.kind = .function) (hfr : ∀ y ∈ scope.names, y.2 = .free → X.env.kindOf y.1 = some .cell ∨ X.env.kindOf y.1 = some .free)
    (hnames : ∀ x ∈ scope.names, x.2 = .local → scope.names.lookup x.1 = some .local)
    (hG : ∀ C s H fp, PG (cxComp X scope C Nc s H fp) tg g) (hT : ∀ C s H fp, PF (cxComp X scope C Nc s H fp) ifs tc) (hE : ∀ C s H fp, PE (cxComp X scope C Nc s H fp) elt te)
    (hs : ∀ x, foldedSetIterable iter X.env x = pure x := by intro _; rfl) (hf : X.fn x = true ∨ X.env.scope.names.lookup x = some .local := by first | exact .inl rfl | exact .inr rfl | assumption) :
    PS X (.Assign [.Name x pos'] (.ListComp elt [⟨tg, iter, ifs, 0⟩] scope pos) spos) (tAsg (tComp wi ix g tc te) (gName i)) := by
  intro pins s σ H E I h
  have hfc : ∀ y ∈ scope.names, y.2 = .free → ∃ c, X.env.cells.lookup y.1 = some c := fun y hy e => I.ok.has y.1 (hfr y hy e)
  rw [exec_Assign_Name_used _ _ _ _ hsw]
  refine wpAny_bind (wpAny_standAt (wpAny_bind ?_))
  show wpAny _ X.A (do let _ ← comprehension (.ListComp elt [⟨tg, iter, ifs, 0⟩] scope pos) scope X.env _ (newList []) false (eval iter X.env) (some (assign (.Name x pos') X.env))) _ _ s
  refine wpAny_bind (wpAny_mono (wpAny_comprehension_free (use := some (assign (.Name x pos') X.env)) (Q := fun _ s' => SP X pins E .next s') rfl hs (closureFor_cl hfc) hkind hnames
    (comp_core hi hcalm hix hcell hkind hfr hG hT hE I h (RR := fun acc C => compPost (model X.prog X.w) X.A X.xe (some (assign (.Name x pos') X.env)) (fun _ s' => SP X pins E .next s') acc C) ?_)) (fun _ s' hq => wpAny_pure (wpAny_pure hq)) fun _ _ e => e)
  intro D C oC m H' s' eC hn fC I' q
  show wpAny _ X.A (assign (.Name x pos') X.env (.ref D)) _ _ _
  refine wpAny_assign_Name (store_ok I' hN hxi hx (show RelV (.ref D) _ from rfl) (fun s'' I'' => ?_) hf)
  have pC := I''.pin (C, oC) (List.mem_append_right _ (List.mem_append_right _ (List.mem_singleton.mpr rfl)))
  refine ⟨m, ?_, fun h' hs' => ?_⟩
  · obtain ⟨o, es, ep, e, r⟩ := hn
    rw [eC] at e; cases e
    exact ⟨oC, es, ep, pC.1, r⟩
  · refine ⟨_, H', I''.unpinned.turned (t' := s''.toks) (fun b o hb e => (hs'.2 b hb).trans e) fC.1 fC.2.1 fC.2.2.2.1 fC.2.2.2.2.1 fC.2.2.2.2.2, q⟩
end L2
namespace L2
open PySem PySem.Spec PyProof.Rows
noncomputable def S (l : List Nat) : Str := ⟨l.toArray⟩
theorem S_list (l : List Nat) : (S l).cps.toList = l := by simp [S]
theorem S_len (l : List Nat) : (S l).length = l.length := by simp [S, Str.length]
theorem S_size (l : List Nat) : (S l).cps.size = l.length := by simp [S]
theorem S_inj {a b : List Nat} (h : S a = S b) : a = b := by
  have := congrArg (fun x : Str => x.cps.toList) h
  simpa [S] using this
theorem S_of (x : Str) : x = S x.cps.toList := by cases x; simp [S]
theorem S_app (a b : List Nat) : S a ++ S b = S (a ++ b) := by
  apply Str.ext'
  apply Array.toList_inj.mp
  simp [S, Str.cps_append]
theorem dec_S {a b : List Nat} : decide (V.str (S a) = V.str (S b)) = decide (a = b) := by
  by_cases h : a = b
  · subst h; simp
  · rw [decide_eq_false h, decide_eq_false]
    intro q
    exact h (S_inj (V.str.inj q))
noncomputable def cut {α : Type} (xs : List α) (lo hi : Option Int) : List α := (xs.drop (HT.sIx xs.length 0 lo)).take (HT.sIx xs.length xs.length hi - HT.sIx xs.length 0 lo)
theorem clip_sIx (n d : Nat) (v : Int) : max 0 (min (if v < 0 then v + (n : Int) else v) (n : Int)) = ((HT.sIx n d (some v) : Nat) : Int) := by
  show _ = (((if v < 0 then (v + (n : Int)).toNat else min v.toNat n) : Nat) : Int)
  by_cases hv : v < 0
  · simp only [if_pos hv]; omega
  · simp only [if_neg hv]; omega
theorem indices_sIx (lo hi : Option Int) (n : Nat) : Builtin.Str.strSliceIndices lo hi 1 n = (List.range (HT.sIx n n hi - HT.sIx n 0 lo)).map (HT.sIx n 0 lo + ·) := by
  have h1 : (1 : Int) > 0 := by decide
  rw [← sliceRange_one]
  unfold Builtin.Str.strSliceIndices
  simp only [h1, if_true]
  congr 1
  · cases lo with
    | none => rfl
    | some v => exact clip_sIx n 0 v
  · cases hi with
    | none => rfl
    | some v => exact clip_sIx n n v
theorem slice_S (l : List Nat) (lo hi : Option Int) : Txt.slice (S l) lo hi = S (cut l lo hi) := by
  have hx : ((Builtin.Str.strSliceIndices lo hi 1 (S l).length).filterMap ((S l).cps[·]?)) = cut l lo hi := by
    rw [S_len, indices_sIx, pick_run, S_list]
    rfl
  have hlen : (Builtin.Str.strSliceIndices lo hi 1 (S l).length).length = HT.sIx l.length l.length hi - HT.sIx l.length 0 lo := by
    rw [S_len, indices_sIx, List.length_map, List.length_range]
  unfold Txt.slice
  by_cases hc : ((1 : Int) == 1 && (Builtin.Str.strSliceIndices lo hi 1 (S l).length).length == (S l).length) = true
  · rw [if_pos hc]
    rw [hlen, S_len] at hc
    have e : HT.sIx l.length l.length hi - HT.sIx l.length 0 lo = l.length := by simpa using hc
    have h2 := HT.sIx_le l.length l.length (Nat.le_refl _) hi
    have e0 : HT.sIx l.length 0 lo = 0 ∨ l.length = 0 := by omega
    unfold cut
    rw [e]
    rcases e0 with z | z
    · rw [z]; simp
    · have : l = [] := List.eq_nil_of_length_eq_zero z
      subst this
      simp
  · rw [if_neg hc]
    rw [hx]
    rfl

section
variable {X : Cx}
theorem pe_S {x : Str} {j pos} (l : List Nat) (h : x = S l) : PE X (.Constant (.str x) j pos) (tC (.str (S l))) := by
  subst h
  exact pe_str
noncomputable def rAddS : R2 := fun x y H Q => ∃ a b, x = .str (S a) ∧ y = .str (S b) ∧ a.length + b.length ≤ sizeLine ∧ Q (.str (S (a ++ b))) H
theorem op_addS : OpR X (binaryOp .Add) rAddS := by
  intro pins s σ H x y v u Q I rx ry h
  obtain ⟨a, b, rfl, rfl, hz, q⟩ := h
  exact op_add_str pins s σ H _ _ v u Q I rx ry ⟨S a, S b, rfl, rfl, by rw [S_len, S_len]; exact hz, by rw [S_app]; exact q⟩
noncomputable def rIxS' : R2 := fun x y H Q => ∃ l i c, x = .str (S l) ∧ y = .int i ∧ l.length ≤ sizeLine ∧ atI l i = some c ∧ Q (.str (S [c])) H
theorem ix_S : IxR X rIxS' := by
  intro value slice pins s σ H x y v u Q I rx ry h hs
  obtain ⟨l, i, c, rfl, rfl, hz, he, q⟩ := h
  exact ix_str value slice pins s σ H _ _ v u Q I rx ry ⟨S l, i, c, rfl, rfl, by rw [S_len]; exact hz, by rw [S_list]; exact he, q⟩ hs
noncomputable def rSlS : V → Option Int → Option Int → Hp → VK → Prop := fun x lo hi H Q => ∃ l, x = .str (S l) ∧ l.length ≤ sizeLine ∧ Q (.str (S (cut l lo hi))) H
theorem sl_S : SlR X rSlS := by
  intro pins s σ H x v vl vu lo hi sl Q I rx hs pl pu h
  obtain ⟨l, rfl, hz, q⟩ := h
  obtain ⟨t, rfl⟩ := rx
  refine ⟨"str", _, F.slot_str_getitem.lookup, typeIs_str _ _ _, ?_⟩
  have key : ∀ (a b : Option (Int × Tok)), vl = partValue a → vu = partValue b → a.map (·.1) = lo → b.map (·.1) = hi → wpAny (model X.prog X.w) X.A (getItem (.str (S l) t) (.ref sl)) (EP X pins σ Q) X.xe s := by
    rintro a b rfl rfl rfl rfl
    obtain ⟨o, e, c, d⟩ := hs
    refine wpAny_getItem_str_slice (l := a) (u := b) (st := none) ⟨o, e, c, d⟩ rfl (post_val_or_str ⟨?_, fun t' k => ?_⟩)
    · exact Nat.le_trans (Txt.slice_le (S l) _ _) (by rw [S_len]; exact hz)
    · exact ⟨.str (S (cut l _ _)), H, I.tok _, ⟨t', congrArg (fun z => Value.str z t') (slice_S l _ _)⟩, q⟩
  cases pl with
  | none =>
    cases pu with
    | none => exact key none none rfl rfl rfl rfl
    | int i ti => exact key none (some (i, ti)) rfl rfl rfl rfl
  | int i ti =>
    cases pu with
    | none => exact key (some (i, ti)) none rfl rfl rfl rfl
    | int j tj => exact key (some (i, ti)) (some (j, tj)) rfl rfl rfl rfl
theorem call_lenS : CallR X (.builtin "len") (fun xs H Q => ∃ l, xs = [.str (S l)] ∧ l.length ≤ sizeLine ∧ Q (.int l.length) H) := by
  intro pins s σ H xs us Q I r h
  obtain ⟨l, rfl, hz, q⟩ := h
  exact call_len_str pins s σ H _ us Q I r ⟨S l, rfl, by rw [S_len]; exact hz, by rw [S_len]; exact q⟩
noncomputable def sgs (l : List Nat) : List V := l.map fun c => V.str (S [c])
theorem vals_signs {l : List Nat} : ∀ {acc : List Value} , acc.length = l.length → (∀ j v, acc[j]? = some v → SignAt (S l) j v) → Vals (sgs l) acc := by
  induction l with
  | nil => intro acc h _; have : acc = [] := List.eq_nil_of_length_eq_zero h; subst this; exact .nil
  | cons c l ih =>
    intro acc h k
    cases acc with
    | nil => cases h
    | cons a acc =>
      refine .cons ?_ (ih (by simpa using h) fun j v e => ?_)
      · obtain ⟨c', u, e1, e2⟩ := k 0 a rfl
        have : c = c' := by simpa [S] using e1
        subst this
        exact ⟨u, e2⟩
      · obtain ⟨c', u, e1, e2⟩ := k (j + 1) v (by simpa using e)
        exact ⟨c', u, by simpa [S] using e1, e2⟩
theorem call_listS (hc : X.calm = true) : CallR X (.type "list") (fun xs H Q => ∃ l, xs = [.str (S l)] ∧ l.length ≤ sizeLine ∧ ∀ p, H p = none → Q (.ref p) (upd H p (.lst (sgs l)))) := by
  intro pins s σ H xs us Q I r h
  obtain ⟨l, rfl, hz, q⟩ := h
  obtain ⟨u, rfl, t, rfl⟩ := vals1 r
  refine call_list_str (I.ok.hd hc) (S l) t (fun h' tk acc' c' hk e hacc => ?_) (by rw [S_size]; exact hz)
  obtain ⟨h1, h2⟩ := hacc
  rw [S_size] at h1
  refine ⟨.ref s.heap.objs.size, _, I.laid (t' := tk) (o := .lst (sgs l)) hk (Nat.le_refl _) ?_, rfl, q _ I.fresh⟩
  exact ⟨by unfold sgs; rw [List.length_map]; exact hz, acc'.toList, c', vals_signs (by simpa using h1) (fun j v e => h2 j v (by simpa using e)), by simpa using e⟩
noncomputable def rInS : R2 := fun x y H Q => ∃ c l, x = .str (S [c]) ∧ y = .str (S l) ∧ Q (.bl (decide (c ∈ l))) H
theorem op_inS : OpR X (compareOp .In) rInS := by
  intro pins s σ H x y v u Q I rx ry h
  obtain ⟨c, l, rfl, rfl, q⟩ := h
  refine op_in_str pins s σ H _ _ v u Q I rx ry ⟨S [c], S l, rfl, rfl, ?_⟩
  have e := StrLaws.found_one (S l) c
  rw [S_list] at e
  rw [show (S [c]) = (⟨#[c]⟩ : Str) from rfl, e]
  exact q
end
end L2
namespace L2
open PySem PySem.Spec PyProof.Rows
theorem occ_stays (s sub : Str) (hi : Nat) : ∀ (l : List Nat) (st : Array Nat × Nat), 1 ≤ st.fst.size → (forIn l st (StrLaws.occBody s sub hi 1)).run.fst = st.fst
  | [], st, h => rfl
  | a :: l, st, h => by
    rw [List.forIn_cons]
    unfold StrLaws.occBody
    rw [if_neg (fun z => absurd z.1.1.1 (Nat.not_lt.mpr h))]
    exact occ_stays s sub hi l _ h
theorem occ_first (s sub : Str) (hi : Nat) : ∀ (l : List Nat) (free : Nat), (∀ i ∈ l, free ≤ i) →
    (forIn l ((#[] : Array Nat), free) (StrLaws.occBody s sub hi 1)).run.fst.toList = (l.find? fun i => decide (i + sub.length ≤ hi) && Builtin.Str.subAt s sub i).toList
  | [], free, _ => rfl
  | a :: l, free, hf => by
    rw [List.forIn_cons, List.find?_cons]
    unfold StrLaws.occBody
    have ha : free ≤ a := hf a List.mem_cons_self
    by_cases hc : a + sub.length ≤ hi ∧ Builtin.Str.subAt s sub a = true
    · rw [if_pos ⟨⟨⟨by simp, ha⟩, hc.1⟩, hc.2⟩]
      have : (decide (a + sub.length ≤ hi) && Builtin.Str.subAt s sub a) = true := by simp [hc]
      rw [this]
      show (forIn l (#[].push a, a + sub.length) (StrLaws.occBody s sub hi 1)).run.fst.toList = _
      rw [occ_stays s sub hi l _ (by simp)]
      rfl
    · rw [if_neg (fun z => hc ⟨z.1.2, z.2⟩)]
      have : (decide (a + sub.length ≤ hi) && Builtin.Str.subAt s sub a) = false := by
        cases h1 : decide (a + sub.length ≤ hi) with
        | false => rfl
        | true =>
          cases h2 : Builtin.Str.subAt s sub a with
          | false => rfl
          | true => exact absurd ⟨of_decide_eq_true h1, h2⟩ hc
      rw [this]
      exact occ_first s sub hi l free fun i hi' => hf i (List.mem_cons_of_mem _ hi')
theorem subAt_one (l : List Nat) (c i : Nat) : Builtin.Str.subAt (S l) (S [c]) i = (l[i]? == some c) := by
  unfold Builtin.Str.subAt
  rw [S_len]
  show ((S l).cps.extract i (i + 1) == #[c]) = _
  have e : ((S l).cps.extract i (i + 1)) = ((l.drop i).take 1).toArray := by
    apply Array.toList_inj.mp
    simp [S, List.take_drop]
  rw [e]
  by_cases h : i < l.length
  · have e2 : (l.drop i).take 1 = [l[i]] := by
      rw [List.drop_eq_getElem_cons h]; rfl
    rw [e2, List.getElem?_eq_getElem h]
    by_cases hc : l[i] = c
    · rw [hc]; simp
    · have h1 : ([l[i]].toArray == #[c]) = false := by
        rw [beq_eq_false_iff_ne]
        intro z
        apply hc
        have := congrArg Array.toList z
        simpa using this
      have h2 : (some l[i] == some c) = false := by simpa using hc
      rw [h1, h2]
  · have e2 : (l.drop i).take 1 = [] := by rw [List.drop_eq_nil_of_le (by omega)]; rfl
    rw [e2, List.getElem?_eq_none (by omega)]
    rfl
theorem find_idx (l : List Nat) (c : Nat) : ∀ (k n : Nat), k + n = l.length + 1 → ((List.range' k n).find? fun i => decide (i + 1 ≤ l.length) && (l[i]? == some c)) = if c ∈ l.drop k then some (k + (l.drop k).idxOf c) else none
  | k, 0, h => by
    have : l.drop k = [] := List.drop_eq_nil_of_le (by omega)
    rw [this]; simp
  | k, n + 1, h => by
    rw [List.range'_succ, List.find?_cons]
    by_cases hk : k < l.length
    · have e : l.drop k = l[k] :: l.drop (k + 1) := List.drop_eq_getElem_cons hk
      rw [List.getElem?_eq_getElem hk, e]
      by_cases hc : l[k] = c
      · have : (decide (k + 1 ≤ l.length) && (some l[k] == some c)) = true := by simp [hc]; omega
        rw [this, if_pos (by simp [hc])]
        simp [hc]
      · have : (decide (k + 1 ≤ l.length) && (some l[k] == some c)) = false := by simp [hc]
        rw [this, find_idx l c (k + 1) n (by omega)]
        have hc' : ¬ c = l[k] := fun z => hc z.symm
        by_cases hm : c ∈ l.drop (k + 1)
        · rw [if_pos hm, if_pos (List.mem_cons_of_mem _ hm), List.idxOf_cons]
          have : (l[k] == c) = false := by simpa using hc
          rw [this]
          show some (k + 1 + List.idxOf c (List.drop (k + 1) l)) = some (k + (List.idxOf c (List.drop (k + 1) l) + 1))
          congr 1
          omega
        · rw [if_neg hm, if_neg (by intro z; rcases List.mem_cons.mp z with z | z; exact hc' z; exact hm z)]
    · have : l.drop k = [] := List.drop_eq_nil_of_le (by omega)
      have e1 : (decide (k + 1 ≤ l.length) && (l[k]? == some c)) = false := by
        rw [decide_eq_false (by omega)]; rfl
      have e2 : l.drop (k + 1) = [] := List.drop_eq_nil_of_le (by omega)
      rw [e1, find_idx l c (k + 1) n (by omega), this, e2]
      simp
theorem occ_S (l : List Nat) (c : Nat) : Builtin.Str.occurrences (S l) (S [c]) 0 (S l).length 1 = if c ∈ l then [l.idxOf c] else [] := by
  rw [StrLaws.occ_eq, occ_first _ _ _ _ 0 fun _ _ => Nat.zero_le _]
  have e : (fun i => decide (i + (S [c]).length ≤ (S l).length) && Builtin.Str.subAt (S l) (S [c]) i) = fun i => decide (i + 1 ≤ l.length) && (l[i]? == some c) := by
    funext i
    rw [subAt_one, S_len, S_len]
    rfl
  rw [e, S_len, Nat.sub_zero, find_idx l c 0 (l.length + 1) (by omega), List.drop_zero]
  by_cases h : c ∈ l
  · rw [if_pos h, if_pos h, Nat.zero_add]; rfl
  · rw [if_neg h, if_neg h]; rfl

section
variable {X : Cx}
noncomputable def rIndexS : V → List V → Hp → VK → Prop := fun x vs H Q => ∃ l c, x = .str (S l) ∧ vs = [.str (S [c])] ∧ c ∈ l ∧ Q (.int (l.idxOf c : Nat)) H
theorem mt_indexS : MtR X "str.index" rIndexS := by
  intro pins s σ H x xs v us Q I rx rv h
  obtain ⟨l, c, rfl, rfl, hc, q⟩ := h
  obtain ⟨t, rfl⟩ := rx
  obtain ⟨u, rfl, t', rfl⟩ := vals1 rv
  exact SC.index (i := l.idxOf c) (rest := []) (by rw [occ_S, if_pos hc]) ⟨.int (l.idxOf c : Nat), H, I.tok _, ⟨_, rfl⟩, q⟩
noncomputable def rLowS (f : Nat → Bool) : V → List V → Hp → VK → Prop := fun x vs H Q => ∃ c, x = .str (S [c]) ∧ vs = [] ∧ c < 128 ∧ Q (.bl (f c)) H
noncomputable def rUpS (f : Nat → Nat) : V → List V → Hp → VK → Prop := fun x vs H Q => ∃ c, x = .str (S [c]) ∧ vs = [] ∧ c < 128 ∧ Q (.str (S [f c])) H
noncomputable def isLow (c : Nat) : Bool := decide (97 ≤ c) && decide (c ≤ 122)
theorem low_all : ∀ c, c < 128 → Txt.islower ⟨#[c]⟩ = isLow c := by decide +kernel
theorem mt_islower : MtR X "str.islower" (rLowS isLow) := by
  intro pins s σ H x xs v us Q I rx rv h
  obtain ⟨c, rfl, rfl, hc, q⟩ := h
  obtain ⟨t, rfl⟩ := rx
  have e : us = [] := by cases rv; rfl
  subst e
  exact SC.islower ⟨.bl (isLow c), H, I, congrArg Value.bool (low_all c hc), q⟩
theorem upper_one {c : Nat} (hc : c < 128) : Txt.upper (S [c]) = S [up1 c] := by
  rw [upper_ascii (by intro d hd; rw [S_list] at hd; simp at hd; omega)]
  simp [S]
theorem lower_one {c : Nat} (hc : c < 128) : Txt.lower (S [c]) = S [lo1 c] := by
  rw [lower_ascii (by intro d hd; rw [S_list] at hd; simp at hd; omega)]
  simp [S]
theorem fits1 (c : Nat) : Builtin.Str.tooLong (S [c]).length = false := by
  rw [S_len]
  show Builtin.Str.tooLong 1 = false
  decide
theorem mt_upper : MtR X "str.upper" (rUpS up1) := by
  intro pins s σ H x xs v us Q I rx rv h
  obtain ⟨c, rfl, rfl, hc, q⟩ := h
  obtain ⟨t, rfl⟩ := rx
  have e : us = [] := by cases rv; rfl
  subst e
  exact SC.upper (by rw [upper_one hc]; exact fits1 _) ⟨.str (S [up1 c]), H, I.tok _, ⟨_, congrArg (fun z => Value.str z _) (upper_one hc)⟩, q⟩
theorem mt_lower : MtR X "str.lower" (rUpS lo1) := by
  intro pins s σ H x xs v us Q I rx rv h
  obtain ⟨c, rfl, rfl, hc, q⟩ := h
  obtain ⟨t, rfl⟩ := rx
  have e : us = [] := by cases rv; rfl
  subst e
  exact SC.lower (by rw [lower_one hc]; exact fits1 _) ⟨.str (S [lo1 c]), H, I.tok _, ⟨_, congrArg (fun z => Value.str z _) (lower_one hc)⟩, q⟩
theorem glue_S : ∀ (ls : List (List Nat)) (a : Array Nat), (ls.map S).foldl (fun acc p => acc ++ (S []).cps ++ p.cps) a = a ++ ls.flatten.toArray
  | [], a => by simp
  | l :: ls, a => by
    rw [List.map_cons, List.foldl_cons, glue_S ls]
    simp [S]
theorem join_S (ls : List (List Nat)) : Txt.join (S []) (ls.map S) = S ls.flatten := by
  unfold Txt.join Builtin.Str.glued
  cases ls with
  | nil => rfl
  | cons l ls =>
    show Str.mk ((List.map S ls).foldl (fun acc p => acc ++ (S []).cps ++ p.cps) (S l).cps) = _
    rw [glue_S]
    simp [S]
theorem strsAre_of : ∀ {ls : List (List Nat)} {us : List Value}, Vals (ls.map fun l => V.str (S l)) us → StrsAre us (ls.map S)
  | [], us, r => by cases r; exact .nil
  | l :: ls, us, r => by
    cases r with
    | cons r1 r2 =>
      obtain ⟨t, rfl⟩ := r1
      exact .cons _ t (strsAre_of r2)
noncomputable def rJoinS (K : PySem.W.Frag) : V → List V → Hp → VK → Prop := fun x vs H Q => ∃ (p : Addr) (ls : List (List Nat)), x = .str (S []) ∧ vs = [.ref p] ∧ SqL K H p (ls.map fun l => V.str (S l)) ∧ (ls.map List.length).sum ≤ 16777216 ∧ Q (.str (S ls.flatten)) H
theorem mt_joinS : MtR X "str.join" (rJoinS X.K) := by
  intro pins s σ H x xs v us Q I rx rv h
  obtain ⟨p, ls, rfl, rfl, hq, hz, q⟩ := h
  obtain ⟨t, rfl⟩ := rx
  obtain ⟨u, rfl, ru⟩ := vals1 rv
  cases ru
  obtain ⟨its, r, pl, _⟩ := I.list hq
  have e : (S []).length = 0 := rfl
  refine join_list pl.isList (by simpa using strsAre_of r) ?_ fun t' k => ?_
  · rw [e, Nat.mul_zero, Nat.add_zero, List.map_map]
    have e2 : (Str.length ∘ S) = List.length := by funext l; exact S_len l
    have e3 : ((fun x : Str => x.length) ∘ S) = List.length := by funext l; exact S_len l
    first | (rw [e2]; exact hz) | (rw [e3]; exact hz)
  · exact ⟨.str (S ls.flatten), H, I.tok _, ⟨t', congrArg (fun z => Value.str z t') (join_S ls)⟩, q⟩
end
end L2
namespace L2.F2
open PySem PySem.Spec PyProof.Rows
end L2.F2
namespace L2
open PySem PySem.Spec PyProof.Rows
section
variable {prog : Program} {w : World} {A : Around} {E : Value → Shared → Prop} {s : Shared}
noncomputable def IsRevS (h : Heap) (it : Addr) (x : Str) (t : Tok) (i : Int) : Prop := ∃ o, h.get? it = some o ∧ o.cls = .type "reversed" ∧ o.data = .fields #[.str x t, rawInt i]
theorem IsRevS.typeIs {it : Addr} {x : Str} {t : Tok} {i : Int} (h : IsRevS s.heap it x t i) : s.TypeIs (.ref it) "reversed" := let ⟨o, ho, hc, _⟩ := h; ⟨o, ho, hc⟩
end
noncomputable def Itx (xs : List V) : It := ⟨fun i _ => i < xs.length, fun i H x H' => H' = H ∧ xs[i]? = some x, fun i _ => xs.length ≤ i⟩
theorem sgs_get {l : List Nat} {i : Nat} {x : V} (h : (sgs l)[i]? = some x) : ∃ c, l[i]? = some c ∧ x = .str (S [c]) := by
  unfold sgs at h
  rw [List.getElem?_map] at h
  cases e : l[i]? with
  | none => rw [e] at h; cases h
  | some c => rw [e] at h; cases h; exact ⟨c, rfl, rfl⟩
theorem sgs_len (l : List Nat) : (sgs l).length = l.length := by unfold sgs; rw [List.length_map]
theorem turn_str {P : Program} {w : World} {K : PySem.W.Frag} {tg : Expr} (it : Addr) (l : List Nat) (t : Tok) : Turn P w K tg (Itx (sgs l)) [it] it (fun i h => h.IsStrIter it (strIterType (S l)) (S l) t i) where
  mem := by simp
  obj := fun i h st b hb => by
    have e : b = it := by simpa using hb
    subst e
    obtain ⟨o, e, c, d⟩ := st
    exact ⟨o, e, fun v z => by rw [d] at z; cases z⟩
  keep := fun i h h' st k => let ⟨o, e, r⟩ := st; ⟨o, k it (by simp) o e, r⟩
  item := by
    intro X hP hw hK hc i pins s σ H E I hf st hg
    subst hP hw hK
    have hg' : i < l.length := by have : i < (sgs l).length := hg; rwa [sgs_len] at this
    obtain ⟨f0, f1, f2, f3, f4, f5⟩ := hf it (by simp)
    have fin : ∀ (v : Value) (h' : Heap) (tk : Nat), SignAt (S l) i v → h'.IsStrIter it (strIterType (S l)) (S l) t (i + 1) → (∀ b o, b ∉ [it] → s.heap.get? b = some o → h'.get? b = some o) →
        ∃ u, some v = some u ∧ wpAny (model X.prog X.w) X.A (letOwnedTupleGo tg (.ref it) u) (fun _ s2 => ∃ x H', Inv X pins σ H' s2 ∧ RelV x u ∧ (Itx (sgs l)).yld i H x H' ∧ s2.heap.IsStrIter it (strIterType (S l)) (S l) t (i + 1) ∧ ∀ b ∈ [it], H' b = none) E { s with heap := h', toks := tk } := by
      intro v h' tk hv st' kk
      obtain ⟨c, u, e1, e2⟩ := hv
      subst e2
      have I1 : Inv X pins σ H { s with heap := h', toks := tk } := I.turned (fun b o hb e => kk b o (by simpa using hb) e) f0 f1 f3 f4 f5
      obtain ⟨o, e, cc, d⟩ := id st'
      refine ⟨_, rfl, go_of (s := { s with heap := h', toks := tk }) e cc d (by unfold strIterType; split <;> decide) ⟨.str (S [c]), H, I1, ⟨u, rfl⟩, ⟨rfl, ?_⟩, st', fun b hb => (hf b hb).1⟩⟩
      unfold sgs
      rw [List.getElem?_map]
      have e1' : l[i]? = some c := by simpa [S] using e1
      rw [e1']
      rfl
    have hsz : i < (S l).cps.size := by rw [S_size]; exact hg'
    by_cases ha : (S l).cps.all (· < 128) = true
    · have et : strIterType (S l) = "str_ascii_iterator" := by unfold strIterType; rw [if_pos ha]
      rw [et] at st
      exact (Walks.strAscii (prog := X.prog) (w := X.w) (I.ok.hd hc) it (S l) t).item i s _ _ hsz st fun v h' tk hv st' kk => fin v h' tk hv (by rw [et]; exact st') kk
    · have et : strIterType (S l) = "str_iterator" := by unfold strIterType; rw [if_neg ha]
      rw [et] at st
      exact (Walks.strWide (prog := X.prog) (w := X.w) (I.ok.hd hc) it (S l) t).item i s _ _ hsz st fun v h' tk hv st' kk => fin v h' tk hv (by rw [et]; exact st') kk
  done := by
    intro X hP hw hK hc i pins s σ H E I hf st hg
    subst hP hw hK
    obtain ⟨f0, f1, f2, f3, f4, f5⟩ := hf it (by simp)
    have hg' : l.length ≤ i := by have : (sgs l).length ≤ i := hg; rwa [sgs_len] at this
    have hx : (S l).cps[i]? = none := by rw [Array.getElem?_eq_none_iff, S_size]; exact hg'
    by_cases ha : (S l).cps.all (· < 128) = true
    · have et : strIterType (S l) = "str_ascii_iterator" := by unfold strIterType; rw [if_pos ha]
      rw [et] at st
      exact wpAny_pyNext_ascii_end (I.ok.hd hc) st hx fun h' eb => ⟨rfl, I.turned (t' := s.toks) (fun b o hb e => eb b o hb e) f0 f1 f3 f4 f5⟩
    · have et : strIterType (S l) = "str_iterator" := by unfold strIterType; rw [if_neg ha]
      rw [et] at st
      exact wpAny_pyNext_wide_end (I.ok.hd hc) st hx fun h' eb => ⟨rfl, I.turned (t' := s.toks) (fun b o hb e => eb b o hb e) f0 f1 f3 f4 f5⟩
  self := fun _ _ s _ _ st h => by
    by_cases ha : (S l).cps.all (· < 128) = true
    · have et : strIterType (S l) = "str_ascii_iterator" := by unfold strIterType; rw [if_pos ha]
      rw [et] at st
      exact wpAny_pyIter_striter_ascii st h
    · have et : strIterType (S l) = "str_iterator" := by unfold strIterType; rw [if_neg ha]
      rw [et] at st
      exact wpAny_pyIter_striter_wide st h
section
variable {X : Cx} {tg : Expr}
noncomputable def iStr (tl : TE) : TI := fun σ H R => tl σ H fun x H1 => ∃ l, x = .str (S l) ∧ R (Itx (sgs l)) H1
theorem pi_str {l : Expr} {tl : TE} (hl : PE X l tl) : PI X tg l (iStr tl) := by
  intro pins s σ H R I h
  refine thn (hl pins s σ H _ I h) fun v s1 ⟨x, H1, I1, r1, q1⟩ => ?_
  obtain ⟨l, rfl, q⟩ := q1
  obtain ⟨t, rfl⟩ := r1
  refine wpAny_pyIter_strU ?_
  refine ⟨s1.heap.objs.size, [s1.heap.objs.size], _, _, H1, rfl, I1.kept (t' := s1.toks) fun b o e => Heap.get?_push_of_some _ e, turn_str _ l t, ⟨_, Heap.get?_push_size _ rfl, rfl, rfl⟩, fun b hb => ?_, q⟩
  have e : b = s1.heap.objs.size := by simpa using hb
  subst e
  exact I1.fpOk (Nat.le_refl _) (I1.hok.fresh (Nat.le_refl _))
end
theorem comp_by {J : It} {n : Nat} {xs : Nat → V → Prop} {σc : St} {g : TG} {tc : TT} {te : TE} {Q : VK} {H1 : Hp} (Pv : Nat → List V → Hp → Prop) (hn : n < sizeLine) (hgo : ∀ i acc H, i < n → Pv i acc H → J.go i H) (hstop : ∀ acc H, Pv n acc H → J.stop n H)
    (hy : ∀ i acc H x H', i < n → Pv i acc H → J.yld i H x H' → H' = H ∧ xs i x) (h0 : Pv 0 [] H1)
    (hs : ∀ (i : Nat) (x : V) (acc : List V) (H : Hp) (Nx : List V → Hp → Prop), i < n → xs i x → acc.length ≤ i → Pv i acc H → (∀ acc' H', acc'.length ≤ i + 1 → Pv (i + 1) acc' H' → Nx acc' H') →
      g x σc H fun σ2 H2 => Wk σc σ2 ∧ tc σ2 H2 fun b H3 => if b = true then te σ2 H3 fun v H4 => Nx (acc ++ [v]) H4 else Nx acc H3)
    (hd : ∀ acc H D, acc.length ≤ n → Pv n acc H → H D = none → Q (.ref D) (upd H D (.lst acc))) : CompW J σc g tc te Q H1 := by
  refine ⟨fun i m acc H => m = n - i ∧ i ≤ n ∧ acc.length ≤ i ∧ Pv i acc H, ⟨n, by simp, Nat.zero_le _, Nat.le_refl _, h0⟩, ?_⟩
  rintro i m acc H ⟨rfl, hi, hl, p⟩
  refine ⟨by omega, ?_⟩
  by_cases hlt : i < n
  · refine .inr ⟨hgo i acc H hlt p, fun x H' y => ?_⟩
    obtain ⟨rfl, y2⟩ := hy i acc H x H' hlt p y
    exact hs i x acc _ (fun acc' H' => ∃ m', m' < n - i ∧ (m' = n - (i + 1) ∧ i + 1 ≤ n ∧ acc'.length ≤ i + 1 ∧ Pv (i + 1) acc' H')) hlt y2 hl p fun acc' H' h1 h2 => ⟨n - (i + 1), by omega, rfl, hlt, h1, h2⟩
  · have e : i = n := by omega
    subst e
    exact .inl ⟨hstop acc H p, fun D hD => hd acc H D hl p hD⟩
theorem comp_fix {xs : List V} {σc : St} {g : TG} {tc : TT} {te : TE} {Q : VK} {H1 : Hp} (Pv : Nat → List V → Hp → Prop) (hn : xs.length < sizeLine) (h0 : Pv 0 [] H1)
    (hs : ∀ (i : Nat) (x : V) (acc : List V) (H : Hp) (Nx : List V → Hp → Prop), i < xs.length → xs[i]? = some x → acc.length ≤ i → Pv i acc H → (∀ acc' H', acc'.length ≤ i + 1 → Pv (i + 1) acc' H' → Nx acc' H') →
      g x σc H fun σ2 H2 => Wk σc σ2 ∧ tc σ2 H2 fun b H3 => if b = true then te σ2 H3 fun v H4 => Nx (acc ++ [v]) H4 else Nx acc H3)
    (hd : ∀ acc H D, acc.length ≤ xs.length → Pv xs.length acc H → H D = none → Q (.ref D) (upd H D (.lst acc))) : CompW (Itx xs) σc g tc te Q H1 :=
  comp_by (xs := fun i x => xs[i]? = some x) Pv hn (fun i _ _ h _ => h) (fun _ _ _ => Nat.le_refl _) (fun i _ H x H' _ _ y => y) h0 hs hd
theorem comp_rng {lo : Int} {n : Nat} {σc : St} {g : TG} {tc : TT} {te : TE} {Q : VK} {H1 : Hp} (Pv : Nat → List V → Hp → Prop) (hn : n < sizeLine) (h0 : Pv 0 [] H1)
    (hs : ∀ (i : Nat) (acc : List V) (H : Hp) (Nx : List V → Hp → Prop), i < n → acc.length ≤ i → Pv i acc H → (∀ acc' H', acc'.length ≤ i + 1 → Pv (i + 1) acc' H' → Nx acc' H') →
      g (.int (lo + i)) σc H fun σ2 H2 => Wk σc σ2 ∧ tc σ2 H2 fun b H3 => if b = true then te σ2 H3 fun v H4 => Nx (acc ++ [v]) H4 else Nx acc H3)
    (hd : ∀ acc H D, acc.length ≤ n → Pv n acc H → H D = none → Q (.ref D) (upd H D (.lst acc))) : CompW (Itr lo n) σc g tc te Q H1 :=
  comp_by (xs := fun i x => x = .int (lo + i)) Pv hn (fun i _ _ h _ => h) (fun _ _ _ => Nat.le_refl _) (fun i _ H x H' _ _ y => y) h0 (fun i x acc H Nx h1 h2 => by subst h2; exact hs i acc H Nx h1) hd
theorem comp_list {K : PySem.W.Frag} {a : Addr} {xs : List V} {σc : St} {g : TG} {tc : TT} {te : TE} {Q : VK} {H1 : Hp} (Pv : Nat → List V → Hp → Prop) (hn : xs.length < sizeLine) (hl : ∀ i acc H, Pv i acc H → SqL K H a xs) (h0 : Pv 0 [] H1)
    (hs : ∀ (i : Nat) (x : V) (acc : List V) (H : Hp) (Nx : List V → Hp → Prop), i < xs.length → xs[i]? = some x → acc.length ≤ i → Pv i acc H → (∀ acc' H', acc'.length ≤ i + 1 → Pv (i + 1) acc' H' → Nx acc' H') →
      g x σc H fun σ2 H2 => Wk σc σ2 ∧ tc σ2 H2 fun b H3 => if b = true then te σ2 H3 fun v H4 => Nx (acc ++ [v]) H4 else Nx acc H3)
    (hd : ∀ acc H D, acc.length ≤ xs.length → Pv xs.length acc H → H D = none → Q (.ref D) (upd H D (.lst acc))) : CompW (Itl K a) σc g tc te Q H1 :=
  comp_by (xs := fun i x => xs[i]? = some x) Pv hn (fun i acc H h p => ⟨xs, xs[i], hl i acc H p, by simp [h]⟩) (fun acc H p => ⟨xs, hl _ acc H p, Nat.le_refl _⟩) (fun i acc H x H' h p y => ⟨y.1, y.2 xs (hl i acc H p)⟩) h0 hs hd

noncomputable def tWhileN (c : TT) (tb : TS) : TS := fun D σ H => ∃ W : Nat → St → Hp → Prop, (∃ m, W m σ H) ∧ ∀ m σ H, W m σ H →
  c σ H fun b H1 => if b = true then tb { D with nx := fun σ' H' => ∃ m', m' < m ∧ W m' σ' H', ct := fun σ' H' => ∃ m', m' < m ∧ W m' σ' H', bk := D.nx } σ H1 else D.nx σ H1
theorem ps_whileN {X : Cx} {c : Expr} {body : List Stmt} {tc : TT} {tb : TS} {pos : Pos} (hp : PassesOwn (model X.prog X.w) X.A X.env X.xe) (hc : PT X c tc) (hb : PSs X body tb) : PS X (.While c body [] pos) (tWhileN tc tb) := by
  intro pins s σ H D I h
  obtain ⟨W, ⟨m0, w0⟩, turn⟩ := h
  refine wpAny_While (codeAny_whileLoop (fun n s' => ∃ σ' H', Inv X pins σ' H' s' ∧ W n σ' H') ?_ m0 ⟨σ, H, I, w0⟩)
  rintro n s1 ⟨σ1, H1, I1, w1⟩
  refine wpAny_passesOwn hp (thn (hc pins s1 σ1 H1 _ I1 (turn n σ1 H1 w1)) fun b s2 ⟨H2, I2, q2⟩ => ?_)
  cases b with
  | true =>
    rw [if_pos rfl] at q2 ⊢
    refine wpAny_passesOwn hp (thn (hb pins s2 σ1 H2 _ I2 q2) fun f s3 q3 => ?_)
    cases f with
    | next =>
      obtain ⟨σ3, H3, I3, m', hm, w3⟩ := q3
      exact ⟨m', hm, σ3, H3, I3, w3⟩
    | cont =>
      obtain ⟨σ3, H3, I3, m', hm, w3⟩ := q3
      exact ⟨m', hm, σ3, H3, I3, w3⟩
    | brk => exact q3
    | ret v => exact q3
  | false =>
    rw [if_neg Bool.false_ne_true] at q2 ⊢
    exact wpAny_execs_nil ⟨σ1, H2, I2, q2⟩

noncomputable def compOk (X : Cx) (scope : Scope) : Bool := (scope.names.all fun y => y.2 != .cell) && (scope.kind == .function) && (scope.names.all fun y => y.2 != .free || X.env.kindOf y.1 == some .cell || X.env.kindOf y.1 == some .free) && (scope.names.all fun y => y.2 != .local || scope.names.lookup y.1 == some .local)
theorem compOk_parts {X : Cx} {scope : Scope} (h : compOk X scope = true) : (∀ y ∈ scope.names, y.2 ≠ .cell) ∧ scope.kind = .function ∧ (∀ y ∈ scope.names, y.2 = .free → X.env.kindOf y.1 = some .cell ∨ X.env.kindOf y.1 = some .free) ∧ (∀ x ∈ scope.names, x.2 = .local → scope.names.lookup x.1 = some .local) := by
  unfold compOk at h
  simp only [Bool.and_eq_true] at h
  obtain ⟨⟨⟨h1, h2⟩, h3⟩, h4⟩ := h
  refine ⟨fun y hy e => ?_, by simpa using h2, fun y hy e => ?_, fun y hy e => ?_⟩
  · have := List.all_eq_true.mp h1 y hy
    rw [e] at this; simp at this
  · have := List.all_eq_true.mp h3 y hy
    rw [e] at this
    simpa using this
  · have := List.all_eq_true.mp h4 y hy
    rw [e] at this
    simpa using this
theorem pe_compB {X : Cx} {tg iter elt : Expr} {ifs : List Expr} {scope : Scope} {pos : Pos} {wi : TI} {g : TG} {tc : TT} {te : TE} (Nc : List Str) (ix : List (Option Nat)) (hi : PI X tg iter wi) (hix : IxOk X scope Nc ix)
    (hG : ∀ C s H fp, PG (cxComp X scope C Nc s H fp) tg g) (hT : ∀ C s H fp, PF (cxComp X scope C Nc s H fp) ifs tc) (hE : ∀ C s H fp, PE (cxComp X scope C Nc s H fp) elt te) (hok : compOk X scope = true := by rfl) (hcalm : X.calm = true := by rfl)
    (hs : ∀ x, foldedSetIterable iter X.env x = pure x := by intro _; rfl) : PE X (.ListComp elt [⟨tg, iter, ifs, 0⟩] scope pos) (tComp wi ix g tc te) :=
  let ⟨h1, h2, h3, h4⟩ := compOk_parts hok
  pe_comp Nc ix hi hcalm hix h1 h2 h3 h4 hG hT hE hs
theorem ps_setCB {X : Cx} {i : Nat} {x : Str} {tg iter elt : Expr} {ifs : List Expr} {scope : Scope} {pos spos pos' : Pos} {wi : TI} {g : TG} {tc : TT} {te : TE} (Nc : List Str) (ix : List (Option Nat)) (hN : X.N.Nodup) (hxi : X.N[i]? = some x) (hx : Loc X.env.scope x)
    (hi : PI X tg iter wi) (hix : IxOk X scope Nc ix)
    (hG : ∀ C s H fp, PG (cxComp X scope C Nc s H fp) tg g) (hT : ∀ C s H fp, PF (cxComp X scope C Nc s H fp) ifs tc) (hE : ∀ C s H fp, PE (cxComp X scope C Nc s H fp) elt te)
    (hsw : swapsWith (.ListComp elt [⟨tg, iter, ifs, 0⟩] scope pos) (some (.Name x pos')) spos.line X.env = pure true := by rfl) (hok : compOk X scope = true := by rfl) (hcalm : X.calm = true := by rfl)
    (hs : ∀ x, foldedSetIterable iter X.env x = pure x := by intro _; rfl) (hf : X.fn x = true ∨ X.env.scope.names.lookup x = some .local := by first | exact .inl rfl | exact .inr rfl | assumption) :
    PS X (.Assign [.Name x pos'] (.ListComp elt [⟨tg, iter, ifs, 0⟩] scope pos) spos) (tAsg (tComp wi ix g tc te) (gName i)) :=
  let ⟨h1, h2, h3, h4⟩ := compOk_parts hok
  ps_setC Nc ix hN hxi hx hsw hi hcalm hix h1 h2 h3 h4 hG hT hE hs hf

section
variable {X : Cx}
noncomputable def rEqS : R2 := fun x y H Q => ∃ a b, x = .str (S a) ∧ y = .str (S b) ∧ Q (.bl (decide (a = b))) H
noncomputable def rNeS : R2 := fun x y H Q => ∃ a b, x = .str (S a) ∧ y = .str (S b) ∧ Q (.bl (!decide (a = b))) H
theorem op_eqS : OpR X (compareOp .Eq) rEqS := by
  intro pins s σ H x y v u Q I rx ry h
  obtain ⟨a, b, rfl, rfl, q⟩ := h
  exact op_eq pins s σ H _ _ v u Q I rx ry ⟨rfl, by rw [dec_S]; exact q⟩
theorem op_neS : OpR X (compareOp .NotEq) rNeS := by
  intro pins s σ H x y v u Q I rx ry h
  obtain ⟨a, b, rfl, rfl, q⟩ := h
  exact op_ne pins s σ H _ _ v u Q I rx ry ⟨rfl, by rw [dec_S]; exact q⟩
theorem dec_I {i j : Int} : decide (V.int i = V.int j) = decide (i = j) := by
  by_cases h : i = j
  · subst h; simp
  · rw [decide_eq_false h, decide_eq_false]
    intro q
    exact h (V.int.inj q)
theorem op_eqI : OpR X (compareOp .Eq) (rI0 fun i j => .bl (decide (i = j))) := by
  intro pins s σ H x y v u Q I rx ry h
  obtain ⟨a, b, rfl, rfl, q⟩ := h
  exact op_eq pins s σ H _ _ v u Q I rx ry ⟨rfl, by rw [dec_I]; exact q⟩
theorem op_neI : OpR X (compareOp .NotEq) (rI0 fun i j => .bl (!decide (i = j))) := by
  intro pins s σ H x y v u Q I rx ry h
  obtain ⟨a, b, rfl, rfl, q⟩ := h
  exact op_ne pins s σ H _ _ v u Q I rx ry ⟨rfl, by rw [dec_I]; exact q⟩
end
end L2
namespace L2
open PySem PySem.Spec PyProof.Rows
section
variable {X : Cx} {tg : Expr}
theorem ix_listK (K : PySem.W.Frag) (h : X.K = K) : IxR X (rIxL K) := by subst h; exact ix_list
theorem ix_tupK (K : PySem.W.Frag) (h : X.K = K) : IxR X (rIxT K) := by subst h; exact ix_tup
noncomputable def rLenL (K : PySem.W.Frag) : List V → Hp → VK → Prop := fun xs H Q => ∃ p ys, xs = [.ref p] ∧ (SqL K H p ys ∨ SqT K H p ys) ∧ Q (.int ys.length) H
theorem call_len_seqK (K : PySem.W.Frag) (h : X.K = K) : CallR X (.builtin "len") (rLenL K) := by subst h; exact call_len_seq
theorem mt_joinK (K : PySem.W.Frag) (h : X.K = K) : MtR X "str.join" (rJoinS K) := by subst h; exact mt_joinS
noncomputable def rListOf (K : PySem.W.Frag) : List V → Hp → VK → Prop := fun xs H Q => ∃ p ys, xs = [.ref p] ∧ (SqL K H p ys ∨ SqT K H p ys) ∧ ∀ l, H l = none → Q (.ref l) (upd H l (.lst ys))
theorem call_list_ofK (K : PySem.W.Frag) (h : X.K = K) : CallR X (.type "list") (rListOf K) := by subst h; exact call_list_of
theorem sl_listK (K : PySem.W.Frag) (h : X.K = K) : SlR X (rSlL K) := by subst h; exact sl_list
theorem pi_listK (K : PySem.W.Frag) (h : X.K = K) {l : Expr} {tl : TE} (hl : PE X l tl) : PI X tg l (iList K tl) := by subst h; exact pi_list hl
theorem pi_tupK (K : PySem.W.Frag) (h : X.K = K) {l : Expr} {tl : TE} (hl : PE X l tl) : PI X tg l (iTup K tl) := by subst h; exact pi_tup hl
end
section
variable {X : Cx} {o e : Expr} {es : List Expr} {to : TE} {t : TA} {name : Str} {apos cpos : Pos} {T id : String} {r : V → List V → Hp → VK → Prop}
theorem pe_bm0K (K : PySem.W.Frag) (hK : X.K = K) (pa : PlainAttrs T) (slot : Slot T name id) (hty : typeOf (.builtin id) = pure (.type "method_descriptor")) (hm : MtR X id r) (ho : PE X o to)
    (hbase : attributeBase o name X.env (eval o X.env) = eval o X.env := by rfl) (hline : (apos.endLine == cpos.line) = true := by rfl) : PE X (.Call (.Attribute o name apos) [] [] cpos) (tBM0 K T r to) := by
  subst hK
  exact pe_bm0 pa slot hty hm ho hbase hline
theorem pe_bmK (K : PySem.W.Frag) (hK : X.K = K) (pa : PlainAttrs T) (slot : Slot T name id) (hty : typeOf (.builtin id) = pure (.type "method_descriptor")) (hm : MtR X id r) (ho : PE X o to) (ha : PA X (e :: es) t)
    (hbase : attributeBase o name X.env (eval o X.env) = eval o X.env := by rfl)
    (hfew : ((backTo cpos (starEach (e :: es) X.env)).all (fun x => !x.1) && (backToKw cpos (keywordEach [] X.env)).all (fun x => x.1.isSome)
      && decide ((e :: es).length + ([] : List Keyword).length + (if ([] : List Keyword).isEmpty then 0 else 1) < 30)) = true := by rfl)
    (hline : (apos.endLine == cpos.line) = true := by rfl) (hs : starEach (e :: es) X.env = (false, eval e X.env) :: starEach es X.env := by rfl) (hplain : (backTo cpos (starEach es X.env)).any (·.1) = false := by rfl) :
    PE X (.Call (.Attribute o name apos) (e :: es) [] cpos) (tBM K T r to t) := by
  subst hK
  exact pe_bm pa slot hty hm ho ha hbase hfew hline hs hplain
end
end L2
namespace L2
open PySem PySem.Spec PyProof.Rows
mutual
inductive RdD (K : PySem.W.Frag) (H : Hp) : V → PyData → Prop
  | non : RdD K H .non .none
  | bl (b : Bool) : RdD K H (.bl b) (.bool b)
  | int (i : Int) : RdD K H (.int i) (.int i)
  | str (x : Str) : RdD K H (.str x) (.str x)
  | lst {a : Addr} {xs : List V} {ds : List PyData} (h : SqL K H a xs) (r : RdDs K H xs ds) : RdD K H (.ref a) (.list ds)
  | tup {a : Addr} {xs : List V} {ds : List PyData} (h : SqT K H a xs) (r : RdDs K H xs ds) : RdD K H (.ref a) (.tuple ds)
inductive RdDs (K : PySem.W.Frag) (H : Hp) : List V → List PyData → Prop
  | nil : RdDs K H [] []
  | cons {x : V} {xs : List V} {d : PyData} {ds : List PyData} (h : RdD K H x d) (r : RdDs K H xs ds) : RdDs K H (x :: xs) (d :: ds)
end
section
variable {X : Cx} {pins : List (Addr × Obj)} {σ : St} {H : Hp} {s : Shared}
mutual
theorem RdD.reads (I : Inv X pins σ H s) : ∀ {x : V} {d : PyData} {u : Value}, RdD X.K H x d → RelV x u → ∃ as, Reads s.heap u d as
  | _, _, u, .non, r => by cases (show u = Value.none from r); exact ⟨_, .none⟩
  | _, _, u, .bl b, r => by cases (show u = Value.bool b from r); exact ⟨_, .bool b⟩
  | _, _, u, .int i, r => by obtain ⟨t, rfl⟩ := r; exact ⟨_, .int i t⟩
  | _, _, u, .str x, r => by obtain ⟨t, rfl⟩ := r; exact ⟨_, .str x t⟩
  | _, _, u, .lst (a := a) h q, r => by
    cases (show u = Value.ref a from r)
    obtain ⟨its, rv, pl, _⟩ := I.list h
    obtain ⟨as, ra⟩ := RdDs.reads I q rv
    obtain ⟨o, ho, hc, n, hd⟩ := pl.isList
    exact ⟨_, .list ho hc hd (by simpa using ra)⟩
  | _, _, u, .tup (a := a) h q, r => by
    cases (show u = Value.ref a from r)
    obtain ⟨its, rv, pl, _⟩ := I.tuple h
    obtain ⟨as, ra⟩ := RdDs.reads I q rv
    obtain ⟨o, ho, hc, n, hd⟩ := pl
    exact ⟨_, .tuple ho hc hd (by simpa using ra)⟩
theorem RdDs.reads (I : Inv X pins σ H s) : ∀ {xs : List V} {ds : List PyData} {us : List Value}, RdDs X.K H xs ds → Vals xs us → ∃ as, ReadsAll s.heap us ds as
  | _, _, us, .nil, r => by cases r; exact ⟨_, .nil⟩
  | _, _, us, .cons h q, r => by
    cases r with
    | cons r1 r2 =>
      obtain ⟨as, ra⟩ := RdD.reads I h r1
      obtain ⟨bs, rb⟩ := RdDs.reads I q r2
      exact ⟨_, .cons ra rb⟩
end
mutual
theorem RdD.noDict {K : PySem.W.Frag} : ∀ {x : V} {d : PyData}, RdD K H x d → d.hasDict = false
  | _, _, .non => rfl
  | _, _, .bl b => rfl
  | _, _, .int i => rfl
  | _, _, .str x => rfl
  | _, _, .lst h q => by show PyData.hasDictAll _ = false; exact RdDs.noDict q
  | _, _, .tup h q => by show PyData.hasDictAll _ = false; exact RdDs.noDict q
theorem RdDs.noDict {K : PySem.W.Frag} : ∀ {xs : List V} {ds : List PyData}, RdDs K H xs ds → PyData.hasDictAll ds = false
  | _, _, .nil => rfl
  | _, _, .cons h q => by
    show (PyData.hasDict _ || PyData.hasDictAll _) = false
    rw [RdD.noDict h, RdDs.noDict q]; rfl
end
end
section
variable {X : Cx}
noncomputable def rEqD (K : PySem.W.Frag) : R2 := fun x y H Q => ∃ dx dy, RdD K H x dx ∧ RdD K H y dy ∧ (dx.canLay0 = true ∧ dy.canLay0 = true) ∧ dx.depth ≤ 60 ∧ Q (.bl (PyData.eqv dx dy)) H
noncomputable def rNeD (K : PySem.W.Frag) : R2 := fun x y H Q => ∃ dx dy, RdD K H x dx ∧ RdD K H y dy ∧ (dx.canLay0 = true ∧ dy.canLay0 = true) ∧ dx.depth ≤ 60 ∧ Q (.bl (!PyData.eqv dx dy)) H
theorem op_eqD {k : Nat} (K : PySem.W.Frag) (h : X.K = K) (hr : Room k X.A) : OpR X (compareOp .Eq) (rEqD K) := by
  subst h
  intro pins s σ H x y v u Q I rx ry h
  obtain ⟨dx, dy, h1, h2, ⟨h3, h4⟩, h5, q⟩ := h
  obtain ⟨as, ra⟩ := h1.reads I rx
  obtain ⟨bs, rb⟩ := h2.reads I ry
  have hu := hr.units
  exact SeqAt.compareEq_reads ra rb h3 h4 (by omega) ⟨.bl _, H, I, rfl, q⟩
theorem op_neD {k : Nat} (K : PySem.W.Frag) (h : X.K = K) (hr : Room k X.A) : OpR X (compareOp .NotEq) (rNeD K) := by
  subst h
  intro pins s σ H x y v u Q I rx ry h
  obtain ⟨dx, dy, h1, h2, ⟨h3, h4⟩, h5, q⟩ := h
  obtain ⟨as, ra⟩ := h1.reads I rx
  obtain ⟨bs, rb⟩ := h2.reads I ry
  have hu := hr.units
  exact SeqAt.compareNe_reads ra rb h3 h4 (by omega) ⟨.bl _, H, I, rfl, q⟩
theorem pg_tupK (K : PySem.W.Frag) (h : X.K = K) {es : List Expr} {k : Nat} {t : TGs} {n : Nat} {pos : Pos} (hc : X.calm = true) (hs : PGs X es t)
    (hn : (assignEach es X.env).length = n := by rfl) (hst : (assignEach es X.env).findIdx? (·.1) = none := by rfl) : PG X (.Tuple es k pos) (gTup K n t) := by
  subst h
  exact pg_tup hc hs hn hst
end
end L2
namespace L2
open PySem PySem.Spec PyProof.Rows
noncomputable def lesser (a b : List Nat) : List Nat := if b < a then b else a
noncomputable def leastOf : List Nat → List (List Nat) → List Nat
  | a, [] => a
  | a, b :: r => leastOf (lesser a b) r
section
variable {X : Cx}
end
end L2
namespace L2
open PySem PySem.Spec PyProof.Rows
section
variable {X : Cx}
theorem op_inK (K : PySem.W.Frag) (h : X.K = K) : OpR X (compareOp .In) (rIn K false) := by subst h; exact op_in_seq
theorem op_ninK (K : PySem.W.Frag) (h : X.K = K) : OpR X (compareOp .NotIn) (rIn K true) := by subst h; exact op_notIn_seq
structure SmD (k n : Nat) (d : PyData) : Prop where
  lv : d.leavesShort 13 = true
  sh : d.showable = true
  ly : d.canLay0 = true
  dp : d.depth ≤ k
  wt : d.weight ≤ n
structure SmDs (k n : Nat) (ds : List PyData) : Prop where
  lv : PyData.leavesShortAll 13 ds = true
  sh : PyData.showableAll ds = true
  ly : PyData.canLayAll0 ds = true
  dp : PyData.depthAll ds ≤ k
  wt : PyData.weightAll ds ≤ n
theorem SmD.str {k n : Nat} {l : List Nat} (h : ∀ c ∈ l, c < 128) (hn : l.length ≤ n) : SmD k n (.str (S l)) := by
  refine ⟨?_, rfl, ?_, Nat.zero_le _, by show (S l).cps.size ≤ n; rw [S_size]; exact hn⟩
  · show ((S l).cps.toList.all fun c => decide (c < 16 ^ 8)) = true
    rw [S_list, List.all_eq_true]
    intro c hc
    have := h c hc
    exact decide_eq_true (by omega)
  · show PyData.strOk (S l) = true
    unfold PyData.strOk
    rw [Array.all_eq_true_iff_forall_mem]
    intro c hc
    have : c ∈ l := by simpa [S] using hc
    have := h c this
    simp; omega
theorem SmD.bl {k n : Nat} (b : Bool) : SmD k n (.bool b) := ⟨rfl, rfl, rfl, Nat.zero_le _, Nat.zero_le _⟩
theorem SmD.non {k n : Nat} : SmD k n .none := ⟨rfl, rfl, rfl, Nat.zero_le _, Nat.zero_le _⟩
theorem SmD.int {k n : Nat} {i : Int} (h : i.natAbs < 10 ^ 12) (hn : 40 ≤ n) : SmD k n (.int i) := by
  have hl : i.natAbs.log2 < 40 := by
    by_cases z : i.natAbs = 0
    · rw [z]; decide
    · rw [Nat.log2_lt z]
      exact Nat.lt_trans h (by decide)
  refine ⟨?_, ?_, rfl, Nat.zero_le _, ?_⟩
  · show decide ((PyData.shown (.int i)).length ≤ 13) = true
    exact decide_eq_true (PyData.shown_int_le h)
  · show decide (i.natAbs.log2 < 1920) = true
    exact decide_eq_true (by omega)
  · show (if i == 0 then 0 else i.natAbs.log2 + 1) ≤ n
    split <;> omega
theorem SmDs.nil {k n : Nat} : SmDs k n [] := ⟨rfl, rfl, rfl, Nat.zero_le _, Nat.zero_le _⟩
theorem SmDs.cons {k a b n : Nat} {x : PyData} {xs : List PyData} (h : SmD k a x) (t : SmDs k b xs) (hn : a + 1 + b ≤ n) : SmDs k n (x :: xs) := by
  refine ⟨?_, ?_, ?_, ?_, ?_⟩
  · show (PyData.leavesShort 13 x && PyData.leavesShortAll 13 xs) = true; rw [h.lv, t.lv]; rfl
  · show (PyData.showable x && PyData.showableAll xs) = true; rw [h.sh, t.sh]; rfl
  · show (PyData.canLay0 x && PyData.canLayAll0 xs) = true; rw [h.ly, t.ly]; rfl
  · show max (PyData.depth x) (PyData.depthAll xs) ≤ k; exact Nat.max_le.mpr ⟨h.dp, t.dp⟩
  · show PyData.weight x + 1 + PyData.weightAll xs ≤ n
    have := h.wt; have := t.wt; omega
theorem SmDs.all {k a : Nat} : ∀ {xs : List PyData} {n : Nat}, (∀ x ∈ xs, SmD k a x) → (a + 1) * xs.length ≤ n → SmDs k n xs
  | [], _, _, _ => .nil
  | x :: xs, n, h, hn => .cons (b := (a + 1) * xs.length) (h x List.mem_cons_self) (SmDs.all (fun y hy => h y (List.mem_cons_of_mem _ hy)) (Nat.le_refl _)) (by rw [List.length_cons, Nat.mul_succ] at hn; omega)
theorem SmD.lst {k n : Nat} {ds : List PyData} (h : SmDs k n ds) : SmD (k + 1) n (.list ds) := ⟨h.lv, h.sh, h.ly, Nat.succ_le_succ h.dp, h.wt⟩
theorem SmD.tup {k n : Nat} {ds : List PyData} (h : SmDs k n ds) : SmD (k + 1) n (.tuple ds) := ⟨h.lv, h.sh, h.ly, Nat.succ_le_succ h.dp, h.wt⟩
theorem SmD.fits {k n : Nat} {d : PyData} (h : SmD k n d) (hn : n ≤ 2 ^ 20) : d.shown.length ≤ sizeLine := PyData.shown_fits (by decide) (by decide) h.lv (Nat.le_trans h.wt hn)
noncomputable def RT (d : PyData) : List Nat := d.shown.cps.toList
noncomputable def rReprD (K : PySem.W.Frag) : List V → Hp → VK → Prop := fun xs H Q => ∃ v d, xs = [v] ∧ RdD K H v d ∧ SmD 40 100000 d ∧ Q (.str (S (RT d))) H
theorem call_reprD {k : Nat} (K : PySem.W.Frag) (h : X.K = K) (hr : Room k X.A) : CallR X (.builtin "repr") (rReprD K) := by
  subst h
  intro pins s σ H xs us Q I r h
  obtain ⟨v, d, rfl, h1, h2, q⟩ := h
  have hz := h2.fits (by decide)
  obtain ⟨u, rfl, ru⟩ := vals1 r
  unfold RT at q
  rw [← S_of] at q
  have onref : ∀ (a : Addr) (d : PyData), RdD X.K H (.ref a) d → SmD 40 100000 d → d.shown.length ≤ sizeLine → Q (.str d.shown) H → u = Value.ref a → wpAny (model X.prog X.w) X.A (call (.builtin "repr") [u]) (EP X pins σ Q) X.xe s := by
    intro a d h1 h2 hz q e
    obtain ⟨as, ra⟩ := h1.reads I (show RelV (.ref a) u from e)
    subst e
    have hu := hr.units
    have := h2.dp
    exact repr_of_reads' (h₀ := s.heap) ra h2.sh (fun z => by rw [h1.noDict] at z; cases z) hr.gd (by omega) (fun _ _ e => e) (fun h' u tk hk => ⟨.str d.shown, H, I.kept (t' := tk) hk, ⟨u, rfl⟩, q⟩) hz
  cases h1 with
  | non => cases (show u = Value.none from ru); exact P.repr_of_none ⟨.str _, H, I.tok _, ⟨_, rfl⟩, q⟩
  | bl b => cases (show u = Value.bool b from ru); exact P.repr_of_bool ⟨.str _, H, I.tok _, ⟨_, rfl⟩, by cases b <;> exact q⟩
  | int i =>
    obtain ⟨t, rfl⟩ := ru
    exact P.repr_of_int (of_decide_eq_true h2.sh) ⟨.str _, H, I.tok _, ⟨_, rfl⟩, q⟩
  | str x =>
    obtain ⟨t, rfl⟩ := ru
    exact P.repr_of_str ⟨.str _, H, I.tok _, ⟨_, rfl⟩, q⟩ hz
  | lst h1 h3 => exact onref _ _ (.lst h1 h3) h2 hz q ru
  | tup h1 h3 => exact onref _ _ (.tup h1 h3) h2 hz q ru
end
end L2
namespace L2
open PySem PySem.Spec PyProof.Rows
end L2
namespace L2
open PySem PySem.Spec PyProof.Rows
section
variable {X : Cx}
end
end L2
namespace L2
open PySem PySem.Spec PyProof.Rows
section
variable {X : Cx} {pins : List (Addr × Obj)} {σ : St} {H : Hp} {s : Shared} {h' : Heap}
theorem Inv.turnLaid {t' : Nat} {ch : List Addr} {T : Addr} {ob : HO} (I : Inv X pins σ H s) (k : ∀ b o, b ∉ ch → s.heap.get? b = some o → h'.get? b = some o) (hf : ∀ b ∈ ch, FpOk X pins H b)
    (hT : s.heap.objs.size ≤ T) (new : ObjOk X.prog X.w (upd H T ob) h' T ob) : Inv X pins σ (upd H T ob) { s with heap := h', toks := t' } := by
  have hn := I.hok.fresh hT
  have nit : ∀ b u, H b = some u → b ∉ ch := fun b u e z => by rw [(hf b z).1] at e; cases e
  have neT : ∀ b o, s.heap.get? b = some o → b ≠ T := fun b o e z => absurd (Nat.lt_of_lt_of_le (Heap.lt_size e) hT) (by rw [z]; exact Nat.lt_irrefl _)
  refine I.step (g' := s.gens) (d' := s.drawn) (ch := ch) (fun b hb => ?_) (fun b o _ _ hc e _ => k b o hc e) (fun b o _ _ hc e _ => ⟨o.slots, k b o hc e⟩) (fun b o _ e n => by rw [upd_ne (neT b o e)]; exact n)
    (fun b o hc e => ⟨o, k b o hc e⟩) (fun b xs e => by rw [upd_ne (ne_of_none e hn)]; exact e) (fun b o u e => by rw [upd_ne (ne_of_none e hn)]; exact e) (fun b ps e => ⟨#[], by rw [upd_ne (ne_of_none e hn), e]; simp⟩) (fun m hm => ?_) (fun b u e => ?_) I.bare
  · obtain ⟨_, h2, _, h4, h5, h6⟩ := hf b hb
    exact ⟨h4, h2, h5, h6⟩
  · obtain ⟨o, es, ep, ho, r⟩ := hm
    exact ⟨o, es, ep, k _ o (fun z => (hf _ z).2.1 rfl) ho, r⟩
  · by_cases hb : b = T
    · subst hb; rw [upd_same] at e; cases e; exact new
    · rw [upd_ne hb] at e
      refine (I.hok b u e).stay (fun c v hc q => k c v ?_ q) (fun c q => by rw [upd_ne (ne_of_none q hn)]; exact q) fun c xs q => by rw [upd_ne (ne_of_none q hn)]; exact q
      rcases hc with z | z
      · rw [z]; exact nit b u e
      · exact nit c _ z
theorem Inv.turnedL {t' : Nat} {ch : List Addr} (I : Inv X pins σ H s) (k : ∀ b o, b ∉ ch → s.heap.get? b = some o → h'.get? b = some o) (hf : ∀ b ∈ ch, FpOk X pins H b) : Inv X pins σ H { s with heap := h', toks := t' } := by
  have nit : ∀ b u, H b = some u → b ∉ ch := fun b u e z => by rw [(hf b z).1] at e; cases e
  refine I.step (g' := s.gens) (d' := s.drawn) (ch := ch) (fun b hb => ?_) (fun b o _ _ hc e _ => k b o hc e) (fun b o _ _ hc e _ => ⟨o.slots, k b o hc e⟩) (fun b o _ e n => n)
    (fun b o hc e => ⟨o, k b o hc e⟩) (fun b xs e => e) (fun b o u e => e) (fun b ps e => ⟨#[], by rw [e]; simp⟩) (fun m hm => ?_) (fun b u e => ?_) I.bare
  · obtain ⟨_, h2, _, h4, h5, h6⟩ := hf b hb
    exact ⟨h4, h2, h5, h6⟩
  · obtain ⟨o, es, ep, ho, r⟩ := hm
    exact ⟨o, es, ep, k _ o (fun z => (hf _ z).2.1 rfl) ho, r⟩
  · refine (I.hok b u e).stay (fun c v hc q => k c v ?_ q) (fun c q => q) fun c xs q => q
    rcases hc with z | z
    · rw [z]; exact nit b u e
    · exact nit c _ z
end
noncomputable def ItE (l : List Nat) : It := ⟨fun i _ => i < l.length, fun i H x H' => ∃ T c, l[i]? = some c ∧ x = .ref T ∧ H T = none ∧ H' = upd H T (.tup [.int i, .str (S [c])]), fun i _ => l.length ≤ i⟩
theorem draws_str {prog : Program} {w : World} {A : Around} (hh : A.handled = none) (it : Addr) (x : Str) (t : Tok) :
    Draws prog w A it [it] x.cps.size (fun i v => ∃ c u, x.cps[i]? = some c ∧ v = .str ⟨#[c]⟩ u) (fun i h => h.IsStrIter it (strIterType x) x t i) := by
  by_cases ha : x.cps.all (· < 128) = true
  · have et : strIterType x = "str_ascii_iterator" := by unfold strIterType; rw [if_pos ha]
    rw [et]; exact Draws.strAscii hh it x t
  · have et : strIterType x = "str_iterator" := by unfold strIterType; rw [if_neg ha]
    rw [et]; exact Draws.strWide hh it x t
theorem turn_enumS {P : Program} {w : World} {K : PySem.W.Frag} {elts : List Expr} {k : Nat} {pos : Pos} (e it : Addr) (hei : e ≠ it) (l : List Nat) (t : Tok) :
    Turn P w K (.Tuple elts k pos) (ItE l) [e, it] e (fun i h => i ≤ l.length ∧ (∃ old, IsEnum h e it i old) ∧ h.IsStrIter it (strIterType (S l)) (S l) t i) where
  mem := by simp
  obj := fun i h st b hb => by
    obtain ⟨_, ⟨old, he⟩, o, ho, hc, hd⟩ := st
    rcases List.mem_cons.mp hb with z | z
    · rw [z]; exact ⟨_, he, fun v z => by cases z⟩
    · rw [List.mem_singleton.mp z]; exact ⟨o, ho, fun v z => by rw [hd] at z; cases z⟩
  keep := fun i h h' st kp => by
    obtain ⟨h1, ⟨old, he⟩, o, ho, r⟩ := st
    exact ⟨h1, ⟨old, kp e (by simp) _ he⟩, o, kp it (by simp) o ho, r⟩
  item := by
    intro X hP hw hK hc i pins s σ H E I hf st hg
    subst hP hw hK
    obtain ⟨_, st1, st2⟩ := st
    have D := draws_str (prog := X.prog) (w := X.w) (A := X.A.in1) (I.ok.hd hc) it (S l) t
    have W := WalksT.enumerateD D e hei (by simpa using hei) (by simp)
    have hi : i < (S l).cps.size := by rw [S_size]; exact hg
    refine W.item i s _ _ hi ⟨st1, st2⟩ fun T vals h' tk hPt hT hTup hMid hk => ⟨_, rfl, ?_⟩
    refine W.go elts k pos i T { s with heap := h', toks := tk } _ _ hMid fun h2 hst2 hk2 => ?_
    obtain ⟨tt, x, ⟨c, u, hcx, rfl⟩, rfl⟩ := hPt
    have hTw : T ∉ [e, it] := W.apart i T h' hMid
    have hTup2 : h2.IsTuple T #[.int i tt, .str ⟨#[c]⟩ u] := by
      obtain ⟨o, ho, r⟩ := hTup
      exact ⟨o, hk2 T o hTw ho, r⟩
    have hl : l[i]? = some c := by simpa [S] using hcx
    refine ⟨.ref T, upd H T (.tup [.int i, .str (S [c])]), ?_, rfl, ⟨T, c, hl, rfl, I.hok.fresh hT, rfl⟩, ⟨hg, hst2.1, hst2.2⟩, fun b hb => ?_⟩
    · refine I.turnLaid (t' := tk) (h' := h2) (fun b o hb y => hk2 b o hb (hk b o hb y)) hf hT ?_
      exact ⟨by show 2 ≤ sizeLine; decide, [.int i tt, .str ⟨#[c]⟩ u], .cons ⟨tt, rfl⟩ (.cons ⟨u, rfl⟩ .nil), hTup2⟩
    · rw [upd_ne (fun z : b = T => hTw (z ▸ hb))]; exact (hf b hb).1
  done := by
    intro X hP hw hK hc i pins s σ H E I hf st hg
    subst hP hw hK
    obtain ⟨h1, st1, st2⟩ := st
    have e1 : i = l.length := Nat.le_antisymm h1 hg
    have D := draws_str (prog := X.prog) (w := X.w) (A := X.A.in1) (I.ok.hd hc) it (S l) t
    have W := WalksT.enumerateD D e hei (by simpa using hei) (by simp)
    refine W.done s _ _ ?_ fun h' tk hk => ⟨rfl, I.turnedL (t' := tk) hk hf⟩
    rw [S_size, ← e1]
    exact ⟨st1, st2⟩
  self := fun _ _ s _ _ st h => by
    obtain ⟨_, ⟨old, he⟩, _⟩ := st
    exact wpAny_pyIter_enum he h
noncomputable def iEnumS (ta : TA) : TI := fun σ H R => ta σ H fun vs H1 => ∃ l, vs = [.str (S l)] ∧ R (ItE l) H1
theorem pi_enumS {X : Cx} {elts : List Expr} {k : Nat} {pos' : Pos} {a : Expr} {ta : TA} {p pos : Pos} (hg : Gl X "enumerate") (hm : X.mg "enumerate" = none) (ha : PA X [a] ta) (hs : starEach [a] X.env = [(false, eval a X.env)] := by rfl) : PI X (.Tuple elts k pos') (.Call (.Name "enumerate" p) [a] [] pos) (iEnumS ta) := by
  intro pins s σ H R I h
  refine Call_ (ld_blt I hg hm boot_enumerate (PyProof.Rows.callWith_type1 (thn (ha pos pins s σ H _ I h) fun us s1 ⟨vs, H1, I1, r1, q1⟩ => ?_) hs rfl))
  obtain ⟨l, rfl, q⟩ := q1
  obtain ⟨u, rfl, t, rfl⟩ := vals1 r1
  refine call_enumerate_str fun h' he hit hsz hk => ?_
  refine wpAny_pyIter_enum he ?_
  refine ⟨s1.heap.objs.size + 1, [s1.heap.objs.size + 1, s1.heap.objs.size], _, _, H1, rfl, I1.kept (t' := s1.toks) hk, turn_enumS _ _ (Nat.succ_ne_self _) l t, ⟨Nat.zero_le _, ⟨_, he⟩, hit⟩, fun b hb => ?_, q⟩
  have hb2 : s1.heap.objs.size ≤ b := by
    rcases List.mem_cons.mp hb with z | z
    · rw [z]; exact Nat.le_succ _
    · rw [List.mem_singleton.mp z]; exact Nat.le_refl _
  exact I1.fpOk hb2 (I1.hok.fresh hb2)
theorem for_enum {l : List Nat} {g : TG} {tb : TS} {D : Ends} {σ : St} {H : Hp} (Pv : Nat → St → Hp → Prop) (h0 : Pv 0 σ H)
    (hs : ∀ i c σ H T, l[i]? = some c → Pv i σ H → H T = none → g (.ref T) σ (upd H T (.tup [.int i, .str (S [c])])) fun σ2 H2 => tb { D with nx := Pv (i + 1), ct := Pv (i + 1), bk := D.nx } σ2 H2) (hd : ∀ σ H, Pv l.length σ H → D.nx σ H) :
    ∃ W : Nat → Nat → St → Hp → Prop, (∃ m, W 0 m σ H) ∧ ∀ i m σ H, W i m σ H →
      ((ItE l).stop i H ∧ D.nx σ H) ∨ ((ItE l).go i H ∧ ∃ N : St → Hp → Prop, (∀ σ' H', N σ' H' → ∃ m', m' < m ∧ W (i + 1) m' σ' H') ∧ ∀ x H', (ItE l).yld i H x H' → g x σ H' fun σ2 H2 => tb { D with nx := N, ct := N, bk := D.nx } σ2 H2) := by
  refine ⟨fun i m σ H => m = l.length - i ∧ i ≤ l.length ∧ Pv i σ H, ⟨l.length, by simp, Nat.zero_le _, h0⟩, ?_⟩
  rintro i m σ H ⟨rfl, hi, p⟩
  by_cases hlt : i < l.length
  · refine .inr ⟨hlt, Pv (i + 1), fun σ' H' p' => ⟨l.length - (i + 1), by omega, rfl, hlt, p'⟩, fun x H' y => ?_⟩
    obtain ⟨T, c, hc, rfl, hn, rfl⟩ := y
    exact hs i c σ _ T hc p hn
  · have e : i = l.length := by omega
    subst e
    exact .inl ⟨Nat.le_refl _, hd σ H p⟩
section
variable {X : Cx}
theorem strs_of {ls : List (List Nat)} : ∀ {its : List Value}, Vals (ls.map fun l => V.str (S l)) its → StrsAre its (ls.map S) := by
  induction ls with
  | nil => intro its r; cases r; exact .nil
  | cons l ls ih =>
    intro its r
    cases r with
    | cons r1 r2 =>
      obtain ⟨t, rfl⟩ := r1
      exact .cons _ t (ih r2)
theorem of_strs : ∀ {its : List Value} {ss : List Str}, StrsAre its ss → Vals ((ss.map fun x => x.cps.toList).map fun l => V.str (S l)) its
  | _, _, .nil => .nil
  | _, _, .cons x t h => .cons ⟨t, by rw [← S_of]⟩ (of_strs h)
theorem rising_pw : ∀ (p : Str) (r : List Str), risingS p r = true → (p :: r).Pairwise fun a b => ¬ b.cps.toList < a.cps.toList
  | p, [], _ => List.pairwise_singleton _ _
  | p, x :: r, h => by
    have h' : (!ltCps x.cps.toList p.cps.toList && risingS x r) = true := h
    rw [Bool.and_eq_true, ltCps_eq] at h'
    have h1 : ¬ x.cps.toList < p.cps.toList := by simpa using h'.1
    have ih := rising_pw x r h'.2
    refine List.pairwise_cons.mpr ⟨fun y hy => ?_, ih⟩
    rcases List.mem_cons.mp hy with z | z
    · rw [z]; exact h1
    · exact List.le_trans (show p.cps.toList ≤ x.cps.toList from h1) (show x.cps.toList ≤ y.cps.toList from List.rel_of_pairwise_cons ih z)
theorem sorted_pw {ss : List Str} (h : sortedS ss = true) : (ss.map fun x => x.cps.toList).Pairwise fun a b => ¬ b < a := by
  rw [List.pairwise_map]
  cases ss with
  | nil => exact List.Pairwise.nil
  | cons x r => exact rising_pw x r h
noncomputable def rSortL (K : PySem.W.Frag) : List V → Hp → VK → Prop := fun xs H Q => ∃ (p : Addr) (ls : List (List Nat)), xs = [.ref p] ∧ SqL K H p (ls.map fun l => V.str (S l)) ∧ ls.length < 64 ∧ ∀ (q : Addr) (ls' : List (List Nat)), H q = none → ls'.Perm ls → (ls'.Pairwise fun a b => ¬ b < a) → Q (.ref q) (upd H q (.lst (ls'.map fun l => V.str (S l))))
theorem call_sortedK (K : PySem.W.Frag) (h : X.K = K) : CallR X (.builtin "sorted") (rSortL K) := by
  subst h
  intro pins s σ H xs us Q I r h
  obtain ⟨p, ls, rfl, hq, hn, q⟩ := h
  obtain ⟨u, rfl, ru⟩ := vals1 r
  cases ru
  obtain ⟨its, rv, pl, hz⟩ := I.list hq
  have hlen : its.length = ls.length := by rw [← rv.length, List.length_map]
  refine sorted_strs (l := p) (vs := its) (ss := ls.map S) pl.isList (strs_of rv) (by omega) fun out ss' h1 h2 h3 => ?_
  obtain ⟨e, he⟩ := sortedAll_at s.heap its out
  have hperm : (ss'.map fun x => x.cps.toList).Perm ls := by
    have := h2.map fun x : Str => x.cps.toList
    rw [List.map_map] at this
    have e2 : ls.map ((fun x : Str => x.cps.toList) ∘ S) = ls := by
      have : ∀ l ∈ ls, ((fun x : Str => x.cps.toList) ∘ S) l = l := fun l _ => S_list l
      calc ls.map _ = ls.map id := List.map_congr_left this
        _ = ls := List.map_id ls
    rwa [e2] at this
  have hl2 := hperm.length_eq
  have h64 : (64 : Nat) < sizeLine := by decide
  have hz2 : ((ss'.map fun x => x.cps.toList).map fun l => V.str (S l)).length ≤ sizeLine := by rw [List.length_map, hl2]; omega
  refine ⟨.ref (s.heap.objs.size + 1), _, I.laid (t' := s.toks) (a := s.heap.objs.size + 1) (o := .lst ((ss'.map fun x => x.cps.toList).map fun l => V.str (S l))) (fun b o e => sortedAll_old e) (Nat.le_succ _) ⟨hz2, out.toList, e, of_strs h1, by simpa [seqObj] using he⟩, rfl, q _ _ (I.hok.fresh (Nat.le_succ _)) hperm (sorted_pw h3)⟩
end
end L2
namespace L2
open PySem PySem.Spec PyProof.Rows
section
variable {X : Cx}
theorem ones_of {ls : List (List Nat)} {l : List Nat} (h : ls.Perm (l.map fun c => [c])) : ∃ l' : List Nat, ls = l'.map (fun c => [c]) ∧ l'.Perm l := by
  refine ⟨ls.flatten, ?_, ?_⟩
  · have hs : ∀ x ∈ ls, ∃ c, x = [c] := fun x hx => by
      obtain ⟨c, _, e⟩ := List.mem_map.mp (h.mem_iff.mp hx)
      exact ⟨c, e.symm⟩
    clear h
    induction ls with
    | nil => rfl
    | cons x ls ih =>
      obtain ⟨c, rfl⟩ := hs x List.mem_cons_self
      rw [List.flatten_cons, List.map_append, ← ih fun y hy => hs y (List.mem_cons_of_mem _ hy)]
      rfl
  · have := h.flatten
    have e : (l.map fun c => [c]).flatten = l := by
      clear h this
      induction l with
      | nil => rfl
      | cons c l ih => rw [List.map_cons, List.flatten_cons, ih]; rfl
    rwa [e] at this
theorem ones_pw {l : List Nat} (h : (l.map fun c => [c]).Pairwise fun a b => ¬ b < a) : l.Pairwise fun a b => a ≤ b := by
  rw [List.pairwise_map] at h
  refine h.imp fun {a b} z => ?_
  by_cases y : a ≤ b
  · exact y
  · exact absurd (List.cons_lt_cons_iff.mpr (.inl (by omega))) z
end
end L2
namespace L2
open PySem PySem.Spec PyProof.Rows
section
variable {X : Cx}
end
end L2
namespace L2
open PySem PySem.Spec PyProof.Rows
section
variable {prog : Program} {w : World} {A : Around} {E : Value → Shared → Prop} {s : Shared}
theorem nextT_item {it tp : Addr} {j : Nat} {xs : Array Value} {y : Value} {Q : Value → Shared → Prop} (hi : s.heap.IsTupleIter it tp j) (ht : s.heap.IsTuple tp xs) (hy : xs[j]? = some y)
    (q : ∀ h2, h2.IsTupleIter it tp (j + 1) → Heap.SameBut it s.heap h2 → Q y { s with heap := h2 }) : wpAny (model prog w) A (Builtin.SmallTypes.nextOf (.ref it)) Q E s := by
  obtain ⟨oi, eo, ec, ed⟩ := id hi
  obtain ⟨ot, et, _, nt, dt⟩ := ht
  unfold Builtin.SmallTypes.nextOf
  refine wpAny_bind (wpAny_callSpecial?_slot (name := Str.ofString "__next__") hi.typeIs F.slot_tuple_iterator_next (wpAny_call_entry F.slot_tuple_iterator_next hi.typeIs F.entry_tuple_iterator_next ?_ (F.args_tuple_iterator_next_1 _)))
  refine wpAny_bind (m := field (.ref it) 0) (wpAny_field eo ed (x := .ref tp) rfl ?_)
  show wpAny (model prog w) _ (if (Value.ref tp == Value.none) = true then _ else _) _ E s
  rw [if_neg (show ¬ (Value.ref tp == Value.none) = true from Bool.false_ne_true)]
  refine wpAny_bind (m := field (.ref it) 1) (wpAny_field eo ed (x := .int j 0) rfl ?_)
  refine wpAny_bind (m := seqItems? (.ref tp)) (wpAny_seqItems et dt ?_)
  simp only [Int.toNat_natCast, hy]
  refine wpAny_bind (wpAny_setField eo ed (by simp) (wpAny_pure ⟨y, rfl, wpAny_pure (q _ ⟨_, Heap.get?_update_self _ eo (Obj.isFreed_of_fields (Obj.data_mapFields ed _)), (Obj.cls_mapFields ..).trans ec, by rw [Obj.data_mapFields ed]; simp [rawInt]⟩ (Heap.SameBut.update ..))⟩))
theorem nextT_end {it tp : Addr} {j : Nat} {xs : Array Value} {Q : Value → Shared → Prop} (hh : A.handled = none) (hi : s.heap.IsTupleIter it tp j) (ht : s.heap.IsTuple tp xs) (hy : xs[j]? = none)
    (q : ∀ h2 e, Heap.ExtBut it s.heap h2 → (∃ o, h2.get? e = some o ∧ o.cls = .type "StopIteration") → E (.ref e) { s with heap := h2 }) : wpAny (model prog w) A (Builtin.SmallTypes.nextOf (.ref it)) Q E s := by
  obtain ⟨oi, eo, ec, ed⟩ := id hi
  obtain ⟨ot, et, _, nt, dt⟩ := ht
  unfold Builtin.SmallTypes.nextOf
  refine wpAny_bind (wpAny_callSpecial?_slot (name := Str.ofString "__next__") hi.typeIs F.slot_tuple_iterator_next (wpAny_call_entry F.slot_tuple_iterator_next hi.typeIs F.entry_tuple_iterator_next ?_ (F.args_tuple_iterator_next_1 _)))
  refine wpAny_bind (m := field (.ref it) 0) (wpAny_field eo ed (x := .ref tp) rfl ?_)
  show wpAny (model prog w) _ (if (Value.ref tp == Value.none) = true then _ else _) _ E s
  rw [if_neg (show ¬ (Value.ref tp == Value.none) = true from Bool.false_ne_true)]
  refine wpAny_bind (m := field (.ref it) 1) (wpAny_field eo ed (x := .int j 0) rfl ?_)
  refine wpAny_bind (m := seqItems? (.ref tp)) (wpAny_seqItems et dt ?_)
  simp only [Int.toNat_natCast, hy]
  refine wpAny_bind (wpAny_rule (wpAny_bind (wpAny_setField eo ed (by simp) ?_)))
  refine wpAny_bind (m := newExc (.type "StopIteration") []) ?_
  simp only [newExc, newTuple]
  refine wpAny_bind (wpAny_newObj_type (wpAny_bind (m := firstArgMember _ _) (wpAny_of_eq (a := Value.none) (by first | rfl | (simp only [firstArgMember]; rfl)) (wpAny_newObj_type ?_ (by size_fits)))) (by size_fits))
  simp only [raiseNew]
  refine wpAny_bind (wpAny_handled ?_); first | rw [show A.in1.handled = none from hh] | rw [hh]
  exact wpAny_bind (wpAny_pure (wpAny_throw (q _ _ (((Heap.SameBut.update ..).extBut.push _).push _) ⟨_, Heap.get?_push_size _ rfl, rfl⟩)))
theorem draws_tuple (hh : A.handled = none) (it tp : Addr) (ne : tp ≠ it) (xs : Array Value) :
    Draws prog w A it [it, tp] xs.size (fun i v => xs[i]? = some v) (fun i h => h.IsTupleIter it tp i ∧ h.IsTuple tp xs) where
  live := fun _ _ z => let ⟨o, e, _⟩ := z.1; ⟨o, e⟩
  frame := fun _ _ _ z k => by
    obtain ⟨⟨o, e, r⟩, o2, e2, r2⟩ := z
    exact ⟨⟨o, k it (by simp) o e, r⟩, o2, k tp (by simp) o2 e2, r2⟩
  item := fun i s Q E hi z q => nextT_item z.1 z.2 (y := xs[i]) (by simp [hi]) fun h2 z2 sb => q _ h2 s.toks (by simp [hi]) ⟨z2, z.2.extBut sb.extBut ne⟩ sb
  done := fun s Q E z q => nextT_end hh z.1 z.2 (by simp) q
theorem meets_enumT (l : Addr) (items : Array Value) (n : Nat) (dct : Option Addr) (sl : Array (Option Value)) :
    Meets (Builtin.«enumerate.__new__» ⟨[.type "enumerate", .ref l], []⟩) (fun _ R s => s.heap.get? l = some { cls := .type "tuple", dict := dct, data := .seq items n, slots := sl } ∧
      R (.ok (.ret (.ref (s.heap.push { cls := .type "tuple_iterator", data := .fields #[.ref l, .int 0 0] }).objs.size)))
        { s with heap := (s.heap.push { cls := .type "tuple_iterator", data := .fields #[.ref l, .int 0 0] }).push { cls := .type "enumerate", data := .fields #[.none, .bool false, .ref s.heap.objs.size, rawInt 0, .none, .none] } }) :=
  .of_wp fun prog w A R s h => by
    obtain ⟨hp, g, d, tk, os⟩ := s; obtain ⟨hl, q⟩ := h; have hsub := sub_enumerate
    have hT : Heap.IsTuple (Shared.heap ⟨hp, g, d, tk, os⟩) l items := ⟨_, hl, rfl, n, rfl⟩
    wp_walk using AutoSeq1.wpAny_loadPart' hl
    refine wpAny_stack_any fun st => wpAny_pure ?_
    split
    · rename_i c _ _ _ _ _
      cases (c == Value.type "enumerate") <;> (wp_walk using AutoSeq1.wpAny_loadPart' hl, wpAny_pyIter_tuple hT; exact ⟨_, rfl, q⟩)
    · wp_walk using AutoSeq1.wpAny_loadPart' hl, wpAny_pyIter_tuple hT
      exact ⟨_, rfl, q⟩
theorem call_enumT {l : Addr} {items : Array Value} {Q : Value → Shared → Prop} (hL : s.heap.IsTuple l items)
    (h : ∀ h', IsEnum h' (s.heap.objs.size + 1) s.heap.objs.size 0 .none → h'.IsTupleIter s.heap.objs.size l 0 → (∀ b o, s.heap.get? b = some o → h'.get? b = some o) → Q (.ref (s.heap.objs.size + 1)) { s with heap := h' }) :
    wpAny (model prog w) A (call (.type "enumerate") [.ref l]) Q E s := by
  obtain ⟨⟨c, dct, dt, sl⟩, hl, hc, n, hd⟩ := hL
  cases (show c = .type "tuple" from hc)
  cases (show dt = .seq items n from hd)
  refine callType_new F.called_enumerate (by decide) (F.typeCall_enumerate_1 _) (F.newCall_enumerate_1 _) (fun ob => F.args_object_init_2 ob _) F.entry_enumerate_new (meets_enumT l items n dct sl) ⟨hl, ?_⟩
  have hz : (s.heap.push { cls := .type "tuple_iterator", data := .fields #[.ref l, .int 0 0] }).objs.size = s.heap.objs.size + 1 := Heap.size_push ..
  show _ ∧ _
  rw [hz]
  have he : IsEnum ((s.heap.push { cls := .type "tuple_iterator", data := .fields #[.ref l, .int 0 0] }).push { cls := .type "enumerate", data := .fields #[.none, .bool false, .ref s.heap.objs.size, rawInt 0, .none, .none] }) (s.heap.objs.size + 1) s.heap.objs.size 0 .none := by
    have := Heap.get?_push_size (s.heap.push { cls := .type "tuple_iterator", data := .fields #[.ref l, .int 0 0] }) (o := { cls := .type "enumerate", data := .fields #[.none, .bool false, .ref s.heap.objs.size, rawInt 0, .none, .none] }) rfl
    rwa [hz] at this
  exact ⟨⟨_, he, rfl⟩, h _ he ⟨_, Heap.get?_push_of_some _ (Heap.get?_push_size _ rfl), rfl, rfl⟩ fun b o x => Heap.get?_push_of_some _ (Heap.get?_push_of_some _ x)⟩
end
noncomputable def ItET (K : PySem.W.Frag) (a : Addr) : It := ⟨fun i H => ∃ xs x, SqT K H a xs ∧ xs[i]? = some x, fun i H x H' => ∃ T y, (∀ xs, SqT K H a xs → xs[i]? = some y) ∧ x = .ref T ∧ H T = none ∧ H' = upd H T (.tup [.int i, y]), fun i H => ∃ xs, SqT K H a xs ∧ xs.length = i⟩
noncomputable def ItEL (K : PySem.W.Frag) (a : Addr) : It := ⟨fun i H => ∃ xs x, SqL K H a xs ∧ xs[i]? = some x, fun i H x H' => ∃ T y, (∀ xs, SqL K H a xs → xs[i]? = some y) ∧ x = .ref T ∧ H T = none ∧ H' = upd H T (.tup [.int i, y]), fun i H => ∃ xs, SqL K H a xs ∧ xs.length = i⟩
theorem turn_enumT {P : Program} {w : World} {K : PySem.W.Frag} {elts : List Expr} {k : Nat} {pos : Pos} (e it a : Addr) (hei : e ≠ it) (hae : a ≠ e) (hai : a ≠ it) :
    Turn P w K (.Tuple elts k pos) (ItET K a) [e, it] e (fun i h => (∃ old, IsEnum h e it i old) ∧ h.IsTupleIter it a i) where
  mem := by simp
  obj := fun i h st b hb => by
    obtain ⟨⟨old, he⟩, o, ho, hc, hd⟩ := st
    rcases List.mem_cons.mp hb with z | z
    · rw [z]; exact ⟨_, he, fun v z => by cases z⟩
    · rw [List.mem_singleton.mp z]; exact ⟨o, ho, fun v z => by rw [hd] at z; cases z⟩
  keep := fun i h h' st kp => by
    obtain ⟨⟨old, he⟩, o, ho, r⟩ := st
    exact ⟨⟨old, kp e (by simp) _ he⟩, o, kp it (by simp) o ho, r⟩
  item := by
    intro X hP hw hK hc i pins s σ H E I hf st hg
    subst hP hw hK
    obtain ⟨st1, st2⟩ := st
    obtain ⟨xs, x, hq, hx⟩ := hg
    obtain ⟨its, rv, p, hz⟩ := I.tuple hq
    obtain ⟨u0, hu, ru⟩ := rv.get hx
    have D := draws_tuple (prog := X.prog) (w := X.w) (A := X.A.in1) (I.ok.hd hc) it a hai its.toArray
    have W := WalksT.enumerateD D e hei (by simp; exact ⟨hei, Ne.symm hae⟩) (by simp)
    have hil : i < its.toArray.size := by rw [List.size_toArray]; exact (List.getElem?_eq_some_iff.mp hu).1
    refine W.item i s _ _ hil ⟨st1, st2, p⟩ fun T vals h' tk hPt hT hTup hMid hk => ⟨_, rfl, ?_⟩
    refine W.go elts k pos i T { s with heap := h', toks := tk } _ _ hMid fun h2 hst2 hk2 => ?_
    obtain ⟨tt, x2, hx2, rfl⟩ := hPt
    have ex : x2 = u0 := by
      rw [List.getElem?_toArray] at hx2
      exact Option.some.inj (hx2.symm.trans hu)
    subst ex
    have hTw : T ∉ [e, it] := W.apart i T h' hMid
    have hTup2 : h2.IsTuple T #[.int i tt, x2] := by
      obtain ⟨o, ho, r⟩ := hTup
      exact ⟨o, hk2 T o hTw ho, r⟩
    refine ⟨.ref T, upd H T (.tup [.int i, x]), ?_, rfl, ⟨T, x, fun ys hy => by rw [I.tuple_inj hy hq]; exact hx, rfl, I.hok.fresh hT, rfl⟩, ⟨hst2.1, hst2.2.1⟩, fun b hb => ?_⟩
    · refine I.turnLaid (t' := tk) (h' := h2) (fun b o hb y => hk2 b o hb (hk b o hb y)) hf hT ?_
      exact ⟨by show 2 ≤ sizeLine; decide, [.int i tt, x2], .cons ⟨tt, rfl⟩ (.cons ru .nil), hTup2⟩
    · rw [upd_ne (fun z : b = T => hTw (z ▸ hb))]; exact (hf b hb).1
  done := by
    intro X hP hw hK hc i pins s σ H E I hf st hg
    subst hP hw hK
    obtain ⟨st1, st2⟩ := st
    obtain ⟨xs, hq, hx⟩ := hg
    obtain ⟨its, rv, p, hz⟩ := I.tuple hq
    have hl := rv.length
    have D := draws_tuple (prog := X.prog) (w := X.w) (A := X.A.in1) (I.ok.hd hc) it a hai its.toArray
    have W := WalksT.enumerateD D e hei (by simp; exact ⟨hei, Ne.symm hae⟩) (by simp)
    refine W.done s _ _ ?_ fun h' tk hk => ⟨rfl, I.turnedL (t' := tk) hk hf⟩
    have e1 : its.toArray.size = i := by rw [List.size_toArray]; omega
    rw [e1]
    exact ⟨st1, st2, p⟩
  self := fun _ _ s _ _ st h => by
    obtain ⟨⟨old, he⟩, _⟩ := st
    exact wpAny_pyIter_enum he h
theorem turn_enumL {P : Program} {w : World} {K : PySem.W.Frag} {elts : List Expr} {k : Nat} {pos : Pos} (e it a : Addr) (hei : e ≠ it) (hae : a ≠ e) (hai : a ≠ it) :
    Turn P w K (.Tuple elts k pos) (ItEL K a) [e, it] e (fun i h => (∃ old, IsEnum h e it i old) ∧ h.IsListIter it a i) where
  mem := by simp
  obj := fun i h st b hb => by
    obtain ⟨⟨old, he⟩, o, ho, hc, hd⟩ := st
    rcases List.mem_cons.mp hb with z | z
    · rw [z]; exact ⟨_, he, fun v z => by cases z⟩
    · rw [List.mem_singleton.mp z]; exact ⟨o, ho, fun v z => by rw [hd] at z; cases z⟩
  keep := fun i h h' st kp => by
    obtain ⟨⟨old, he⟩, o, ho, r⟩ := st
    exact ⟨⟨old, kp e (by simp) _ he⟩, o, kp it (by simp) o ho, r⟩
  item := by
    intro X hP hw hK hc i pins s σ H E I hf st hg
    subst hP hw hK
    obtain ⟨st1, st2⟩ := st
    obtain ⟨xs, x, hq, hx⟩ := hg
    obtain ⟨its, rv, p, hz⟩ := I.list hq
    obtain ⟨u0, hu, ru⟩ := rv.get hx
    have D := Draws.list (prog := X.prog) (w := X.w) (A := X.A.in1) (I.ok.hd hc) it a hai its.toArray
    have W := WalksT.enumerateD D e hei (by simp; exact ⟨hei, Ne.symm hae⟩) (by simp)
    have hil : i < its.toArray.size := by rw [List.size_toArray]; exact (List.getElem?_eq_some_iff.mp hu).1
    refine W.item i s _ _ hil ⟨st1, st2, p.isList⟩ fun T vals h' tk hPt hT hTup hMid hk => ⟨_, rfl, ?_⟩
    refine W.go elts k pos i T { s with heap := h', toks := tk } _ _ hMid fun h2 hst2 hk2 => ?_
    obtain ⟨tt, x2, hx2, rfl⟩ := hPt
    have ex : x2 = u0 := by
      rw [List.getElem?_toArray] at hx2
      exact Option.some.inj (hx2.symm.trans hu)
    subst ex
    have hTw : T ∉ [e, it] := W.apart i T h' hMid
    have hTup2 : h2.IsTuple T #[.int i tt, x2] := by
      obtain ⟨o, ho, r⟩ := hTup
      exact ⟨o, hk2 T o hTw ho, r⟩
    refine ⟨.ref T, upd H T (.tup [.int i, x]), ?_, rfl, ⟨T, x, fun ys hy => by rw [I.list_inj hy hq]; exact hx, rfl, I.hok.fresh hT, rfl⟩, ⟨hst2.1, hst2.2.1⟩, fun b hb => ?_⟩
    · refine I.turnLaid (t' := tk) (h' := h2) (fun b o hb y => hk2 b o hb (hk b o hb y)) hf hT ?_
      exact ⟨by show 2 ≤ sizeLine; decide, [.int i tt, x2], .cons ⟨tt, rfl⟩ (.cons ru .nil), hTup2⟩
    · rw [upd_ne (fun z : b = T => hTw (z ▸ hb))]; exact (hf b hb).1
  done := by
    intro X hP hw hK hc i pins s σ H E I hf st hg
    subst hP hw hK
    obtain ⟨st1, st2⟩ := st
    obtain ⟨xs, hq, hx⟩ := hg
    obtain ⟨its, rv, p, hz⟩ := I.list hq
    have hl := rv.length
    have D := Draws.list (prog := X.prog) (w := X.w) (A := X.A.in1) (I.ok.hd hc) it a hai its.toArray
    have W := WalksT.enumerateD D e hei (by simp; exact ⟨hei, Ne.symm hae⟩) (by simp)
    refine W.done s _ _ ?_ fun h' tk hk => ⟨rfl, I.turnedL (t' := tk) hk hf⟩
    have e1 : its.toArray.size = i := by rw [List.size_toArray]; omega
    rw [e1]
    exact ⟨st1, st2, p.isList⟩
  self := fun _ _ s _ _ st h => by
    obtain ⟨⟨old, he⟩, _⟩ := st
    exact wpAny_pyIter_enum he h

noncomputable def iEnumT (K : PySem.W.Frag) (ta : TA) : TI := fun σ H R => ta σ H fun vs H1 => ∃ a, vs = [.ref a] ∧ (∃ xs, SqT K H1 a xs) ∧ R (ItET K a) H1
noncomputable def iEnumL (K : PySem.W.Frag) (ta : TA) : TI := fun σ H R => ta σ H fun vs H1 => ∃ a, vs = [.ref a] ∧ (∃ xs, SqL K H1 a xs) ∧ R (ItEL K a) H1
theorem pi_enumT {X : Cx} (K : PySem.W.Frag) (hK : X.K = K) {elts : List Expr} {k : Nat} {pos' : Pos} {a : Expr} {ta : TA} {p pos : Pos} (hg : Gl X "enumerate") (hm : X.mg "enumerate" = none) (ha : PA X [a] ta) (hs : starEach [a] X.env = [(false, eval a X.env)] := by rfl) : PI X (.Tuple elts k pos') (.Call (.Name "enumerate" p) [a] [] pos) (iEnumT K ta) := by
  subst hK
  intro pins s σ H R I h
  refine Call_ (ld_blt I hg hm boot_enumerate (PyProof.Rows.callWith_type1 (thn (ha pos pins s σ H _ I h) fun us s1 ⟨vs, H1, I1, r1, q1⟩ => ?_) hs rfl))
  obtain ⟨b, rfl, ⟨xs, hq⟩, q⟩ := q1
  obtain ⟨u, rfl, ru⟩ := vals1 r1
  cases ru
  obtain ⟨its, rv, pl, hz⟩ := I1.tuple hq
  obtain ⟨ob, eb, _⟩ := id pl
  have hlt : b < s1.heap.objs.size := Heap.lt_size eb
  refine call_enumT pl fun h' he hit hk => wpAny_pyIter_enum he ?_
  refine ⟨s1.heap.objs.size + 1, [s1.heap.objs.size + 1, s1.heap.objs.size], _, _, H1, rfl, I1.kept (t' := s1.toks) hk, turn_enumT _ _ b (Nat.succ_ne_self _) (Nat.ne_of_lt (Nat.lt_succ_of_lt hlt)) (Nat.ne_of_lt hlt), ⟨⟨_, he⟩, hit⟩, fun c hb => ?_, q⟩
  have hb2 : s1.heap.objs.size ≤ c := by
    rcases List.mem_cons.mp hb with z | z
    · rw [z]; exact Nat.le_succ _
    · rw [List.mem_singleton.mp z]; exact Nat.le_refl _
  exact I1.fpOk hb2 (I1.hok.fresh hb2)
theorem pi_enumL {X : Cx} (K : PySem.W.Frag) (hK : X.K = K) {elts : List Expr} {k : Nat} {pos' : Pos} {a : Expr} {ta : TA} {p pos : Pos} (hg : Gl X "enumerate") (hm : X.mg "enumerate" = none) (ha : PA X [a] ta) (hs : starEach [a] X.env = [(false, eval a X.env)] := by rfl) : PI X (.Tuple elts k pos') (.Call (.Name "enumerate" p) [a] [] pos) (iEnumL K ta) := by
  subst hK
  intro pins s σ H R I h
  refine Call_ (ld_blt I hg hm boot_enumerate (PyProof.Rows.callWith_type1 (thn (ha pos pins s σ H _ I h) fun us s1 ⟨vs, H1, I1, r1, q1⟩ => ?_) hs rfl))
  obtain ⟨b, rfl, ⟨xs, hq⟩, q⟩ := q1
  obtain ⟨u, rfl, ru⟩ := vals1 r1
  cases ru
  obtain ⟨its, rv, pl, hz⟩ := I1.list hq
  obtain ⟨ob, eb, _⟩ := id pl.isList
  have hlt : b < s1.heap.objs.size := Heap.lt_size eb
  refine call_enumerate_list pl.isList fun h' he hit hsz hk => wpAny_pyIter_enum he ?_
  refine ⟨s1.heap.objs.size + 1, [s1.heap.objs.size + 1, s1.heap.objs.size], _, _, H1, rfl, I1.kept (t' := s1.toks) hk, turn_enumL _ _ b (Nat.succ_ne_self _) (Nat.ne_of_lt (Nat.lt_succ_of_lt hlt)) (Nat.ne_of_lt hlt), ⟨⟨_, he⟩, hit⟩, fun c hb => ?_, q⟩
  have hb2 : s1.heap.objs.size ≤ c := by
    rcases List.mem_cons.mp hb with z | z
    · rw [z]; exact Nat.le_succ _
    · rw [List.mem_singleton.mp z]; exact Nat.le_refl _
  exact I1.fpOk hb2 (I1.hok.fresh hb2)
theorem for_enumT {K : PySem.W.Frag} {a : Addr} {xs : List V} {g : TG} {tb : TS} {D : Ends} {σ : St} {H : Hp} (Pv : Nat → St → Hp → Prop) (h0 : Pv 0 σ H) (hl : ∀ i σ H, i ≤ xs.length → Pv i σ H → SqT K H a xs)
    (hs : ∀ i x σ H T, xs[i]? = some x → Pv i σ H → H T = none → g (.ref T) σ (upd H T (.tup [.int i, x])) fun σ2 H2 => tb { D with nx := Pv (i + 1), ct := Pv (i + 1), bk := D.nx } σ2 H2) (hd : ∀ σ H, Pv xs.length σ H → D.nx σ H) :
    ∃ W : Nat → Nat → St → Hp → Prop, (∃ m, W 0 m σ H) ∧ ∀ i m σ H, W i m σ H →
      ((ItET K a).stop i H ∧ D.nx σ H) ∨ ((ItET K a).go i H ∧ ∃ N : St → Hp → Prop, (∀ σ' H', N σ' H' → ∃ m', m' < m ∧ W (i + 1) m' σ' H') ∧ ∀ x H', (ItET K a).yld i H x H' → g x σ H' fun σ2 H2 => tb { D with nx := N, ct := N, bk := D.nx } σ2 H2) := by
  refine ⟨fun i m σ H => m = xs.length - i ∧ i ≤ xs.length ∧ Pv i σ H, ⟨xs.length, by simp, Nat.zero_le _, h0⟩, ?_⟩
  rintro i m σ H ⟨rfl, hi, p⟩
  have hq := hl i σ H hi p
  by_cases hlt : i < xs.length
  · refine .inr ⟨⟨xs, xs[i], hq, by simp [hlt]⟩, Pv (i + 1), fun σ' H' p' => ⟨xs.length - (i + 1), by omega, rfl, hlt, p'⟩, fun x H' y => ?_⟩
    obtain ⟨T, z, hz, rfl, hn, rfl⟩ := y
    exact hs i z σ _ T (hz xs hq) p hn
  · have e : i = xs.length := by omega
    subst e
    exact .inl ⟨⟨xs, hq, rfl⟩, hd σ H p⟩
theorem for_enumL {K : PySem.W.Frag} {a : Addr} {xs : List V} {g : TG} {tb : TS} {D : Ends} {σ : St} {H : Hp} (Pv : Nat → St → Hp → Prop) (h0 : Pv 0 σ H) (hl : ∀ i σ H, i ≤ xs.length → Pv i σ H → SqL K H a xs)
    (hs : ∀ i x σ H T, xs[i]? = some x → Pv i σ H → H T = none → g (.ref T) σ (upd H T (.tup [.int i, x])) fun σ2 H2 => tb { D with nx := Pv (i + 1), ct := Pv (i + 1), bk := D.nx } σ2 H2) (hd : ∀ σ H, Pv xs.length σ H → D.nx σ H) :
    ∃ W : Nat → Nat → St → Hp → Prop, (∃ m, W 0 m σ H) ∧ ∀ i m σ H, W i m σ H →
      ((ItEL K a).stop i H ∧ D.nx σ H) ∨ ((ItEL K a).go i H ∧ ∃ N : St → Hp → Prop, (∀ σ' H', N σ' H' → ∃ m', m' < m ∧ W (i + 1) m' σ' H') ∧ ∀ x H', (ItEL K a).yld i H x H' → g x σ H' fun σ2 H2 => tb { D with nx := N, ct := N, bk := D.nx } σ2 H2) := by
  refine ⟨fun i m σ H => m = xs.length - i ∧ i ≤ xs.length ∧ Pv i σ H, ⟨xs.length, by simp, Nat.zero_le _, h0⟩, ?_⟩
  rintro i m σ H ⟨rfl, hi, p⟩
  have hq := hl i σ H hi p
  by_cases hlt : i < xs.length
  · refine .inr ⟨⟨xs, xs[i], hq, by simp [hlt]⟩, Pv (i + 1), fun σ' H' p' => ⟨xs.length - (i + 1), by omega, rfl, hlt, p'⟩, fun x H' y => ?_⟩
    obtain ⟨T, z, hz, rfl, hn, rfl⟩ := y
    exact hs i z σ _ T (hz xs hq) p hn
  · have e : i = xs.length := by omega
    subst e
    exact .inl ⟨⟨xs, hq, rfl⟩, hd σ H p⟩
theorem comp_enum {l : List Nat} {σc : St} {g : TG} {tc : TT} {te : TE} {Q : VK} {H1 : Hp} (Pv : Nat → List V → Hp → Prop) (hn : l.length < sizeLine) (h0 : Pv 0 [] H1)
    (hs : ∀ (i c : Nat) (acc : List V) (H : Hp) (T : Addr) (Nx : List V → Hp → Prop), l[i]? = some c → acc.length ≤ i → Pv i acc H → H T = none → (∀ acc' H', acc'.length ≤ i + 1 → Pv (i + 1) acc' H' → Nx acc' H') →
      g (.ref T) σc (upd H T (.tup [.int i, .str (S [c])])) fun σ2 H2 => Wk σc σ2 ∧ tc σ2 H2 fun b H3 => if b = true then te σ2 H3 fun v H4 => Nx (acc ++ [v]) H4 else Nx acc H3)
    (hd : ∀ acc H D, acc.length ≤ l.length → Pv l.length acc H → H D = none → Q (.ref D) (upd H D (.lst acc))) : CompW (ItE l) σc g tc te Q H1 := by
  refine ⟨fun i m acc H => m = l.length - i ∧ i ≤ l.length ∧ acc.length ≤ i ∧ Pv i acc H, ⟨l.length, by simp, Nat.zero_le _, Nat.le_refl _, h0⟩, ?_⟩
  rintro i m acc H ⟨rfl, hi, hl, p⟩
  refine ⟨by omega, ?_⟩
  by_cases hlt : i < l.length
  · refine .inr ⟨hlt, fun x H' y => ?_⟩
    obtain ⟨T, c, hc, rfl, hT, rfl⟩ := y
    exact hs i c acc _ T (fun acc' H' => ∃ m', m' < l.length - i ∧ (m' = l.length - (i + 1) ∧ i + 1 ≤ l.length ∧ acc'.length ≤ i + 1 ∧ Pv (i + 1) acc' H')) hc hl p hT fun acc' H' h1 h2 => ⟨l.length - (i + 1), by omega, rfl, hlt, h1, h2⟩
  · have e : i = l.length := by omega
    subst e
    exact .inl ⟨Nat.le_refl _, fun D hD => hd acc H D hl p hD⟩
section
variable {X : Cx}
noncomputable def rListAny (K : PySem.W.Frag) : List V → Hp → VK → Prop := fun xs H Q => (∃ l : List Nat, xs = [.str (S l)] ∧ l.length ≤ sizeLine ∧ ∀ p, H p = none → Q (.ref p) (upd H p (.lst (sgs l)))) ∨ rListOf K xs H Q
theorem call_listAny (K : PySem.W.Frag) (h : X.K = K) (hc : X.calm = true) : CallR X (.type "list") (rListAny K) := by
  intro pins s σ H xs us Q I r q
  rcases q with q | q
  · exact call_listS hc pins s σ H xs us Q I r q
  · exact call_list_ofK K h pins s σ H xs us Q I r q
noncomputable def rIndexL (K : PySem.W.Frag) : V → List V → Hp → VK → Prop := fun x vs H Q => ∃ (p : Addr) (l : List Nat) (c : Nat), x = .ref p ∧ vs = [.str (S [c])] ∧ H p = some (.lst (sgs l)) ∧ c ∈ l ∧ Q (.int (l.idxOf c : Nat)) H
theorem mt_indexL (K : PySem.W.Frag) (h : X.K = K) : MtR X "list.index" (rIndexL K) := by
  subst h
  intro pins s σ H x vs v us Q I rx rv h
  obtain ⟨p, l, c, rfl, rfl, hH, hc, q⟩ := h
  cases rx
  obtain ⟨u, rfl, t', rfl⟩ := vals1 rv
  obtain ⟨z, its, n, r, hl, e⟩ := I.lstM hH
  have hz : sizeLine < 2 ^ 62 := by decide
  have hj : l.idxOf c < l.length := List.idxOf_lt_length_of_mem hc
  have hlen : its.length = l.length := by rw [← hl]; unfold sgs; rw [List.length_map]
  have hll : l.length ≤ sizeLine := by rw [← hlen, ← hl]; exact z
  have hat : ∀ m (hm : m < its.toArray.size) (hm2 : m < l.length), eqU (.str (S [c])) its.toArray[m] = decide (l[m] = c) := fun m hm hm2 => by
    have h1 : (sgs l)[m]? = some (V.str (S [l[m]])) := by unfold sgs; rw [List.getElem?_map, List.getElem?_eq_getElem hm2]; rfl
    obtain ⟨u, hu, ru⟩ := r.get h1
    have e1 : its.toArray[m] = u := by
      rw [List.getElem_toArray]
      exact Option.some.inj ((List.getElem?_eq_getElem _).symm.trans hu)
    rw [e1, eqU_of ru rfl]
    show decide (S [l[m]] = S [c]) = _
    refine decide_eq_decide.mpr ⟨fun z => ?_, fun z => by rw [z]⟩
    have := congrArg (fun x : Str => x.cps.toList) z
    simpa [S] using this
  refine call_meets F.slot_list_index ⟨_, e, rfl⟩ F.entry_list_index (F.args_list_index_2 _ _) (SeqAt.list_indexAt p its.toArray n none #[] (.str (S [c]) t') (eqU (.str (S [c]))) (l.idxOf c) (by rw [List.size_toArray]; omega) (by omega) ?_ ?_) ⟨e, ?_, ?_⟩
  · rw [hat _ _ hj]; exact decide_eq_true (List.getElem_idxOf hj)
  · intro m hm hlt
    rw [hat m hm (by omega)]
    exact decide_eq_false fun z => by
      have := List.not_of_lt_findIdx (p := fun x => x == c) hlt
      rw [z] at this
      simp at this
  · intro w hw
    have fs : (sgs l).all flatV = true := by
      rw [List.all_eq_true]; intro v hv
      obtain ⟨d, _, rfl⟩ := List.mem_map.mp hv
      rfl
    exact mem_eqAt (x := .str (S [c])) (show RelV (.str (S [c])) _ from ⟨t', rfl⟩) rfl r fs w (by simpa using hw)
  · exact ⟨.int (l.idxOf c : Nat), H, I.tok _, ⟨_, rfl⟩, q⟩
end
end L2
namespace L2
open PySem PySem.Spec PyProof.Rows
section
variable {X : Cx}
noncomputable def rTupOf (K : PySem.W.Frag) : List V → Hp → VK → Prop := fun xs H Q => ∃ p ys, xs = [.ref p] ∧ ((SqL K H p ys ∧ ∀ l, H l = none → Q (.ref l) (upd H l (.tup ys))) ∨ (SqT K H p ys ∧ Q (.ref p) H))
theorem call_tuple_ofK (K : PySem.W.Frag) (h : X.K = K) : CallR X (.type "tuple") (rTupOf K) := by subst h; exact call_tuple_of
theorem op_catTK (K : PySem.W.Frag) (h : X.K = K) : OpR X (binaryOp .Add) (rCatT K) := by subst h; exact op_catT
end
end L2
namespace L2
open PySem PySem.Spec PyProof.Rows
theorem comp_tup {K : PySem.W.Frag} {a : Addr} {xs : List V} {σc : St} {g : TG} {tc : TT} {te : TE} {Q : VK} {H1 : Hp} (Pv : Nat → List V → Hp → Prop) (hn : xs.length < sizeLine) (hl : ∀ i acc H, Pv i acc H → SqT K H a xs) (h0 : Pv 0 [] H1)
    (hs : ∀ (i : Nat) (x : V) (acc : List V) (H : Hp) (Nx : List V → Hp → Prop), i < xs.length → xs[i]? = some x → acc.length ≤ i → Pv i acc H → (∀ acc' H', acc'.length ≤ i + 1 → Pv (i + 1) acc' H' → Nx acc' H') →
      g x σc H fun σ2 H2 => Wk σc σ2 ∧ tc σ2 H2 fun b H3 => if b = true then te σ2 H3 fun v H4 => Nx (acc ++ [v]) H4 else Nx acc H3)
    (hd : ∀ acc H D, acc.length ≤ xs.length → Pv xs.length acc H → H D = none → Q (.ref D) (upd H D (.lst acc))) : CompW (Itt K a) σc g tc te Q H1 :=
  comp_by (xs := fun i x => xs[i]? = some x) Pv hn (fun i acc H h p => ⟨xs, xs[i], hl i acc H p, by simp [h]⟩) (fun acc H p => ⟨xs, hl _ acc H p, Nat.le_refl _⟩) (fun i acc H x H' h p y => ⟨y.1, y.2 xs (hl i acc H p)⟩) h0 hs hd
theorem inV_two (l a b : Nat) : inV (.str (S [l])) [.str (S [a]), .str (S [b])] = (decide (l = a) || decide (l = b)) := by
  have key : ∀ c : Nat, eqV (.str (S [c])) (.str (S [l])) = decide (l = c) := fun c => by
    show decide (S [c] = S [l]) = _
    refine decide_eq_decide.mpr ⟨fun z => ?_, fun z => by rw [z]⟩
    have := congrArg (fun x : Str => x.cps.toList) z
    simpa [S, eq_comm] using this
  unfold inV
  rw [List.any_cons, List.any_cons, List.any_nil, key, key, Bool.or_false]
theorem inV_sgs (e : Nat) (l : List Nat) : inV (.str (S [e])) (sgs l) = decide (e ∈ l) := by
  have key : ∀ c : Nat, eqV (.str (S [c])) (.str (S [e])) = decide (e = c) := fun c => by
    show decide (S [c] = S [e]) = _
    refine decide_eq_decide.mpr ⟨fun z => ?_, fun z => by rw [z]⟩
    have := congrArg (fun x : Str => x.cps.toList) z
    simpa [S, eq_comm] using this
  unfold inV sgs
  induction l with
  | nil => rfl
  | cons c l ih =>
    rw [List.map_cons, List.any_cons, ih, key]
    by_cases z : e = c <;> simp [z]
theorem flat_sgs (l : List Nat) : (sgs l).all flatV = true := by
  rw [List.all_eq_true]; intro v hv
  obtain ⟨d, _, rfl⟩ := List.mem_map.mp hv
  rfl
noncomputable def TSame (H H' : Hp) : Prop := ∀ c xs, H c = some (.tup xs) → H' c = some (.tup xs)
theorem TSame.refl (H : Hp) : TSame H H := fun _ _ h => h
theorem TSame.trans {H H1 H2 : Hp} (a : TSame H H1) (b : TSame H1 H2) : TSame H H2 := fun c xs h => b c xs (a c xs h)
theorem TSame.of {H H' : Hp} (s : Same H H') : TSame H H' := fun c xs h => s c _ h
theorem TSame.updL {H : Hp} {p : Addr} {ys : List V} {o : HO} (h : H p = some (.lst ys)) : TSame H (upd H p o) := fun c xs e => by
  rw [upd_ne (fun z => by rw [z, h] at e; cases e)]; exact e
theorem TSame.updN {H : Hp} {p : Addr} {o : HO} (h : H p = none) : TSame H (upd H p o) := fun c xs e => by
  rw [upd_ne (fun z => by rw [z, h] at e; cases e)]; exact e
end L2
namespace L2
open PySem PySem.Spec PyProof.Rows
section
variable {prog : Program} {w : World} {A : Around} {E : Value → Shared → Prop} {s : Shared}
noncomputable def PairAt (h : Heap) (v : Value) (n : Int × Int) : Prop := ∃ x ox t1 t2 m, v = .ref x ∧ h.get? x = some ox ∧ ox.cls = .type "tuple" ∧ ox.data = .seq #[.int n.1 t1, .int n.2 t2] m
theorem PairAt.keep {h h' : Heap} {v : Value} {n : Int × Int} (p : PairAt h v n) (k : ∀ b o, h.get? b = some o → h'.get? b = some o) : PairAt h' v n := by
  obtain ⟨x, ox, t1, t2, m, e1, e2, r⟩ := p
  exact ⟨x, ox, t1, t2, m, e1, k _ _ e2, r⟩
noncomputable def PairsAt (h : Heap) : List Value → List (Int × Int) → Prop
  | [], [] => True
  | v :: vs, n :: ns => PairAt h v n ∧ PairsAt h vs ns
  | _, _ => False
theorem PairsAt.keep {h h' : Heap} (k : ∀ b o, h.get? b = some o → h'.get? b = some o) : ∀ {vs : List Value} {ns : List (Int × Int)}, PairsAt h vs ns → PairsAt h' vs ns
  | [], [], _ => trivial
  | _ :: _, _ :: _, ⟨a, b⟩ => ⟨a.keep k, PairsAt.keep k b⟩
theorem PairsAt.get {h : Heap} : ∀ {vs : List Value} {ns : List (Int × Int)} {i : Nat}, PairsAt h vs ns → (hi : i < vs.length) → ∃ n, ns[i]? = some n ∧ PairAt h (vs.getD i Value.none) n
  | [], [], i, _, hi => absurd hi (Nat.not_lt_zero _)
  | v :: vs, n :: ns, 0, ⟨a, _⟩, _ => ⟨n, rfl, a⟩
  | v :: vs, n :: ns, i + 1, ⟨_, b⟩, hi => by
    obtain ⟨m, e, p⟩ := PairsAt.get (i := i) b (Nat.lt_of_succ_lt_succ hi)
    exact ⟨m, e, p⟩
theorem PairsAt.tups {h : Heap} : ∀ {vs : List Value} {ns : List (Int × Int)}, PairsAt h vs ns → ∃ fs, PySem.W.KatTups h vs fs ∧ fs.length = vs.length ∧ ∀ v ∈ fs, ∃ i t, v = Value.int i t
  | [], [], _ => ⟨[], trivial, rfl, fun _ h => absurd h List.not_mem_nil⟩
  | v :: vs, n :: ns, ⟨⟨x, ox, t1, t2, m, e1, e2, e3, e4⟩, b⟩ => by
    obtain ⟨fs, k1, k2, k3⟩ := PairsAt.tups b
    refine ⟨.int n.1 t1 :: fs, ⟨⟨x, ox, _, m, e1, e2, e3, e4, rfl⟩, k1⟩, by simp [k2], fun u hu => ?_⟩
    rcases List.mem_cons.mp hu with z | z
    · exact ⟨_, _, z⟩
    · exact k3 u z
theorem PairsAt.ne {h : Heap} {vs : List Value} {ns : List (Int × Int)} (p : PairsAt h vs ns) {a : Addr} (ha : h.objs.size ≤ a) : ∀ v ∈ vs, v ≠ .ref a := fun v hv z => by
  obtain ⟨i, hi, e⟩ := List.mem_iff_getElem.mp hv
  obtain ⟨n, _, x, ox, t1, t2, m, e1, e2, _⟩ := p.get (i := i) hi
  have e3 : vs.getD i Value.none = v := by rw [List.getD_eq_getElem?_getD, List.getElem?_eq_getElem hi, e]; rfl
  rw [e3, z] at e1
  cases e1
  exact absurd (Nat.lt_of_lt_of_le (Heap.lt_size e2) ha) (Nat.lt_irrefl _)
end
section
variable {X : Cx}
noncomputable def PrsV (K : PySem.W.Frag) (H : Hp) : List V → List (Int × Int) → Prop
  | [], [] => True
  | v :: vs, n :: ns => (∃ t, v = .ref t ∧ SqT K H t [.int n.1, .int n.2]) ∧ PrsV K H vs ns
  | _, _ => False
theorem PrsV.at {pins : List (Addr × Obj)} {σ : St} {H : Hp} {s : Shared} (I : Inv X pins σ H s) : ∀ {vs : List V} {ns : List (Int × Int)} {us : List Value}, PrsV X.K H vs ns → Vals vs us → PairsAt s.heap us ns
  | [], [], _, _, .nil => trivial
  | v :: vs, n :: ns, _, ⟨⟨t, e, h⟩, b⟩, .cons r rs => by
    subst e
    cases r
    obtain ⟨its, rv, p, _⟩ := I.tuple h
    obtain ⟨u1, u2, e1, ⟨t1, r1⟩, ⟨t2, r2⟩⟩ := vals2 rv
    subst e1 r1 r2
    obtain ⟨o, ho, hc, m, hd⟩ := p
    exact ⟨⟨t, o, t1, t2, m, rfl, ho, hc, hd⟩, PrsV.at I b rs⟩
end
end L2
namespace L2
open PySem PySem.Spec PyProof.Rows
section
variable {prog : Program} {w : World} {A : Around} {E : Value → Shared → Prop} {s : Shared}
noncomputable def TupAt (h : Heap) (k : Nat) (v : Value) (ns : List Int) : Prop := ∃ x ox us m, v = .ref x ∧ h.get? x = some ox ∧ ox.cls = .type "tuple" ∧ ox.data = .seq us m ∧ IntsAre us.toList ns ∧ ns.length = k + 1
theorem TupAt.keep {h h' : Heap} {k : Nat} {v : Value} {n : List Int} (p : TupAt h k v n) (kp : ∀ b o, h.get? b = some o → h'.get? b = some o) : TupAt h' k v n := by
  obtain ⟨x, ox, us, m, e1, e2, r⟩ := p
  exact ⟨x, ox, us, m, e1, kp _ _ e2, r⟩
noncomputable def TupsAt (h : Heap) (k : Nat) : List Value → List (List Int) → Prop
  | [], [] => True
  | v :: vs, n :: ns => TupAt h k v n ∧ TupsAt h k vs ns
  | _, _ => False
theorem TupsAt.keep {h h' : Heap} {k : Nat} (kp : ∀ b o, h.get? b = some o → h'.get? b = some o) : ∀ {vs : List Value} {ns : List (List Int)}, TupsAt h k vs ns → TupsAt h' k vs ns
  | [], [], _ => trivial
  | _ :: _, _ :: _, ⟨a, b⟩ => ⟨a.keep kp, TupsAt.keep kp b⟩
theorem TupsAt.get {h : Heap} {k : Nat} : ∀ {vs : List Value} {ns : List (List Int)} {i : Nat}, TupsAt h k vs ns → (hi : i < vs.length) → ∃ n, ns[i]? = some n ∧ TupAt h k (vs.getD i Value.none) n
  | [], [], i, _, hi => absurd hi (Nat.not_lt_zero _)
  | v :: vs, n :: ns, 0, ⟨a, _⟩, _ => ⟨n, rfl, a⟩
  | v :: vs, n :: ns, i + 1, ⟨_, b⟩, hi => by
    obtain ⟨m, e, p⟩ := TupsAt.get (i := i) b (Nat.lt_of_succ_lt_succ hi)
    exact ⟨m, e, p⟩
theorem TupsAt.tups {h : Heap} {k : Nat} : ∀ {vs : List Value} {ns : List (List Int)}, TupsAt h k vs ns → ∃ fs, PySem.W.KatTups h vs fs ∧ fs.length = vs.length ∧ ∀ v ∈ fs, ∃ i t, v = Value.int i t
  | [], [], _ => ⟨[], trivial, rfl, fun _ h => absurd h List.not_mem_nil⟩
  | v :: vs, n :: ns, ⟨⟨x, ox, us, m, e1, e2, e3, e4, e5, e6⟩, b⟩ => by
    obtain ⟨fs, k1, k2, k3⟩ := TupsAt.tups b
    obtain ⟨f, t, e7⟩ : ∃ f t, us[0]? = some (Value.int f t) := by
      rw [← Array.getElem?_toList]
      generalize us.toList = l at e5
      cases e5 with
      | nil => simp at e6
      | cons a t _ => exact ⟨a, t, rfl⟩
    refine ⟨.int f t :: fs, ⟨⟨x, ox, us, m, e1, e2, e3, e4, e7⟩, k1⟩, by simp [k2], fun u hu => ?_⟩
    rcases List.mem_cons.mp hu with z | z
    · exact ⟨_, _, z⟩
    · exact k3 u z
theorem TupsAt.ne {h : Heap} {k : Nat} {vs : List Value} {ns : List (List Int)} (p : TupsAt h k vs ns) {a : Addr} (ha : h.objs.size ≤ a) : ∀ v ∈ vs, v ≠ .ref a := fun v hv z => by
  obtain ⟨i, hi, e⟩ := List.mem_iff_getElem.mp hv
  obtain ⟨n, _, x, ox, us, m, e1, e2, _⟩ := p.get (i := i) hi
  have e3 : vs.getD i Value.none = v := by rw [List.getD_eq_getElem?_getD, List.getElem?_eq_getElem hi, e]; rfl
  rw [e3, z] at e1
  cases e1
  exact absurd (Nat.lt_of_lt_of_le (Heap.lt_size e2) ha) (Nat.lt_irrefl _)
end
section
variable {X : Cx}
noncomputable def TpsV (K : PySem.W.Frag) (H : Hp) (k : Nat) : List V → List (List Int) → Prop
  | [], [] => True
  | v :: vs, n :: ns => (∃ t, v = .ref t ∧ SqT K H t (n.map V.int) ∧ n.length = k + 1) ∧ TpsV K H k vs ns
  | _, _ => False
theorem TpsV.at {pins : List (Addr × Obj)} {σ : St} {H : Hp} {s : Shared} {k : Nat} (I : Inv X pins σ H s) : ∀ {vs : List V} {ns : List (List Int)} {us : List Value}, TpsV X.K H k vs ns → Vals vs us → TupsAt s.heap k us ns
  | [], [], _, _, .nil => trivial
  | v :: vs, n :: ns, _, ⟨⟨t, e, h, hl⟩, b⟩, .cons r rs => by
    subst e
    cases r
    obtain ⟨its, rv, p, _⟩ := I.tuple h
    obtain ⟨o, ho, hc, m, hd⟩ := p
    exact ⟨⟨t, o, its.toArray, m, rfl, ho, hc, hd, intsAre_of rv, hl⟩, TpsV.at I b rs⟩
end
end L2
namespace HT
open PySem PySem.Spec PyProof.Rows
section
variable {prog : Program} {w : World} {A : Around} {E : Value → Shared → Prop} {s : Shared}
end
end HT
namespace L2
open PySem PySem.Spec PyProof.Rows
section
variable {X : Cx} {e st : Expr} {te : TE} {ts : TO} {pos p2 : Pos}
end
end L2
namespace L2
open PySem PySem.Spec PyProof.Rows

section
variable {κ : Type} [DecidableEq κ]
noncomputable def valV (kvs : List (κ × V)) (k : κ) : Option V := (kvs.find? fun kv => decide (kv.1 = k)).map (·.2)
noncomputable def putK (kvs : List (κ × V)) (k : κ) (v : V) : List (κ × V) :=
  if (kvs.any fun kv => decide (kv.1 = k)) = true then kvs.map (fun kv => if kv.1 = k then (kv.1, v) else kv) else kvs ++ [(k, v)]
noncomputable def dropK (kvs : List (κ × V)) (k : κ) : List (κ × V) := kvs.filter fun kv => decide (kv.1 ≠ k)

theorem valV_pos {p : κ × V} {r : List (κ × V)} {k : κ} (e : p.1 = k) : valV (p :: r) k = some p.2 := by simp [valV, List.find?_cons, e]
theorem valV_neg {p : κ × V} {r : List (κ × V)} {k : κ} (e : ¬ p.1 = k) : valV (p :: r) k = valV r k := by simp [valV, List.find?_cons, e]
theorem valV_any (k : κ) : ∀ kvs : List (κ × V), (kvs.any fun kv => decide (kv.1 = k)) = (valV kvs k).isSome
  | [] => rfl
  | p :: r => by
    rw [List.any_cons]
    by_cases e : p.1 = k
    · simp only [valV_pos e, decide_eq_true e, Bool.true_or, Option.isSome_some]
    · rw [valV_neg e, decide_eq_false e, Bool.false_or]; exact valV_any k r
theorem valV_map (k j : κ) (y : V) : ∀ kvs : List (κ × V), valV (kvs.map fun kv => if kv.1 = k then (kv.1, y) else kv) j = (valV kvs j).map fun x => if j = k then y else x
  | [] => rfl
  | p :: r => by
    have ih := valV_map k j y r
    rw [List.map_cons]
    by_cases h : p.1 = k
    · rw [if_pos h]
      by_cases e : p.1 = j
      · rw [valV_pos (p := (p.1, y)) e, valV_pos e, Option.map_some, if_pos (e.symm.trans h)]
      · rw [valV_neg (p := (p.1, y)) e, valV_neg e, ih]
    · rw [if_neg h]
      by_cases e : p.1 = j
      · rw [valV_pos (p := p) e, valV_pos e, Option.map_some, if_neg (fun z => h (e.trans z))]
      · rw [valV_neg (p := p) e, valV_neg e, ih]
theorem valV_snoc (k j : κ) (y : V) : ∀ kvs : List (κ × V), valV kvs k = none → valV (kvs ++ [(k, y)]) j = if j = k then some y else valV kvs j
  | [], _ => by
    by_cases e : k = j
    · rw [if_pos e.symm]; exact valV_pos (p := (k, y)) e
    · rw [if_neg (fun z => e z.symm)]; exact valV_neg (p := (k, y)) e
  | p :: r, hn => by
    rw [List.cons_append]
    have hk : ¬ p.1 = k := fun z => by rw [valV_pos z] at hn; cases hn
    rw [valV_neg hk] at hn
    have ih := valV_snoc k j y r hn
    by_cases e : p.1 = j
    · rw [valV_pos e, valV_pos e, if_neg (fun z => hk (e.trans z))]
    · rw [valV_neg e, valV_neg e, ih]
theorem valV_put (kvs : List (κ × V)) (k j : κ) (y : V) : valV (putK kvs k y) j = if j = k then some y else valV kvs j := by
  unfold putK
  by_cases a : (kvs.any fun kv => decide (kv.1 = k)) = true
  · rw [if_pos a, valV_map]
    rw [valV_any] at a
    by_cases e : j = k
    · obtain ⟨x, hx⟩ := Option.isSome_iff_exists.mp a
      rw [if_pos e, e, hx, Option.map_some, if_pos rfl]
    · rw [if_neg e]
      cases valV kvs j with
      | none => rfl
      | some x => rw [Option.map_some, if_neg e]
  · rw [if_neg a]
    refine valV_snoc k j y kvs ?_
    rw [valV_any] at a
    cases q : valV kvs k with
    | none => rfl
    | some x => rw [q] at a; exact (a rfl).elim
theorem length_putK (kvs : List (κ × V)) (k : κ) (v : V) : (putK kvs k v).length ≤ kvs.length + 1 := by
  unfold putK
  split
  · rw [List.length_map]; omega
  · rw [List.length_append, List.length_cons, List.length_nil]; omega
theorem putK_new {kvs : List (κ × V)} {k : κ} (v : V) (h : valV kvs k = none) : putK kvs k v = kvs ++ [(k, v)] := by
  unfold putK
  rw [valV_any, h]
  exact if_neg (by decide)

theorem RelO.isSome_eq {o : Option V} {u : Option Value} (r : RelO o u) : o.isSome = u.isSome := by
  cases o with
  | none => cases u with
    | none => rfl
    | some _ => exact (show False from r).elim
  | some _ => cases u with
    | none => exact (show False from r).elim
    | some _ => rfl
theorem RelO.getD {o : Option V} {u : Option Value} {d : V} {d' : Value} (r : RelO o u) (rd : RelV d d') : RelV (o.getD d) (u.getD d') := by
  cases o with
  | none => cases u with
    | none => exact rd
    | some _ => exact (show False from r).elim
  | some _ => cases u with
    | none => exact (show False from r).elim
    | some _ => exact r

theorem KV.val {kvs : List (κ × V)} {vs : List (κ × Value)} (r : KV kvs vs) (k : κ) : RelO (valV kvs k) (valueAt vs k) := by
  unfold KV at r
  induction r with
  | nil => exact True.intro
  | @cons p q ps qs h t ih =>
    obtain ⟨h1, h2⟩ := h
    by_cases e : p.1 = k
    · have e' : q.1 = k := h1.symm.trans e
      have b : valueAt (q :: qs) k = some q.2 := by simp [valueAt, List.find?_cons, e']
      rw [valV_pos e, b]; exact h2
    · have e' : ¬ q.1 = k := fun z => e (h1.trans z)
      have b : valueAt (q :: qs) k = valueAt qs k := by simp [valueAt, List.find?_cons, e']
      rw [valV_neg e, b]; exact ih
theorem KV.any {kvs : List (κ × V)} {vs : List (κ × Value)} (r : KV kvs vs) (k : κ) : (kvs.any fun kv => decide (kv.1 = k)) = vs.any fun kv => decide (kv.1 = k) := by
  unfold KV at r
  induction r with
  | nil => rfl
  | cons h t ih => rw [List.any_cons, List.any_cons, ih, h.1]
theorem KV.repl {kvs : List (κ × V)} {vs : List (κ × Value)} (r : KV kvs vs) (k : κ) {y : V} {u : Value} (ry : RelV y u) :
    KV (kvs.map fun kv => if kv.1 = k then (kv.1, y) else kv) (vs.map fun kv => if kv.1 = k then (kv.1, u) else kv) := by
  unfold KV at r ⊢
  induction r with
  | nil => exact .nil
  | @cons p q ps qs h t ih =>
    rw [List.map_cons, List.map_cons]
    refine .cons ?_ ih
    obtain ⟨h1, h2⟩ := h
    by_cases e : p.1 = k
    · rw [if_pos e, if_pos (h1.symm.trans e)]; exact ⟨h1, ry⟩
    · rw [if_neg e, if_neg (fun z => e (h1.trans z))]; exact ⟨h1, h2⟩
theorem KV.put {kvs : List (κ × V)} {vs : List (κ × Value)} (r : KV kvs vs) (k : κ) {y : V} {u : Value} (ry : RelV y u) : KV (putK kvs k y) (stored vs k u) := by
  unfold putK stored
  rw [r.any k]
  by_cases e : (vs.any fun kv => decide (kv.1 = k)) = true
  · rw [if_pos e, if_pos e]; exact r.repl k ry
  · rw [if_neg e, if_neg e]; exact Paired.snoc r ⟨rfl, ry⟩
theorem KV.drop {kvs : List (κ × V)} {vs : List (κ × Value)} (r : KV kvs vs) (k : κ) : KV (dropK kvs k) (without vs k) := by
  unfold KV at r ⊢
  unfold dropK without
  induction r with
  | nil => exact .nil
  | @cons p q ps qs h t ih =>
    obtain ⟨h1, h2⟩ := h
    rw [List.filter_cons, List.filter_cons]
    by_cases e : p.1 = k
    · have a : ¬ decide (p.1 ≠ k) = true := by simp [e]
      have b : ¬ decide (q.1 ≠ k) = true := by simp [h1.symm.trans e]
      rw [if_neg a, if_neg b]; exact ih
    · have e' : ¬ q.1 = k := fun z => e (h1.trans z)
      have a : decide (p.1 ≠ k) = true := by simp [e]
      have b : decide (q.1 ≠ k) = true := by simp [e']
      rw [if_pos a, if_pos b]; exact .cons ⟨h1, h2⟩ ih
theorem KV.keys {kvs : List (κ × V)} {vs : List (κ × Value)} (r : KV kvs vs) : kvs.map (·.1) = vs.map (·.1) := by
  unfold KV at r
  induction r with
  | nil => rfl
  | cons h t ih => rw [List.map_cons, List.map_cons, ih, h.1]
theorem KV.length {kvs : List (κ × V)} {vs : List (κ × Value)} (r : KV kvs vs) : kvs.length = vs.length := Paired.length r
end


theorem kV_is {P : Program} {w : World} {k : Key} {u : Value} (r : RelV (kV k) u) : (mixKind P w).is k u = true := by
  cases k with
  | inl i => obtain ⟨t, e⟩ := (show ∃ t, u = Value.int i t from r); subst e; exact mixKind_int P w i t
  | inr x => obtain ⟨t, e⟩ := (show ∃ t, u = Value.str x t from r); subst e; exact mixKind_str P w x t
theorem items_are {P : Program} {w : World} : ∀ {ks : List Key} {us : List Value}, Vals (ks.map kV) us → ItemsAre (mixKind P w) ks us
  | [], _, r => by rw [List.map_nil] at r; cases r; exact .nil
  | k :: ks, _, r => by
    rw [List.map_cons] at r
    cases r with
    | cons h t => exact .cons (kV_is h) (items_are t)

noncomputable abbrev KT (H : Hp) : List (List Key × V) → List (List Key × Addr × Value) → Prop := Paired fun p q => p.1 = q.1 ∧ H q.2.1 = some (.tup (p.1.map kV)) ∧ RelV p.2 q.2.2
theorem KT.val {H : Hp} {kvs : List (List Key × V)} {xs : List (List Key × Addr × Value)} (r : KT H kvs xs) (k : List Key) : RelO (valV kvs k) ((atKey xs k).map (·.2)) := by
  induction r with
  | nil => exact True.intro
  | @cons p q ps qs h t ih =>
    obtain ⟨h1, _, h2⟩ := h
    by_cases e : p.1 = k
    · have e' : q.1 = k := h1.symm.trans e
      have b : atKey (q :: qs) k = some q.2 := by simp [atKey, List.find?_cons, e']
      rw [valV_pos e, b]; exact h2
    · have e' : ¬ q.1 = k := fun z => e (h1.trans z)
      have b : atKey (q :: qs) k = atKey qs k := by simp [atKey, List.find?_cons, e']
      rw [valV_neg e, b]; exact ih
theorem KT.repl {H : Hp} {kvs : List (List Key × V)} {xs : List (List Key × Addr × Value)} (r : KT H kvs xs) (k : List Key) {y : V} {u : Value} (ry : RelV y u) :
    KT H (kvs.map fun kv => if kv.1 = k then (kv.1, y) else kv) (xs.map (putAt k u)) := by
  induction r with
  | nil => exact .nil
  | @cons p q ps qs h t ih =>
    rw [List.map_cons, List.map_cons]
    refine .cons ?_ ih
    obtain ⟨h1, h2, h3⟩ := h
    unfold putAt
    by_cases e : p.1 = k
    · rw [if_pos e, if_pos (h1.symm.trans e)]; exact ⟨h1, h2, ry⟩
    · rw [if_neg e, if_neg (fun z => e (h1.trans z))]; exact ⟨h1, h2, h3⟩
theorem KT.put {H : Hp} {kvs : List (List Key × V)} {xs : List (List Key × Addr × Value)} (r : KT H kvs xs) (k : List Key) {b : Addr} {y : V} {u : Value} (hb : H b = some (.tup (k.map kV))) (ry : RelV y u) :
    KT H (putK kvs k y) (storedH xs k b u) := by
  have e : (kvs.any fun kv => decide (kv.1 = k)) = (atKey xs k).isSome := by
    rw [valV_any, (r.val k).isSome_eq, Option.isSome_map]
  unfold putK storedH
  rw [e]
  by_cases q : (atKey xs k).isSome = true
  · rw [if_pos q, if_pos q]; exact r.repl k ry
  · rw [if_neg q, if_neg q]; exact Paired.snoc r ⟨rfl, hb, ry⟩
theorem KT.keeps {H H' : Hp} {kvs : List (List Key × V)} {xs : List (List Key × Addr × Value)} (r : KT H kvs xs) (ht : ∀ b ys, H b = some (.tup ys) → H' b = some (.tup ys)) : KT H' kvs xs :=
  Paired.mapP r fun _ _ z => ⟨z.1, ht _ _ z.2.1, z.2.2⟩

section
variable {P : Program} {w : World} {H : Hp} {h : Heap} {a : Addr}
theorem rd_of {u : HO} (ok : HOk P w H h) (e : Rd H a u) : ObjOk P w H h a u := e.ok ok
theorem dk_rd {kvs : List (Key × V)} (ok : HOk P w H h) (e : Rd H a (.dK kvs)) : kvs.length ≤ sizeLine ∧ (a == sysModules) = false ∧ ∃ vs, KV kvs vs ∧ h.DictOf (mixKind P w) a vs :=
  show ObjOk P w H h a (.dK kvs) from rd_of ok e
theorem dk_of {kvs : List (Key × V)} (ok : HOk P w H h) (e : H a = some (.dK kvs)) : kvs.length ≤ sizeLine ∧ (a == sysModules) = false ∧ ∃ vs, KV kvs vs ∧ h.DictOf (mixKind P w) a vs := dk_rd ok (.inl e)
theorem key_of {ks : List Key} (ok : HOk P w H h) (e : H a = some (.tup (ks.map kV))) : (tupleKind (mixKind P w)).is h ks a := by
  obtain ⟨_, its, r, o, h1, h2, n, h3⟩ := (show ObjOk P w H h a (.tup (ks.map kV)) from ok a _ e)
  exact ⟨o, its.toArray, n, h1, h2, h3, by simpa using items_are r⟩
theorem dt_rd {kvs : List (List Key × V)} (ok : HOk P w H h) (e : Rd H a (.dT kvs)) : kvs.length ≤ sizeLine ∧ (a == sysModules) = false ∧
    ∃ xs, KT H kvs xs ∧ h.DictOfH (tupleKind (mixKind P w)) a xs := by
  obtain ⟨z, y, xs, r, o, es, ep, h1, h2, h3, h4, h5⟩ := (show ObjOk P w H h a (.dT kvs) from rd_of ok e)
  refine ⟨z, y, xs, r, o, es, ep, h1, h2, h3, h4, fun x hx => ?_, h5⟩
  have all : ∀ {l : List (List Key × V)} {m : List (List Key × Addr × Value)}, KT H l m → ∀ x ∈ m, (tupleKind (mixKind P w)).is h x.1 x.2.1 := by
    intro l m q
    induction q with
    | nil => intro x hx; exact nomatch hx
    | @cons p q ps qs hq t ih =>
      intro x hx
      rcases List.mem_cons.mp hx with e | hx
      · subst e
        exact key_of ok (by rw [← hq.1]; exact hq.2.1)
      · exact ih x hx
  exact all r x hx
theorem dt_of {kvs : List (List Key × V)} (ok : HOk P w H h) (e : H a = some (.dT kvs)) : kvs.length ≤ sizeLine ∧ (a == sysModules) = false ∧
    ∃ xs, KT H kvs xs ∧ h.DictOfH (tupleKind (mixKind P w)) a xs := dt_rd ok (.inl e)
end

noncomputable def DGet (H : Hp) (a : Addr) (y : V) (r : Option V) : Prop :=
  (∃ kvs k, Rd H a (.dK kvs) ∧ y = kV k ∧ r = valV kvs k) ∨ ∃ kvs k b, Rd H a (.dT kvs) ∧ y = .ref b ∧ H b = some (.tup (k.map kV)) ∧ r = valV kvs k
noncomputable def DPut (H : Hp) (a : Addr) (y v : V) (H' : Hp) : Prop :=
  (∃ kvs k, H a = some (.dK kvs) ∧ y = kV k ∧ kvs.length < sizeLine ∧ H' = upd H a (.dK (putK kvs k v))) ∨
  ∃ kvs k b, H a = some (.dT kvs) ∧ y = .ref b ∧ H b = some (.tup (k.map kV)) ∧ kvs.length < sizeLine ∧ H' = upd H a (.dT (putK kvs k v))
theorem DGet.k {H : Hp} {a : Addr} {kvs : List (Key × V)} {k : Key} (e : H a = some (.dK kvs)) : DGet H a (kV k) (valV kvs k) := .inl ⟨kvs, k, .inl e, rfl, rfl⟩
theorem DGet.t {H : Hp} {a b : Addr} {kvs : List (List Key × V)} {k : List Key} (e : H a = some (.dT kvs)) (eb : H b = some (.tup (k.map kV))) : DGet H a (.ref b) (valV kvs k) := .inr ⟨kvs, k, b, .inl e, rfl, eb, rfl⟩
theorem DPut.k {H : Hp} {a : Addr} {kvs : List (Key × V)} {k : Key} {v : V} (e : H a = some (.dK kvs)) (hl : kvs.length < sizeLine) : DPut H a (kV k) v (upd H a (.dK (putK kvs k v))) := .inl ⟨kvs, k, e, rfl, hl, rfl⟩
theorem DPut.t {H : Hp} {a b : Addr} {kvs : List (List Key × V)} {k : List Key} {v : V} (e : H a = some (.dT kvs)) (eb : H b = some (.tup (k.map kV))) (hl : kvs.length < sizeLine) :
    DPut H a (.ref b) v (upd H a (.dT (putK kvs k v))) := .inr ⟨kvs, k, b, e, rfl, eb, hl, rfl⟩


section
variable {X : Cx} {pins : List (Addr × Obj)} {σ : St} {H : Hp} {s : Shared} {a : Addr} {y v : V} {u r : Value} {o : Option V} {A : Around} {E : Value → Shared → Prop}

theorem Inv.big (I : Inv X pins σ H s) : sysModules < s.heap.objs.size := by
  have h : mainGlobals < s.heap.objs.size := (I.mod.glob.keeps I.bk).lt
  exact Nat.lt_trans (by decide) h

theorem d_getItem {Q : Value → Shared → Prop} (hu : A.units + 1 < cLine) (I : Inv X pins σ H s) (g : DGet H a y (some v)) (ry : RelV y u) (h : ∀ w' s', Inv X pins σ H s' → RelV v w' → Q w' s') :
    wpAny (model X.prog X.w) A (getItem (.ref a) u) Q E s := by
  rcases g with ⟨kvs, k, e, ey, l⟩ | ⟨kvs, k, b, e, ey, eb, l⟩
  · subst ey
    obtain ⟨z, hd, vs, rel, dd⟩ := dk_rd I.hok e
    obtain ⟨w', hw, rw'⟩ := RelO.some_of (v := v) (o := valueAt vs k) (by rw [l]; exact rel.val k)
    exact wpAny_getItem_of (kV_is ry) dd.mapOf hw (h w' _ (I.tok _) rw')
  · subst ey
    cases (show u = Value.ref b from ry)
    obtain ⟨z, hd, xs, rel, dd⟩ := dt_rd I.hok e
    obtain ⟨w', hw, rw'⟩ := RelO.some_of (v := v) (o := (atKey xs k).map (·.2)) (by rw [l]; exact rel.val k)
    obtain ⟨p, hp, hp2⟩ := Option.map_eq_some_iff.mp hw
    refine wpAny_getItem_heap (tupleKind_room_in1 hu) (key_of I.hok eb) dd hp ?_
    rw [hp2]
    exact h w' _ (I.tok _) rw'
theorem d_notIn {Q : Value → Shared → Prop} (hu : A.units + 1 < cLine) (I : Inv X pins σ H s) (g : DGet H a y o) (ry : RelV y u) (h : ∀ s', Inv X pins σ H s' → Q (.bool (!o.isSome)) s') :
    wpAny (model X.prog X.w) A (compareOp .NotIn u (.ref a)) Q E s := by
  rcases g with ⟨kvs, k, e, ey, l⟩ | ⟨kvs, k, b, e, ey, eb, l⟩
  · subst ey
    obtain ⟨z, hd, vs, rel, dd⟩ := dk_rd I.hok e
    refine wpAny_notIn_of (kV_is ry) hd dd.mapOf ?_
    rw [← (rel.val k).isSome_eq, ← l]
    exact h _ (I.tok _)
  · subst ey
    cases (show u = Value.ref b from ry)
    obtain ⟨z, hd, xs, rel, dd⟩ := dt_rd I.hok e
    refine wpAny_notIn_heap (tupleKind_room_in1 hu) (key_of I.hok eb) hd dd ?_
    have q := (rel.val k).isSome_eq
    rw [Option.isSome_map] at q
    rw [← q, ← l]
    exact h _ (I.tok _)
theorem d_write {h' : Heap} {t' : Nat} {ob : HO} (I : Inv X pins σ H s) (mu : Mut (H a)) (hs : Heap.SameBut a s.heap h') (he : ∃ q, h'.get? a = some q) (new : ObjOk X.prog X.w (upd H a ob) h' a ob) :
    Inv X pins σ (upd H a ob) { s with heap := h', toks := t' } :=
  I.write (x := a) (e := a) mu (.inl rfl) (fun b q hb z => (hs.2 b hb).trans z) he new
theorem dk_new {P : Program} {w : World} {H' : Hp} {h' : Heap} {kvs : List (Key × V)} {vs : List (Key × Value)} (z : kvs.length ≤ sizeLine) (hd : (a == sysModules) = false) (rel : KV kvs vs) (dd : h'.DictOf (mixKind P w) a vs) :
    ObjOk P w H' h' a (.dK kvs) := ⟨z, hd, vs, rel, dd⟩
theorem d_setItem {H' : Hp} {Q : Unit → Shared → Prop} (hu : A.units + 1 < cLine) (I : Inv X pins σ H s) (g : DPut H a y v H') (ry : RelV y u) (rv : RelV v r) (h : ∀ s', Inv X pins σ H' s' → Q () s') :
    wpAny (model X.prog X.w) A (setItem (.ref a) u r) Q E s := by
  rcases g with ⟨kvs, k, e, ey, l, eH⟩ | ⟨kvs, k, b, e, ey, eb, l, eH⟩
  · subst ey eH
    obtain ⟨z, hd, vs, rel, dd⟩ := dk_of I.hok e
    have hz : vs.length ≤ sizeLine := by rw [← rel.length]; exact z
    have hl : (putK kvs k v).length ≤ sizeLine := by have := length_putK kvs k v; omega
    refine wpAny_setItem_pairs (hsz := hz) (kV_is ry) dd fun h' dd' hs => h _ ?_
    have he : ∃ q, h'.get? a = some q := let ⟨q, _, _, hq, _⟩ := dd'; ⟨q, hq⟩
    exact d_write I (by rw [e]; exact True.intro) hs he (dk_new hl hd (rel.put k rv) dd')
  · subst ey eH
    cases (show u = Value.ref b from ry)
    obtain ⟨z, hd, xs, rel, dd⟩ := dt_of I.hok e
    have hz : xs.length ≤ sizeLine := by rw [← Paired.length rel]; exact z
    have hl : (putK kvs k v).length ≤ sizeLine := by have := length_putK kvs k v; omega
    refine wpAny_setItem_heap (hsz := hz) (tupleKind_room_in1 hu) (key_of I.hok eb) dd fun h' dd' hs => h _ ?_
    obtain ⟨q, es, ep, hq, h2, h3, h4, _, h5⟩ := dd'
    refine d_write I (by rw [e]; exact True.intro) hs ⟨q, hq⟩ ⟨hl, hd, _, (rel.put k eb rv).keeps fun c ys ec => ?_, q, es, ep, hq, h2, h3, h4, h5⟩
    rw [upd_ne (ne_of ec e (fun z => nomatch z))]
    exact ec
end

section
variable {X : Cx} {pins : List (Addr × Obj)} {σ : St} {H : Hp} {s : Shared} {a : Addr} {kvs : List (Key × V)} {k : Key} {u : Value} {A : Around} {E : Value → Shared → Prop}
end


noncomputable def NoSl (i : Expr) : Prop := ∀ ov iv, subscripted i false ov iv = operate [ov, iv] (getItem ov iv)
theorem subD_of {prog : Program} {w : World} {A : Around} {E : Value → Shared → Prop} {s : Shared} {env : Env} {value slice : Expr} {pos : Pos} {T id : String} {Q : Value → Shared → Prop}
    (hl : typeLookup (.type T) "__getitem__" = pure (some (.builtin id))) (hs : NoSl slice)
    (h : wpAny (model prog w) A (eval value env) (fun o s₁ => wpAny (model prog w) A (eval slice env) (fun i s₂ => s₂.TypeIs o T ∧ wpAny (model prog w) A (getItem o i) Q E s₂) E s₁) E s) :
    wpAny (model prog w) A (eval (.Subscript value slice pos) env) Q E s := by
  refine Subscript_ (wpAny_mono h (fun o s₁ h₁ => wpAny_mono h₁ (fun i s₂ h₂ => ?_) fun _ _ x => x) fun _ _ x => x)
  obtain ⟨hT, h₂⟩ := h₂
  unfold subscriptTail
  refine wpAny_bind ?_
  rw [getitemInPython_of_ne hT.not_modules]
  refine wpAny_bind (wpAny_specialOf hT hl ?_)
  have fin : wpAny (model prog w) A (subscripted slice false o i) (fun r s₃ => wpAny (model prog w) A (letTemporaryGo value o r >>= fun _ => pure r) Q E s₃) E s₂ := by
    rw [hs o i]
    exact wpAny_operating (wpAny_mono h₂ (fun r s₃ h₃ => wpAny_bind (wpAny_letTemporaryGo (wpAny_pure h₃))) fun _ _ x => x)
  first
    | exact wpAny_pure (wpAny_bind fin)
    | exact wpAny_bind (wpAny_pure (wpAny_bind fin))
    | exact wpAny_bind fin

theorem dict_typeIs {X : Cx} {pins : List (Addr × Obj)} {σ : St} {H : Hp} {s : Shared} {a : Addr} {y : V} {o : Option V} (I : Inv X pins σ H s) (g : DGet H a y o) : s.TypeIs (.ref a) "dict" := by
  rcases g with ⟨kvs, k, e, _, _⟩ | ⟨kvs, k, b, e, _, _, _⟩
  · obtain ⟨_, _, vs, _, dd⟩ := dk_rd I.hok e
    exact dd.typeIs
  · obtain ⟨_, _, xs, _, dd⟩ := dt_rd I.hok e
    exact dd.typeIs
noncomputable def tDGet (td ty : TE) : TE := fun σ H Q => td σ H fun x H1 => ty σ H1 fun y H2 => ∃ a v, x = .ref a ∧ DGet H2 a y (some v) ∧ Q v H2
noncomputable def tDNotIn (ty td : TE) : TE := fun σ H Q => ty σ H fun y H1 => td σ H1 fun x H2 => ∃ a o, x = .ref a ∧ DGet H2 a y o ∧ Q (.bl (!o.isSome)) H2
noncomputable def sDPut (td ty tv : TE) : TS := fun D σ H => tv σ H fun v H1 => td σ H1 fun x H2 => ty σ H2 fun y H3 => ∃ a H4, x = .ref a ∧ DPut H3 a y v H4 ∧ D.nx σ H4
section
variable {X : Cx} {o i e value : Expr} {pos pos' tpos : Pos} {td ty tv : TE}
theorem pe_dget (hu : X.A.units + 1 < cLine) (ho : PE X o td) (hi : PE X i ty) (hs : NoSl i) : PE X (.Subscript o i pos) (tDGet td ty) := by
  intro pins s σ H Q I h
  refine subD_of PySem.F.slot_dict_getitem.lookup hs (thn (ho pins s σ H _ I h) fun u s1 ⟨x, H1, I1, rx, q1⟩ => thn (hi pins s1 σ H1 _ I1 q1) fun iv s2 ⟨y, H2, I2, ry, a, v, ex, g, q2⟩ => ?_)
  subst ex
  obtain rfl : u = Value.ref a := rx
  exact ⟨dict_typeIs I2 g, d_getItem hu I2 g ry fun w' s3 I3 rw' => ⟨v, H2, I3, rw', q2⟩⟩
theorem pc_dnotin (hu : X.A.units + 1 < cLine) (hi : PE X i ty) (ho : PE X o td) : PC X .NotIn i o (tDNotIn ty td) := by
  intro pins s σ H Q I h
  refine thn (hi pins s σ H _ I h) fun iv s1 ⟨y, H1, I1, ry, q1⟩ => thn (ho pins s1 σ H1 _ I1 q1) fun u s2 ⟨x, H2, I2, rx, a, ov, ex, g, q2⟩ => ?_
  subst ex
  obtain rfl : u = Value.ref a := rx
  exact d_notIn hu I2 g ry fun s3 I3 => ⟨.bl (!ov.isSome), H2, I3, rfl, q2⟩
theorem ps_dput (hu : X.A.units + 1 < cLine) (ho : PE X o td) (hi : PE X i ty) (hv : PE X value tv) (hs : swapsWith value (some (.Subscript o i pos')) pos.line X.env = pure false) :
    PS X (.Assign [.Subscript o i pos'] value pos) (sDPut td ty tv) := by
  intro pins s σ H D I h
  refine wpAny_Assign_Subscript (thn (hv pins s σ H _ I h) fun r s1 ⟨v, H1, I1, rv, q1⟩ => thn (ho pins s1 σ H1 _ I1 q1) fun u s2 ⟨x, H2, I2, rx, q2⟩ => thn (hi pins s2 σ H2 _ I2 q2) fun iv s3 ⟨y, H3, I3, ry, a, H4, ex, g, q3⟩ => ?_) hs
  subst ex
  obtain rfl : u = Value.ref a := rx
  exact d_setItem hu I3 g ry rv fun s4 I4 => ⟨σ, H4, I4, q3⟩
end


theorem dk_empty {P : Program} {w : World} {H : Hp} (h : Heap) (hb : sysModules < h.objs.size) : ObjOk P w H (h.push { cls := .type "dict", data := .dict #[] }) h.objs.size (.dK []) :=
  ⟨Nat.zero_le _, beq_eq_false_iff_ne.mpr (Ne.symm (Nat.ne_of_lt hb)), [], .nil, Heap.DictOf.new h⟩
theorem dt_empty {P : Program} {w : World} {H : Hp} (h : Heap) (hb : sysModules < h.objs.size) : ObjOk P w H (h.push { cls := .type "dict", data := .dict #[] }) h.objs.size (.dT []) :=
  ⟨Nat.zero_le _, beq_eq_false_iff_ne.mpr (Ne.symm (Nat.ne_of_lt hb)), [], .nil, _, #[], 0, Heap.get?_push_size _ rfl, ⟨rfl, rfl, rfl⟩, rfl, rfl, List.nodup_nil⟩
noncomputable def tDNewK : TE := fun _ H Q => ∀ p, H p = none → Q (.ref p) (upd H p (.dK []))
noncomputable def tDNewT : TE := fun _ H Q => ∀ p, H p = none → Q (.ref p) (upd H p (.dT []))
section
variable {X : Cx} {pos : Pos}
theorem pe_dnewK : PE X (.Dict [] [] pos) tDNewK := fun pins s σ H Q I h =>
  wpAny_Dict_empty ⟨.ref s.heap.objs.size, _, I.laid (a := s.heap.objs.size) (o := .dK []) (t' := s.toks) (fun _ _ q => Heap.get?_push_of_some _ q) (Nat.le_refl _) (dk_empty s.heap I.big), rfl, h _ (I.hok.fresh (Nat.le_refl _))⟩
theorem pe_dnewT : PE X (.Dict [] [] pos) tDNewT := fun pins s σ H Q I h =>
  wpAny_Dict_empty ⟨.ref s.heap.objs.size, _, I.laid (a := s.heap.objs.size) (o := .dT []) (t' := s.toks) (fun _ _ q => Heap.get?_push_of_some _ q) (Nat.le_refl _) (dt_empty s.heap I.big), rfl, h _ (I.hok.fresh (Nat.le_refl _))⟩
end

noncomputable def tPairs : List (TE × TE) → St → Hp → (List (V × V) → Hp → Prop) → Prop
  | [], _, H, Q => Q [] H
  | (tk, tv) :: r, σ, H, Q => tk σ H fun x H1 => tv σ H1 fun y H2 => tPairs r σ H2 fun ps H3 => Q ((x, y) :: ps) H3
noncomputable abbrev VV : List (V × V) → List (Value × Value) → Prop := Paired fun p q => RelV p.1 q.1 ∧ RelV p.2 q.2
noncomputable def PPs (X : Cx) (pos : Pos) (keys : List (Option Expr)) (values : List Expr) (trs : List (TE × TE)) : Prop :=
  ∀ (pins : List (Addr × Obj)) (s : Shared) (σ : St) (H : Hp) (Q : List (V × V) → Hp → Prop), Inv X pins σ H s → tPairs trs σ H Q →
    wpAny (model X.prog X.w) X.A (evalPairs (pairTrees keys values X.env pos)) (fun vs s' => ∃ ps H', Inv X pins σ H' s' ∧ VV ps vs ∧ Q ps H') X.xe s
theorem pps_nil {X : Cx} {pos : Pos} : PPs X pos [] [] [] := fun pins s σ H Q I h => pairTrees_nil_walk ⟨[], H, I, .nil, h⟩
theorem pps_cons {X : Cx} {pos : Pos} {k v : Expr} {ks : List (Option Expr)} {vs : List Expr} {tk tv : TE} {trs : List (TE × TE)} (hk : PE X k tk) (hv : PE X v tv) (hr : PPs X pos ks vs trs) :
    PPs X pos (some k :: ks) (v :: vs) ((tk, tv) :: trs) := fun pins s σ H Q I h =>
  pairTrees_cons_walk (thn (hk pins s σ H _ I h) fun u s1 ⟨x, H1, I1, rx, q1⟩ => thn (hv pins s1 σ H1 _ I1 q1) fun w2 s2 ⟨y, H2, I2, ry, q2⟩ =>
    thn (hr pins s2 σ H2 _ I2 q2) fun ws s3 ⟨ps, H3, I3, rel, q3⟩ => ⟨(x, y) :: ps, H3, I3, .cons ⟨rx, ry⟩ rel, q3⟩)

noncomputable def mergeK (kvs more : List (Key × V)) : List (Key × V) := more.foldl (fun acc kv => putK acc kv.1 kv.2) kvs
theorem KV.merge : ∀ {more : List (Key × V)} {rs : List (Key × Value)} {kvs : List (Key × V)} {vs : List (Key × Value)}, KV more rs → KV kvs vs → KV (mergeK kvs more) (merged vs rs) := by
  intro more rs kvs vs r
  unfold KV at r
  induction r generalizing kvs vs with
  | nil => intro q; exact q
  | @cons p q ps qs h t ih =>
    intro r0
    have e : KV (putK kvs p.1 p.2) (stored vs q.1 q.2) := by
      have := r0.put p.1 h.2
      rw [← h.1]; exact this
    exact ih e
theorem length_mergeK : ∀ (more kvs : List (Key × V)), (mergeK kvs more).length ≤ kvs.length + more.length
  | [], kvs => by show kvs.length ≤ kvs.length + 0; omega
  | p :: r, kvs => by
    have h1 := length_mergeK r (putK kvs p.1 p.2)
    have h2 := length_putK kvs p.1 p.2
    show (mergeK (putK kvs p.1 p.2) r).length ≤ _
    rw [List.length_cons]; omega
theorem carries_of {P : Program} {w : World} : ∀ {kvs : List (Key × V)} {ws : List (Value × Value)}, VV (kvs.map fun kv => (kV kv.1, kv.2)) ws → ∃ rs, Carries (mixKind P w) ws rs ∧ KV kvs rs
  | [], _, r => by rw [List.map_nil] at r; cases r; exact ⟨[], True.intro, .nil⟩
  | p :: kvs, _, r => by
    rw [List.map_cons] at r
    cases r with
    | @cons a b as bs h t =>
      obtain ⟨rs, c, q⟩ := carries_of (P := P) (w := w) t
      obtain ⟨b1, b2⟩ := b
      exact ⟨(p.1, b2) :: rs, ⟨kV_is h.1, rfl, c⟩, .cons ⟨rfl, h.2⟩ q⟩
noncomputable def tDisp (trs : List (TE × TE)) : TE := fun σ H Q => ∀ p, H p = none → tPairs trs σ (upd H p (.dK [])) fun ps H2 => H2 p = some (.dK []) ∧ ∃ kvs : List (Key × V), ps = kvs.map (fun kv => (kV kv.1, kv.2)) ∧ kvs.length ≤ 15 ∧ Q (.ref p) (upd H2 p (.dK (mergeK [] kvs)))
theorem pe_disp {X : Cx} {pos : Pos} {keys : List (Option Expr)} {values : List Expr} {trs : List (TE × TE)} (h : PPs X pos keys values trs) (hall : keys.all (·.isSome) = true) (hl : keys.length = values.length) (h0 : keys ≠ [])
    (h15 : keys.length ≤ 15) : PE X (.Dict keys values pos) (tDisp trs) := by
  intro pins s σ H Q I q
  have hn := I.hok.fresh (Nat.le_refl s.heap.objs.size)
  have I1 := I.laid (a := s.heap.objs.size) (o := .dK []) (h' := s.heap.push { cls := .type "dict", data := .dict #[] }) (t' := s.toks) (fun _ _ q => Heap.get?_push_of_some _ q) (Nat.le_refl _) (dk_empty s.heap I.big)
  refine wpAny_Dict_walk (knd := mixKind X.prog X.w) hall hl h0 h15 (thn (h pins _ σ _ _ I1 (q _ hn)) fun ws s2 ⟨ps, H2, I2, rel, e, kvs, ep, lk, q2⟩ => ?_)
  subst ep
  obtain ⟨rs, c, rk⟩ := carries_of (P := X.prog) (w := X.w) rel
  obtain ⟨z, hd, vs0, r0, dd⟩ := dk_of I2.hok e
  cases r0
  refine ⟨rs, c, dd, fun h' dd' hs => ⟨.ref s.heap.objs.size, _, ?_, rfl, q2⟩⟩
  have hz : (mergeK [] kvs).length ≤ sizeLine := by
    have h1 := length_mergeK kvs []
    rw [List.length_nil] at h1
    rw [sizeLine_eq]; omega
  have he : ∃ q, h'.get? s.heap.objs.size = some q := let ⟨q, _, _, hq, _⟩ := dd'; ⟨q, hq⟩
  exact d_write I2 (by rw [e]; exact True.intro) hs he (dk_new hz hd (rk.merge .nil) dd')


structure M1 (X : Cx) (o : Expr) (m : Str) (apos : Pos) (e : Expr) (cpos : Pos) : Prop where
  base : attributeBase o m X.env (eval o X.env) = eval o X.env
  few : ((backTo cpos (starEach [e] X.env)).all (fun x => !x.1) && (backToKw cpos (keywordEach [] X.env)).all (fun x => x.1.isSome)
    && decide (([e] : List Expr).length + ([] : List Keyword).length + (if ([] : List Keyword).isEmpty then 0 else 1) < 30)) = true
  line : (apos.endLine == cpos.line) = true
  trees : backTo cpos (starEach [e] X.env) = [(false, eval e X.env)]
structure M2 (X : Cx) (o : Expr) (m : Str) (apos : Pos) (e f : Expr) (cpos : Pos) : Prop where
  base : attributeBase o m X.env (eval o X.env) = eval o X.env
  few : ((backTo cpos (starEach [e, f] X.env)).all (fun x => !x.1) && (backToKw cpos (keywordEach [] X.env)).all (fun x => x.1.isSome)
    && decide (([e, f] : List Expr).length + ([] : List Keyword).length + (if ([] : List Keyword).isEmpty then 0 else 1) < 30)) = true
  line : (apos.endLine == cpos.line) = true
  trees : backTo cpos (starEach [e, f] X.env) = [(false, eval e X.env), (false, eval f X.env)]

section
variable {X : Cx} {pins : List (Addr × Obj)} {σ : St} {H : Hp} {s : Shared} {a : Addr} {y d : V} {u r : Value} {o : Option V} {A : Around} {E : Value → Shared → Prop}
end

section
variable {X : Cx} {o e f : Expr} {apos cpos : Pos} {td ty tx : TE}
end

section
variable {X : Cx} {pins : List (Addr × Obj)} {σ : St} {H : Hp} {s : Shared} {a : Addr} {kvs : List (Key × V)} {A : Around} {E : Value → Shared → Prop}
end


section
variable {X : Cx} {pins : List (Addr × Obj)} {σ : St} {H : Hp} {s : Shared} {a : Addr} {y : V} {u : Value} {A : Around} {E : Value → Shared → Prop}
end
end L2

namespace L2
open PySem PySem.Spec PyProof.Rows
section
variable {prog : Program} {w : World} {A : Around} {E : Value → Shared → Prop} {s : Shared}
theorem len_entries {d : Addr} {o : Obj} {es : Array DictEntry} {ep : Nat} {Q : Value → Shared → Prop} (hd : (d == sysModules) = false) (ho : s.heap.get? d = some o) (hx : o.ExactDict) (hdat : o.data = .dict es ep) (hfit : (es.size : Int) < 2 ^ 63)
    (q : ∀ tk tk', Q (.int es.size tk) { s with toks := tk' }) : wpAny (model prog w) A (call (.builtin "len") [.ref d]) Q E s := by
  have hty : s.TypeIs (.ref d) "dict" := ⟨o, ho, hx.1⟩
  refine Calls.call_function_entry kind_len plain_len entry_len (args_len1 _) ?_
  unfold Builtin.«len»
  refine wpAny_bind (m := oneArg "len" _) (wpAny_pure (wpAny_bind (m := callSpecial? (.ref d) (Str.ofString "__len__")) (wpAny_callSpecial?_slot (name := Str.ofString "__len__") hty F.slot_dict_len (wpAny_call_entry F.slot_dict_len hty F.entry_dict_len ?_ (F.args_dict_len_1 _)))))
  show wpAny _ _ (dictSize d >>= fun x => Builtin.Dict.pendingCount d >>= fun y => _) _ _ s
  unfold dictSize
  refine wpAny_bind (wpAny_bind (wpAny_dictEntries ho hdat (wpAny_pure (wpAny_bind (wpAny_pendingCount_other hd ?_)))))
  refine wpAny_bind (wpAny_mkInt (wpAny_pure ⟨_, rfl, ?_⟩))
  rw [Nat.add_zero]
  refine wpAny_bind (wpAny_holding (wpAny_pure (wpAny_bind (wpAny_letGo ?_))))
  show wpAny _ _ (if ((es.size : Nat) : Int) < 0 then _ else _) _ _ _
  rw [if_neg (by omega)]
  show wpAny _ _ (if ((es.size : Nat) : Int) ≥ 2 ^ 63 then _ else _) _ _ _
  rw [if_neg (by omega)]
  exact wpAny_bind (wpAny_mkInt (wpAny_pure ⟨_, rfl, q _ _⟩))
end
section
variable {X : Cx}
theorem KT.len {H : Hp} : ∀ {kvs : List (List Key × V)} {xs : List (List Key × Addr × Value)}, KT H kvs xs → xs.length = kvs.length
  | _, _, .nil => rfl
  | _, _, .cons _ t => congrArg (· + 1) (KT.len t)
theorem call_lenT : CallR X (.builtin "len") (fun xs H Q => ∃ a kvs, xs = [V.ref a] ∧ H a = some (.dT kvs) ∧ Q (.int kvs.length) H) := by
  intro pins s σ H xs us Q I r h
  obtain ⟨a, kvs, rfl, ha, q⟩ := h
  obtain ⟨u, rfl, ru⟩ := vals1 r
  cases ru
  obtain ⟨z, hd, ys, rel, o, es, ep, h1, h2, h3, h4, _⟩ := dt_rd I.hok (.inl ha)
  have e : es.size = kvs.length := by
    rw [← KT.len rel, ← Array.length_toList, h4, List.length_map]
  have hl : (sizeLine : Int) < 2 ^ 62 := by decide
  refine len_entries hd h1 h2 h3 (by rw [e]; omega) fun tk tk' => ?_
  rw [e]
  exact ⟨.int kvs.length, H, I.tok _, ⟨_, rfl⟩, q⟩
end
end L2
set_option maxHeartbeats 1000000
namespace L2
open PySem PySem.Spec PyProof.Rows
section
variable {prog : Program} {w : World} {KK : Type} [DecidableEq KK] {knd : KeyKind prog w KK}
end
section
variable {X : Cx}
end
end L2
set_option maxHeartbeats 1000000
namespace L2.F2
open PySem PySem.Spec PyProof.Rows
end L2.F2
namespace L2
open PySem PySem.Spec PyProof.Rows
section
variable {prog : Program} {w : World} {A : Around} {E : Value → Shared → Prop} {s : Shared}
end
section
variable {X : Cx}
end
end L2
set_option maxHeartbeats 1000000
namespace L2
open PySem PySem.Spec PyProof.Rows
section
variable {prog : Program} {w : World} {A : Around} {E : Value → Shared → Prop} {s : Shared}
theorem isList_ext {h h' : Heap} {l b : Addr} {items : Array Value} (x : h.IsList l items) (k : Heap.ExtBut b h h') (n : l ≠ b) : h'.IsList l items := let ⟨o, ho, r⟩ := x; ⟨o, k l o n ho, r⟩
theorem draw_list {it l : Addr} {items : Array Value} (hne : l ≠ it) : ∀ (n i : Nat) (s : Shared) (Q : List Value → Shared → Prop), s.heap.IsListIter it l i → s.heap.IsList l items → i + n ≤ items.size →
    (∀ h', h'.IsListIter it l (i + n) → Heap.SameBut it s.heap h' → Q ((items.toList.drop i).take n) { s with heap := h' }) → wpAny (model prog w) A (draw (.ref it) n) Q E s
  | 0, i, s, Q, hit, _, _, hQ => by
    show wpAny _ _ (pure []) Q E s
    exact wpAny_pure (by simpa using hQ s.heap hit (Heap.SameBut.refl ..))
  | n + 1, i, s, Q, hit, ht, hle, hQ => by
    have hlt : i < items.size := by omega
    show wpAny _ _ (pyNext (.ref it) >>= _) Q E s
    refine wpAny_bind (wpAny_pyNext_list_item hit ht (x := items[i]) (by simp [hlt]) fun h₁ hit₁ hs₁ => ?_)
    refine wpAny_bind (wpAny_holding (draw_list hne n (i + 1) _ _ hit₁ (isList_ext ht hs₁.extBut hne) (by omega) fun h₂ hit₂ hs₂ => wpAny_pure ?_))
    have hd : items.toList.drop i = items[i] :: items.toList.drop (i + 1) := by simp [List.drop_eq_getElem_cons, hlt]
    have := hQ h₂ (by rw [show i + (n + 1) = i + 1 + n by omega]; exact hit₂) (hs₁.trans hs₂)
    rw [hd, List.take_succ_cons] at this
    exact this
theorem unpackItems_list {t : Addr} {items : Array Value} {Q : List Value → Shared → Prop} (hh : A.handled = none) (ht : s.heap.IsList t items)
    (hQ : ∀ h', Heap.ExtBut s.heap.objs.size s.heap h' → Q items.toList { s with heap := h' }) : wpAny (model prog w) A (unpackItems (.ref t) items.size none) Q E s := by
  have hlt : t ≠ s.heap.objs.size := by obtain ⟨o, ho, _⟩ := ht; exact Nat.ne_of_lt (Heap.lt_size ho)
  have hT : s.TypeIs (.ref t) "list" := let ⟨o, ho, hc, _⟩ := ht; ⟨o, ho, hc⟩
  unfold unpackItems
  refine wpAny_bind ?_
  unfold notIterableAtAll
  refine wpAny_bind (wpAny_specialOf hT PySem.F.slot_list_iter.lookup ?_)
  refine wpAny_pure ?_
  simp only [Bool.false_eq_true, if_false]
  refine wpAny_bind (wpAny_holding (wpAny_pyIter_list ht ?_))
  have htp : ∀ o : Obj, (s.heap.push o).IsList t items := fun o => let ⟨ob, ho, r⟩ := ht; ⟨ob, Heap.get?_push_of_some _ ho, r⟩
  refine wpAny_bind (wpAny_holding (draw_list hlt items.size 0 _ _ ⟨_, Heap.get?_push_size _ rfl, rfl, rfl⟩ (htp _) (by omega) fun h₁ hit₁ hs₁ => ?_))
  have hall : List.take items.size (List.drop 0 items.toList) = items.toList := by
    rw [List.drop_zero]; exact List.take_of_length_le (by simp)
  rw [hall]
  rw [if_neg (by simp)]
  have ht₁ : h₁.IsList t items := isList_ext (htp _) hs₁.extBut hlt
  refine wpAny_bind (wpAny_holding (wpAny_pyNext_list_end hh hit₁ ht₁ (by simp) fun h₂ he₂ => ?_))
  simp only [Option.isSome_none, Bool.false_eq_true, if_false]
  refine wpAny_pure (hQ h₂ fun b o hb e => he₂ b o hb (hs₁.extBut b o hb (Heap.get?_push_of_some _ e)))
theorem assign_Tuple_list {env : Env} {elts : List Expr} {x1} {pos : Pos} {t : Addr} {items : Array Value} {Q : Unit → Shared → Prop} (hh : A.handled = none) (ht : s.heap.IsList t items)
    (hn : (assignEach elts env).length = items.size) (hstar : (assignEach elts env).findIdx? (·.1) = none)
    (h : ∀ h', Heap.ExtBut s.heap.objs.size s.heap h' → wpAny (model prog w) A (assignInOrder ((assignEach elts env).map (·.2)) items.toList) Q E { s with heap := h' }) :
    wpAny (model prog w) A (assign (.Tuple elts x1 pos) env (.ref t)) Q E s := by
  rw [assign_Tuple]
  refine wpAny_bind (wpAny_standAt ?_)
  unfold unpack
  rw [hn, hstar]
  exact wpAny_bind (wpAny_holding (unpackItems_list hh ht h))
end
section
variable {X : Cx}
noncomputable def gLst (K : PySem.W.Frag) (n : Nat) (t : TGs) : TG := fun v σ H Q => ∃ a xs, v = .ref a ∧ SqL K H a xs ∧ xs.length = n ∧ t xs σ H Q
theorem pg_lstK (K : PySem.W.Frag) (h : X.K = K) {es : List Expr} {k : Nat} {t : TGs} {n : Nat} {pos : Pos} (hc : X.calm = true) (hs : PGs X es t)
    (hn : (assignEach es X.env).length = n := by rfl) (hst : (assignEach es X.env).findIdx? (·.1) = none := by rfl) : PG X (.Tuple es k pos) (gLst K n t) := by
  subst h
  intro pins s σ H v u Q I r hw
  obtain ⟨a, xs, e1, hq, hl, hw⟩ := hw
  subst e1
  cases r
  obtain ⟨its, rv, ht, hz⟩ := I.list hq
  refine assign_Tuple_list (I.ok.hd hc) ht.isList (by simp [hn, ← hl, rv.length]) hst fun h' hx => ?_
  have I1 : Inv X pins σ H { s with heap := h' } := I.kept (t' := s.toks) fun b o e => hx b o (Nat.ne_of_lt (Heap.lt_size e)) e
  exact hs pins _ σ H xs _ Q I1 (by simpa using rv) hw
end
end L2
set_option maxHeartbeats 2000000
namespace L2
open PySem PySem.Spec PyProof.Rows
section
variable {prog : Program} {w : World} {A : Around} {E : Value → Shared → Prop} {s : Shared}
end
section
variable {X : Cx}
end
noncomputable def dd {α : Type} [DecidableEq α] : List α → List α → List α
  | σ, [] => σ
  | σ, x :: l => dd (if x ∈ σ then σ else σ ++ [x]) l
section
variable {prog : Program} {w : World} {A : Around} {E : Value → Shared → Prop} {s : Shared}
noncomputable abbrev SetT (prog : Program) (w : World) (h : Heap) (a : Addr) (l : List Str) : Prop := h.SetOf (strKind prog w) a (fun k => decide (k ∈ dd [] l)) (dd [] l).length
theorem SetT.frame {h h' : Heap} {a : Addr} {l : List Str} (x : SetT prog w h a l) (k : ∀ o, h.get? a = some o → h'.get? a = some o) : SetT prog w h' a l := by
  obtain ⟨o, es, ep, t, ho, r⟩ := x
  exact ⟨o, es, ep, t, k o ho, r⟩
end
section
variable {prog : Program} {w : World} {A : Around} {E : Value → Shared → Prop} {s : Shared}
end
section
variable {X : Cx}
noncomputable def setO (q : Addr) (n : Nat) : HO := .ext fun h => ∃ (o : Obj) (es : Array (Int × Value)) (ep : Nat) (t : SetTable), h.get? q = some o ∧ o.ExactSet ∧ o.data = .set es ep t ∧ t.fits es.size = true ∧ es.size = n
end
end L2
namespace L2
open PySem PySem.Spec PyProof.Rows
section
variable {prog : Program} {w : World} {A : Around} {E : Value → Shared → Prop} {s : Shared}
noncomputable def TuxAt (h : Heap) (k : Nat) (v : Value) (ns : List Int) : Prop := ∃ x ox us m is z t, v = .ref x ∧ h.get? x = some ox ∧ ox.cls = .type "tuple" ∧ ox.data = .seq us m ∧ us.toList = is ++ [.str z t] ∧ IntsAre is ns ∧ ns.length = k + 1
theorem TuxAt.keep {h h' : Heap} {k : Nat} {v : Value} {n : List Int} (p : TuxAt h k v n) (kp : ∀ b o, h.get? b = some o → h'.get? b = some o) : TuxAt h' k v n := by
  obtain ⟨x, ox, us, m, i1, z1, t1, e1, e2, r⟩ := p
  exact ⟨x, ox, us, m, i1, z1, t1, e1, kp _ _ e2, r⟩
noncomputable def TuxsAt (h : Heap) (k : Nat) : List Value → List (List Int) → Prop
  | [], [] => True
  | v :: vs, n :: ns => TuxAt h k v n ∧ TuxsAt h k vs ns
  | _, _ => False
theorem TuxsAt.keep {h h' : Heap} {k : Nat} (kp : ∀ b o, h.get? b = some o → h'.get? b = some o) : ∀ {vs : List Value} {ns : List (List Int)}, TuxsAt h k vs ns → TuxsAt h' k vs ns
  | [], [], _ => trivial
  | _ :: _, _ :: _, ⟨a, b⟩ => ⟨a.keep kp, TuxsAt.keep kp b⟩
theorem TuxsAt.get {h : Heap} {k : Nat} : ∀ {vs : List Value} {ns : List (List Int)} {i : Nat}, TuxsAt h k vs ns → (hi : i < vs.length) → ∃ n, ns[i]? = some n ∧ TuxAt h k (vs.getD i Value.none) n
  | [], [], i, _, hi => absurd hi (Nat.not_lt_zero _)
  | v :: vs, n :: ns, 0, ⟨a, _⟩, _ => ⟨n, rfl, a⟩
  | v :: vs, n :: ns, i + 1, ⟨_, b⟩, hi => by
    obtain ⟨m, e, p⟩ := TuxsAt.get (i := i) b (Nat.lt_of_succ_lt_succ hi)
    exact ⟨m, e, p⟩
theorem TuxsAt.tups {h : Heap} {k : Nat} : ∀ {vs : List Value} {ns : List (List Int)}, TuxsAt h k vs ns → ∃ fs, PySem.W.KatTups h vs fs ∧ fs.length = vs.length ∧ ∀ v ∈ fs, ∃ i t, v = Value.int i t
  | [], [], _ => ⟨[], trivial, rfl, fun _ h => absurd h List.not_mem_nil⟩
  | v :: vs, n :: ns, ⟨⟨x, ox, us, m, i1, z1, t1, e1, e2, e3, e4, e0, e5, e6⟩, b⟩ => by
    obtain ⟨fs, k1, k2, k3⟩ := TuxsAt.tups b
    obtain ⟨f, t, e7⟩ : ∃ f t, us[0]? = some (Value.int f t) := by
      rw [← Array.getElem?_toList, e0]
      clear e0
      cases e5 with
      | nil => simp at e6
      | cons a t _ => exact ⟨a, t, rfl⟩
    refine ⟨.int f t :: fs, ⟨⟨x, ox, us, m, e1, e2, e3, e4, e7⟩, k1⟩, by simp [k2], fun u hu => ?_⟩
    rcases List.mem_cons.mp hu with z | z
    · exact ⟨_, _, z⟩
    · exact k3 u z
theorem TuxsAt.ne {h : Heap} {k : Nat} {vs : List Value} {ns : List (List Int)} (p : TuxsAt h k vs ns) {a : Addr} (ha : h.objs.size ≤ a) : ∀ v ∈ vs, v ≠ .ref a := fun v hv z => by
  obtain ⟨i, hi, e⟩ := List.mem_iff_getElem.mp hv
  obtain ⟨n, _, x, ox, us, m, i1, z1, t1, e1, e2, _⟩ := p.get (i := i) hi
  have e3 : vs.getD i Value.none = v := by rw [List.getD_eq_getElem?_getD, List.getElem?_eq_getElem hi, e]; rfl
  rw [e3, z] at e1
  cases e1
  exact absurd (Nat.lt_of_lt_of_le (Heap.lt_size e2) ha) (Nat.lt_irrefl _)
end
section
variable {X : Cx}
theorem ints_text : ∀ {ns : List Int} {z : Str} {us : List Value}, Vals (ns.map V.int ++ [.str z]) us → ∃ is t, us = is ++ [.str z t] ∧ IntsAre is ns
  | [], z, _, .cons r .nil => by
    obtain ⟨t, rfl⟩ := r
    exact ⟨[], t, rfl, .nil⟩
  | n :: ns, z, _, .cons r rs => by
    obtain ⟨u, rfl⟩ := r
    obtain ⟨is, t, e, h⟩ := ints_text rs
    exact ⟨.int n u :: is, t, by rw [e]; rfl, .cons n u h⟩
noncomputable def TxsV (K : PySem.W.Frag) (H : Hp) (k : Nat) : List V → List (List Int) → Prop
  | [], [] => True
  | v :: vs, n :: ns => (∃ t z, v = .ref t ∧ SqT K H t (n.map V.int ++ [.str z]) ∧ n.length = k + 1) ∧ TxsV K H k vs ns
  | _, _ => False
theorem TxsV.at {pins : List (Addr × Obj)} {σ : St} {H : Hp} {s : Shared} {k : Nat} (I : Inv X pins σ H s) : ∀ {vs : List V} {ns : List (List Int)} {us : List Value}, TxsV X.K H k vs ns → Vals vs us → TuxsAt s.heap k us ns
  | [], [], _, _, .nil => trivial
  | v :: vs, n :: ns, _, ⟨⟨t, z, e, h, hl⟩, b⟩, .cons r rs => by
    subst e
    cases r
    obtain ⟨its, rv, p, _⟩ := I.tuple h
    obtain ⟨o, ho, hc, m, hd⟩ := p
    obtain ⟨i1, t1, e1, e2⟩ := ints_text rv
    exact ⟨⟨t, o, its.toArray, m, i1, z, t1, rfl, ho, hc, hd, e1, e2, hl⟩, TxsV.at I b rs⟩
end
section
variable {X : Cx}
end
end L2
namespace L2
open PySem PySem.Spec PyProof.Rows
section
variable {X : Cx} {st : Stmt} {rest : List Stmt} {t u : TS}
end
end L2
namespace L2
open PySem PySem.Spec PyProof.Rows
section
variable {X : Cx}
end
end L2
namespace L2
open PySem PySem.Spec PyProof.Rows
section
variable {X : Cx}
end
section
variable {prog : Program} {w : World} {A : Around} {E : Value → Shared → Prop} {s : Shared}
structure ZA (z TI TO i1 i2 : Addr) (f1 f2 : List Addr) : Prop where
  m1 : i1 ∈ f1
  m2 : i2 ∈ f2
  z1 : z ∉ f1
  z2 : z ∉ f2
  o1 : TO ∉ f1
  o2 : TO ∉ f2
  c1 : i1 ∉ f2
  c2 : i2 ∉ f1
  tz : TI ≠ z
  tt : TI ≠ TO
  t1 : TI ≠ i1
  t2 : TI ≠ i2
  oz : TO ≠ z
theorem nm {a b : Addr} {f : List Addr} (h : a ∈ f) (n : b ∉ f) : a ≠ b := fun z => n (z ▸ h)
section
variable {z TI TO i1 i2 : Addr} {f1 f2 : List Addr} {n1 n2 i : Nat} {P1 P2 : Nat → Value → Prop} {S1 S2 : Nat → Heap → Prop} {a b : Value}
theorem zipD_item {Q : Value → Shared → Prop} (D1 : Draws prog w A i1 f1 n1 P1 S1) (D2 : Draws prog w A i2 f2 n2 P2 S2) (Z : ZA z TI TO i1 i2 f1 f2)
    (hz : IsZip s.heap z TI TO .none) (hTI : IsPair s.heap TI (.ref i1) (.ref i2)) (hTO : IsPair s.heap TO a b) (h1 : S1 i s.heap) (h2 : S2 i s.heap) (l1 : i < n1) (l2 : i < n2)
    (hQ : ∀ x y h' tk, P1 i x → P2 i y → IsZip h' z TI TO (rawInt s.heap.objs.size) → IsPair h' TO x y → S1 (i + 1) h' → S2 (i + 1) h' → IsPair h' s.heap.objs.size x y → h'.objs.size = s.heap.objs.size + 1 →
      (∀ c o, c ≠ z → c ≠ TO → c ≠ i1 → c ≠ i2 → s.heap.get? c = some o → h'.get? c = some o) → Q (.ref s.heap.objs.size) { s with heap := h', toks := tk }) :
    wpAny (model prog w) A (Builtin.«zip.__next__» ⟨[.ref z], []⟩) (fun fin s' => ∃ v, fin = .done (.ret v) ∧ Q v s') E s := by
  obtain ⟨hp, g, d, tk0, os⟩ := s
  have i1z := nm Z.m1 Z.z1
  have i2z := nm Z.m2 Z.z2
  have i1o := nm Z.m1 Z.o1
  have i2o := nm Z.m2 Z.o2
  have i21 := nm Z.m2 Z.c1
  refine wpAny_bind (m := field (.ref z) 2) (wpAny_field hz rfl (x := .bool false) rfl ?_)
  refine wpAny_bind (m := field (.ref z) 3) (wpAny_field hz rfl (x := .ref TI) rfl ?_)
  refine wpAny_bind (m := seqItems? (.ref TI)) (wpAny_seqItems hTI rfl ?_)
  refine wpAny_bind (m := Builtin.SmallTypes.ownedTupleIsFree (.ref z)) ?_
  (unfold Builtin.SmallTypes.ownedTupleIsFree; refine wpAny_bind (m := field (.ref z) 0) (wpAny_field hz rfl (x := .none) rfl (wpAny_pure ?_)))
  simp only [if_true]
  refine wpAny_bind (wpAny_rule ?_); refine wpAny_bind (m := field (.ref z) 4) (wpAny_field hz rfl (x := .ref TO) rfl ?_)
  refine wpAny_bind (wpAny_setField_rec hz (by simp) fun k1 zk1 sk1 => ?_)
  replace zk1 : IsZip k1 z TI TO .ellipsis := zk1
  replace sk1 : Heap.SameBut z hp k1 := sk1
  refine wpAny_bind ?_; simp only [List.zipIdx_cons, List.zipIdx_nil, List.forIn_cons, List.forIn_nil]
  refine wpAny_bind (wpAny_bind (wpAny_onRaise ?_)); refine wpAny_bind (m := Builtin.SmallTypes.nextOf (.ref i1)) ?_
  refine D1.item i _ _ _ l1 (D1.frame _ _ _ h1 fun c hc o e => sk1.extBut _ _ (nm hc Z.z1) e) fun x k2 tk2 px st2 sk2 => wpAny_pure ?_
  replace sk2 : Heap.SameBut i1 k1 k2 := sk2
  have to2 : IsPair k2 TO a b := sk2.extBut _ _ (Ne.symm i1o) (sk1.extBut _ _ Z.oz hTO)
  refine wpAny_bind (m := seqItems? (.ref TO)) (wpAny_seqItems to2 rfl ?_)
  refine wpAny_bind (wpAny_updateSeq_pair to2 fun k3 to3 sk3 => ?_)
  replace to3 : IsPair k3 TO x b := to3
  replace sk3 : Heap.SameBut TO k2 k3 := sk3
  refine wpAny_bind (wpAny_letGo (wpAny_pure ?_)); refine wpAny_bind (wpAny_bind (wpAny_onRaise ?_))
  refine wpAny_bind (m := Builtin.SmallTypes.nextOf (.ref i2)) ?_
  refine D2.item i _ _ _ l2 (D2.frame _ _ _ h2 fun c hc o e => sk3.extBut _ _ (nm hc Z.o2) (sk2.extBut _ _ (nm hc Z.c1) (sk1.extBut _ _ (nm hc Z.z2) e))) fun y k4 tk4 py st4 sk4 => wpAny_pure ?_
  replace sk4 : Heap.SameBut i2 k3 k4 := sk4
  have to4 : IsPair k4 TO x b := sk4.extBut _ _ (Ne.symm i2o) to3
  refine wpAny_bind (m := seqItems? (.ref TO)) (wpAny_seqItems to4 rfl ?_)
  refine wpAny_bind (wpAny_updateSeq_pair to4 fun k5 to5 sk5 => ?_)
  replace to5 : IsPair k5 TO x y := to5
  replace sk5 : Heap.SameBut TO k4 k5 := sk5
  refine wpAny_bind (wpAny_letGo (wpAny_pure (wpAny_pure ?_))); refine wpAny_bind (m := seqItems? (.ref TO)) (wpAny_seqItems to5 rfl ?_)
  refine wpAny_bind (wpAny_newTuple ?_)
  have sz : k5.objs.size = hp.objs.size := by rw [sk5.1, sk4.1, sk3.1, sk2.1, sk1.1]
  have z5 : IsZip k5 z TI TO .ellipsis := sk5.extBut _ _ (Ne.symm Z.oz) (sk4.extBut _ _ (Ne.symm i2z) (sk3.extBut _ _ (Ne.symm Z.oz) (sk2.extBut _ _ (Ne.symm i1z) zk1)))
  have kp : ∀ c o, c ≠ z → c ≠ TO → c ≠ i1 → c ≠ i2 → hp.get? c = some o → k5.get? c = some o := fun c o c1 c2 c3 c4 e => sk5.extBut _ _ c2 (sk4.extBut _ _ c4 (sk3.extBut _ _ c2 (sk2.extBut _ _ c3 (sk1.extBut _ _ c1 e))))
  have s15 : S1 (i + 1) k5 := D1.frame _ _ _ st2 fun c hc o e => sk5.extBut _ _ (nm hc Z.o1) (sk4.extBut _ _ (nm hc Z.c2) (sk3.extBut _ _ (nm hc Z.o1) e))
  have s25 : S2 (i + 1) k5 := D2.frame _ _ _ st4 fun c hc o e => sk5.extBut _ _ (nm hc Z.o2) e
  have zl : z < k5.objs.size := Heap.lt_size z5
  refine wpAny_bind (m := Builtin.SmallTypes.ownedTupleHandOut (.ref z) (.ref k5.objs.size)) ?_
  have z6 : IsZip (k5.push { cls := .type "tuple", data := .seq #[x, y] }) z TI TO .ellipsis := Heap.get?_push_of_some _ z5
  (unfold Builtin.SmallTypes.ownedTupleHandOut; refine wpAny_bind (wpAny_setField_rec z6 (by simp) fun k7 z7 s7 => ?_))
  replace z7 : IsZip k7 z TI TO (rawInt k5.objs.size) := z7
  refine wpAny_setField_rec z7 (by simp) fun k8 z8 s8 => ?_
  replace z8 : IsZip k8 z TI TO (rawInt k5.objs.size) := z8
  have up : ∀ c o, c ≠ z → k5.get? c = some o → k8.get? c = some o := fun c o c1 e => s8.extBut _ _ c1 (s7.extBut _ _ c1 (Heap.get?_push_of_some _ e))
  have t8 : IsPair k8 k5.objs.size x y := s8.extBut _ _ (Nat.ne_of_gt zl) (s7.extBut _ _ (Nat.ne_of_gt zl) (Heap.get?_push_size _ rfl))
  have e8 : k8.objs.size = k5.objs.size + 1 := by rw [s8.1, s7.1, Heap.size_push]
  rw [sz] at z8 t8 e8
  refine wpAny_pure ⟨_, rfl, ?_⟩
  show Q (.ref k5.objs.size) _
  rw [sz]
  exact hQ x y k8 tk4 px py z8 (up _ _ Z.oz to5) (D1.frame _ _ _ s15 fun c hc o e => up c o (nm hc Z.z1) e) (D2.frame _ _ _ s25 fun c hc o e => up c o (nm hc Z.z2) e) t8 e8 fun c o c1 c2 c3 c4 e => up c o c1 (kp c o c1 c2 c3 c4 e)
theorem zipD_end {Q : Fin → Shared → Prop} (D1 : Draws prog w A i1 f1 n1 P1 S1) (Z : ZA z TI TO i1 i2 f1 f2)
    (hz : IsZip s.heap z TI TO .none) (hTI : IsPair s.heap TI (.ref i1) (.ref i2)) (hTO : IsPair s.heap TO a b) (h1 : S1 n1 s.heap)
    (hE : ∀ h' e, (∀ c o, c ≠ z → c ≠ TO → c ≠ i1 → c ≠ i2 → s.heap.get? c = some o → h'.get? c = some o) → (∃ o, h'.get? e = some o ∧ o.cls = .type "StopIteration") → E (.ref e) { s with heap := h' }) :
    wpAny (model prog w) A (Builtin.«zip.__next__» ⟨[.ref z], []⟩) Q E s := by
  obtain ⟨hp, g, d, tk0, os⟩ := s
  have i1z := nm Z.m1 Z.z1
  refine wpAny_bind (m := field (.ref z) 2) (wpAny_field hz rfl (x := .bool false) rfl ?_)
  refine wpAny_bind (m := field (.ref z) 3) (wpAny_field hz rfl (x := .ref TI) rfl ?_)
  refine wpAny_bind (m := seqItems? (.ref TI)) (wpAny_seqItems hTI rfl ?_)
  refine wpAny_bind (m := Builtin.SmallTypes.ownedTupleIsFree (.ref z)) ?_
  (unfold Builtin.SmallTypes.ownedTupleIsFree; refine wpAny_bind (m := field (.ref z) 0) (wpAny_field hz rfl (x := .none) rfl (wpAny_pure ?_)))
  simp only [if_true]
  refine wpAny_bind (wpAny_rule ?_); refine wpAny_bind (m := field (.ref z) 4) (wpAny_field hz rfl (x := .ref TO) rfl ?_)
  refine wpAny_bind (wpAny_setField_rec hz (by simp) fun k1 zk1 sk1 => ?_)
  replace zk1 : IsZip k1 z TI TO .ellipsis := zk1
  replace sk1 : Heap.SameBut z hp k1 := sk1
  refine wpAny_bind ?_; simp only [List.zipIdx_cons, List.zipIdx_nil, List.forIn_cons, List.forIn_nil]
  refine wpAny_bind (wpAny_bind (wpAny_onRaise ?_)); refine wpAny_bind (m := Builtin.SmallTypes.nextOf (.ref i1)) ?_
  refine D1.done _ _ _ (D1.frame _ _ _ h1 fun c hc o e => sk1.extBut _ _ (nm hc Z.z1) e) fun k2 e sk2 he => ?_
  obtain ⟨oe, hoe, hce⟩ := he
  have z2 : IsZip k2 z TI TO .ellipsis := sk2 _ _ (Ne.symm i1z) zk1
  have ez : e ≠ z := fun x => by subst x; rw [z2] at hoe; cases hoe; simp at hce
  refine wpAny_setField_rec z2 (by simp) fun k3 _ sk3 => hE k3 e (fun c o c1 _ c3 _ x => sk3.extBut _ _ c1 (sk2 _ _ c3 (sk1.extBut _ _ c1 x))) ⟨oe, sk3.extBut _ _ ez hoe, hce⟩
theorem nextZ_item {Q : Option Value → Shared → Prop} (D1 : Draws prog w A.in1 i1 f1 n1 P1 S1) (D2 : Draws prog w A.in1 i2 f2 n2 P2 S2) (Z : ZA z TI TO i1 i2 f1 f2)
    (hz : IsZip s.heap z TI TO .none) (hTI : IsPair s.heap TI (.ref i1) (.ref i2)) (hTO : IsPair s.heap TO a b) (h1 : S1 i s.heap) (h2 : S2 i s.heap) (l1 : i < n1) (l2 : i < n2)
    (hQ : ∀ x y h' tk, P1 i x → P2 i y → IsZip h' z TI TO (rawInt s.heap.objs.size) → IsPair h' TO x y → S1 (i + 1) h' → S2 (i + 1) h' → IsPair h' s.heap.objs.size x y → h'.objs.size = s.heap.objs.size + 1 →
      (∀ c o, c ≠ z → c ≠ TO → c ≠ i1 → c ≠ i2 → s.heap.get? c = some o → h'.get? c = some o) → Q (some (.ref s.heap.objs.size)) { s with heap := h', toks := tk }) :
    wpAny (model prog w) A (pyNext (.ref z)) Q E s := by
  have hT : s.TypeIs (.ref z) "zip" := ⟨_, hz, rfl⟩
  unfold pyNext
  exact wpAny_bind (wpAny_attempt (wpAny_callSpecial?_slot (name := Str.ofString "__next__") hT F.slot_zip_next (wpAny_call_entry F.slot_zip_next hT F.entry_zip_next
      (zipD_item D1 D2 Z hz hTI hTO h1 h2 l1 l2 fun x y h' tk p1 p2 a1 a2 a3 a4 a5 a6 a7 => wpAny_pure (hQ x y h' tk p1 p2 a1 a2 a3 a4 a5 a6 a7)) (F.args_zip_next_1 _))))
theorem nextZ_end {Q : Option Value → Shared → Prop} (D1 : Draws prog w A.in1 i1 f1 n1 P1 S1) (Z : ZA z TI TO i1 i2 f1 f2)
    (hz : IsZip s.heap z TI TO .none) (hTI : IsPair s.heap TI (.ref i1) (.ref i2)) (hTO : IsPair s.heap TO a b) (h1 : S1 n1 s.heap)
    (hQ : ∀ h', (∀ c o, c ≠ z → c ≠ TO → c ≠ i1 → c ≠ i2 → s.heap.get? c = some o → h'.get? c = some o) → Q none { s with heap := h' }) : wpAny (model prog w) A (pyNext (.ref z)) Q E s := by
  have hT : s.TypeIs (.ref z) "zip" := ⟨_, hz, rfl⟩
  unfold pyNext
  refine wpAny_bind (wpAny_attempt (wpAny_callSpecial?_slot (name := Str.ofString "__next__") hT F.slot_zip_next (wpAny_call_entry F.slot_zip_next hT F.entry_zip_next (zipD_end D1 Z hz hTI hTO h1 fun h' e hk he => ?_) (F.args_zip_next_1 _))))
  obtain ⟨o, ho, hc⟩ := he
  refine wpAny_bind (wpAny_isInstance (T := "StopIteration") (b := true) ⟨o, ho, hc⟩ isSubtype_stop (wpAny_pure (hQ _ hk)))
end
structure ZS (P : Program) (w : World) (K : PySem.W.Frag) (a it : Addr) (Sq : Hp → List V → Prop) (IT : Nat → Heap → Prop) : Prop where
  obj : ∀ i h, IT i h → ∃ o, h.get? it = some o ∧ ∀ v, o.data ≠ .cell v
  keep : ∀ i h h', IT i h → (∀ o, h.get? it = some o → h'.get? it = some o) → IT i h'
  inj : ∀ (X : Cx), X.K = K → ∀ (pins : List (Addr × Obj)) (s : Shared) (σ : St) (H : Hp), Inv X pins σ H s → ∀ xs ys, Sq H xs → Sq H ys → xs = ys
  draws : ∀ (X : Cx), X.prog = P → X.w = w → X.K = K → X.calm = true → ∀ (pins : List (Addr × Obj)) (s : Shared) (σ : St) (H : Hp), Inv X pins σ H s → ∀ xs, Sq H xs → a ≠ it →
    ∃ (its : List Value) (SS : Nat → Heap → Prop), Vals xs its ∧ Draws P w X.A.in1 it [it, a] its.length (fun i v => its[i]? = some v) SS ∧ (∀ i, IT i s.heap → SS i s.heap) ∧ ∀ i h, SS i h → IT i h
theorem zs_tup {P : Program} {w : World} {K : PySem.W.Frag} (a it : Addr) : ZS P w K a it (fun H xs => SqT K H a xs) (fun i h => h.IsTupleIter it a i) where
  obj := fun i h st => by
    obtain ⟨o, ho, hc, hd⟩ := st
    exact ⟨o, ho, fun v z => by rw [hd] at z; cases z⟩
  keep := fun i h h' st k => by
    obtain ⟨o, ho, r⟩ := st
    exact ⟨o, k o ho, r⟩
  inj := fun X hK pins s σ H I xs ys h1 h2 => by subst hK; exact I.tuple_inj h1 h2
  draws := fun X hP hw hK hc pins s σ H I xs hq ne => by
    subst hP hw hK
    obtain ⟨its, rv, p, _⟩ := I.tuple hq
    have D := draws_tuple (prog := X.prog) (w := X.w) (A := X.A.in1) (I.ok.hd hc) it a ne its.toArray
    refine ⟨its, fun i h => h.IsTupleIter it a i ∧ h.IsTuple a its.toArray, rv, ?_, fun i h => ⟨h, p⟩, fun i h z => z.1⟩
    have e : its.toArray.size = its.length := List.size_toArray
    rw [← e]
    refine ⟨D.live, D.frame, fun i s Q E hi st q => D.item i s Q E hi st fun x h' tk hx => q x h' tk (by simpa using hx), D.done⟩
noncomputable def ItZ (Sq1 Sq2 : Hp → List V → Prop) : It := ⟨fun i H => ∃ xs ys x y, Sq1 H xs ∧ Sq2 H ys ∧ xs[i]? = some x ∧ ys[i]? = some y,
  fun i H x H' => ∃ T u v, (∀ xs, Sq1 H xs → xs[i]? = some u) ∧ (∀ ys, Sq2 H ys → ys[i]? = some v) ∧ x = .ref T ∧ H T = none ∧ H' = upd H T (.tup [u, v]),
  fun i H => ∃ xs, Sq1 H xs ∧ (∃ ys, Sq2 H ys) ∧ xs.length = i⟩
noncomputable abbrev zmA (h : Heap) (c : String) (l : Addr) : Heap := h.push { cls := .type c, data := .fields #[.ref l, .int 0 0] }
theorem nin {a b c : Nat} (h1 : a ≠ b) (h2 : a ≠ c) : (a : Addr) ∉ ([b, c] : List Addr) := fun h => by
  rcases List.mem_cons.mp h with e | e
  · exact h1 e
  · exact h2 (List.mem_singleton.mp e)
theorem nne {a b : Nat} (h : a ≠ b) : (a : Addr) ≠ (b : Addr) := h
end
noncomputable abbrev SqTa (K : PySem.W.Frag) : Addr → Hp → List V → Prop := fun a H xs => SqT K H a xs
section
variable {X : Cx} {elts : List Expr} {k : Nat} {pos' : Pos} {a b : Expr} {ta : TA} {p pos : Pos}
end
theorem for_zip {Sq1 Sq2 : Hp → List V → Prop} {xs ys : List V} {g : TG} {tb : TS} {D : Ends} {σ : St} {H : Hp} (Pv : Nat → St → Hp → Prop) (hlen : xs.length = ys.length) (h0 : Pv 0 σ H) (hl : ∀ i σ H, i ≤ xs.length → Pv i σ H → Sq1 H xs ∧ Sq2 H ys)
    (hs : ∀ i x y σ H T, xs[i]? = some x → ys[i]? = some y → Pv i σ H → H T = none → g (.ref T) σ (upd H T (.tup [x, y])) fun σ2 H2 => tb { D with nx := Pv (i + 1), ct := Pv (i + 1), bk := D.nx } σ2 H2) (hd : ∀ σ H, Pv xs.length σ H → D.nx σ H) :
    ∃ W : Nat → Nat → St → Hp → Prop, (∃ m, W 0 m σ H) ∧ ∀ i m σ H, W i m σ H →
      ((ItZ Sq1 Sq2).stop i H ∧ D.nx σ H) ∨ ((ItZ Sq1 Sq2).go i H ∧ ∃ N : St → Hp → Prop, (∀ σ' H', N σ' H' → ∃ m', m' < m ∧ W (i + 1) m' σ' H') ∧ ∀ x H', (ItZ Sq1 Sq2).yld i H x H' → g x σ H' fun σ2 H2 => tb { D with nx := N, ct := N, bk := D.nx } σ2 H2) := by
  refine ⟨fun i m σ H => m = xs.length - i ∧ i ≤ xs.length ∧ Pv i σ H, ⟨xs.length, by simp, Nat.zero_le _, h0⟩, ?_⟩
  rintro i m σ H ⟨rfl, hi, p⟩
  obtain ⟨q1, q2⟩ := hl i σ H hi p
  by_cases hlt : i < xs.length
  · have hlt2 : i < ys.length := by omega
    refine .inr ⟨⟨xs, ys, xs[i], ys[i], q1, q2, by simp [hlt], by simp [hlt2]⟩, Pv (i + 1), fun σ' H' p' => ⟨xs.length - (i + 1), by omega, rfl, hlt, p'⟩, fun x H' y => ?_⟩
    obtain ⟨T, u, v, hu, hv, rfl, hn, rfl⟩ := y
    exact hs i u v σ _ T (hu xs q1) (hv ys q2) p hn
  · have e : i = xs.length := by omega
    subst e
    exact .inl ⟨⟨xs, q1, ⟨ys, q2⟩, rfl⟩, hd σ H p⟩
end L2
namespace L2
open PySem PySem.Spec PyProof.Rows
section
variable {X : Cx}
end
end L2
namespace L2
open PySem PySem.Spec PyProof.Rows PySem.MeetsSeq PySem.SeqAt
theorem rem_loop (p : Addr) (av : Array Value) (c : Nat) (x : Value) (f : Value → Bool) (j : Nat) (hj : j < av.size) (yes : f av[j] = true) (k : Nat) (hz : av.size ≤ sizeLine) :
    ∀ i : Nat, j - i = k → i ≤ j → (∀ m (hm : m < av.size), i ≤ m → m < j → f av[m] = false) → Meets (Builtin.«list.remove.loop» ⟨[.ref p, x, rawInt i], []⟩)
      (fun A R s => s.heap.get? p = some { cls := .type "list", dict := none, data := .seq av c, slots := #[] } ∧ (∀ y, y ∈ av → EqAt A.in1 s y x (f y)) ∧ R (.ok (.ret .none)) { s with heap := s.heap.update p (Obj.mapSeq fun xs => xs.eraseIdxIfInBounds j) }) := by
  induction k with
  | zero =>
    intro i hk hij no prog w A R s h
    obtain ⟨hp, g, d, tk, os⟩ := s; obtain ⟨q1, q2, h⟩ := h
    have e0 : i = j := by omega
    subst e0
    wp_walk using wpAny_loadPart' q1
    have e1 : av[((i : Nat) : Int).toNat]? = some av[i] := by simp [hj]
    rw [e1]
    refine wpAny_bind (q2 _ (Array.getElem_mem hj) prog w _ _ ?_); rw [yes]
    have z2 : (av.eraseIdxIfInBounds i).size ≤ sizeLine + 1 := Nat.le_trans (size_erased av _) (Nat.le_succ_of_le hz)
    wp_walk using (wpAny_updateSeq q1 rfl (hz := hz) (_hz' := z2)), wpAny_loadPart' q1
    simpa using h
  | succ k ih =>
    intro i hk hij no prog w A R s h
    obtain ⟨hp, g, d, tk, os⟩ := s; obtain ⟨q1, q2, h⟩ := h
    have lt : i < av.size := by omega
    wp_walk using wpAny_loadPart' q1
    have e1 : av[((i : Nat) : Int).toNat]? = some av[i] := by simp [lt]
    have e2 : ((i : Int) + 1) = ((i + 1 : Nat) : Int) := by push_cast; rfl
    rw [e1]
    refine wpAny_bind (q2 _ (Array.getElem_mem lt) prog w _ _ ?_); rw [no i lt (Nat.le_refl _) (by omega)]
    wp_walk
    rw [e2]
    exact ⟨plainId_quiet plain_remove_loop _, codeAny_builtin entry_remove_loop (by rw [Around.under_plainId plain_remove_loop _]; exact ih (i + 1) (by omega) (by omega) (fun m hm h1 h2 => no m hm (by omega) h2) prog w A R _ ⟨q1, q2, h⟩)⟩
theorem rem_list (p : Addr) (av : Array Value) (c : Nat) (x : Value) (f : Value → Bool) (j : Nat) (hj : j < av.size) (yes : f av[j] = true) (no : ∀ m (hm : m < av.size), m < j → f av[m] = false) (hz : av.size ≤ sizeLine) :
    Meets (Builtin.«list.remove» ⟨[.ref p, x], []⟩) (fun A R s => s.heap.get? p = some { cls := .type "list", dict := none, data := .seq av c, slots := #[] } ∧ (∀ y, y ∈ av → EqAt A.in1 s y x (f y)) ∧ R (.ok (.ret .none)) { s with heap := s.heap.update p (Obj.mapSeq fun xs => xs.eraseIdxIfInBounds j) }) := by
  intro prog w A R s h
  obtain ⟨hp, g, d, tk, os⟩ := s; obtain ⟨q1, q2, h⟩ := h
  wp_walk using wpAny_loadPart' q1
  exact ⟨plainId_quiet plain_remove_loop _, codeAny_builtin entry_remove_loop (by rw [Around.under_plainId plain_remove_loop _]; exact rem_loop p av c x f j hj yes _ hz 0 rfl (Nat.zero_le _) (fun m hm _ h2 => no m hm h2) prog w A R _ ⟨q1, q2, h⟩)⟩
section
variable {X : Cx}
noncomputable def rRemD (K : PySem.W.Frag) : V → List V → Hp → VK → Prop := fun x vs H Q => ∃ (p : Addr) (xs : List V) (v : V) (ds : List PyData) (d : PyData) (j : Nat), x = .ref p ∧ vs = [v] ∧ H p = some (.lst xs) ∧ RdDs K H xs ds ∧ RdD K H v d ∧ (PyData.canLayAll0 ds = true ∧ d.canLay0 = true) ∧ d.depth ≤ 60 ∧
  (∃ e, ds[j]? = some e ∧ PyData.eqv e d = true) ∧ (∀ m e, m < j → ds[m]? = some e → PyData.eqv e d = false) ∧ Q .non (upd H p (.lst (xs.eraseIdx j)))
theorem mt_remD {k : Nat} (K : PySem.W.Frag) (h : X.K = K) (hr : Room k X.A) : MtM X "list.remove" (rRemD K) := by
  subst h
  intro pins s σ H x vs v us Q I rx rv h
  obtain ⟨p, xs, y, ds, d, j, rfl, rfl, hH, rs, rd, ⟨l1, l2⟩, dp, ⟨ej, hej, yj⟩, no, q⟩ := h
  cases rx
  obtain ⟨u, rfl, ru⟩ := rv.one
  obtain ⟨z, its, n, r, hl, e⟩ := I.lstM hH
  obtain ⟨as, ra⟩ := rd.reads I ru
  obtain ⟨bs, rb⟩ := rs.reads I r
  have hu := hr.units
  have hm : min (PyData.depthAll ds) d.depth ≤ 60 := Nat.le_trans (Nat.min_le_right _ _) dp
  have hmap : its.map (readOf s.heap) = ds := readsAll_map ds its bs l1 rb
  have hat : ∀ m (hm : m < its.toArray.size) (g : PyData), ds[m]? = some g → PyData.eqv (readOf s.heap its.toArray[m]) d = PyData.eqv g d := fun m hm g hg => by
    rw [← hmap, List.getElem?_map] at hg
    have hm2 : m < its.length := by rw [List.size_toArray] at hm; exact hm
    rw [List.getElem?_eq_getElem hm2] at hg
    have := Option.some.inj hg
    rw [List.getElem_toArray, this]
  have hlen : ds.length = its.length := by rw [← hmap, List.length_map]
  have hj : j < its.toArray.size := by rw [List.size_toArray, ← hlen]; exact (List.getElem?_eq_some_iff.mp hej).1
  refine call_meets F.slot_list_remove ⟨_, e, rfl⟩ F.entry_list_remove (F.args_list_remove_2 _ _)
    (rem_list p its.toArray n u (fun w => PyData.eqv (readOf s.heap w) d) j hj (by rw [hat j hj ej hej]; exact yj) (fun m hm h2 => ?_) (by rw [List.size_toArray, ← hl]; exact z)) ⟨e, ?_, ?_⟩
  · have hm2 : m < ds.length := by rw [hlen]; rw [List.size_toArray] at hm; exact hm
    rw [hat m hm ds[m] (List.getElem?_eq_getElem hm2)]
    exact no m _ h2 (List.getElem?_eq_getElem hm2)
  · exact items_eqAt (by simpa using rb) ra l1 l2 (by omega)
  · refine ⟨.non, _, I.lset (its' := its.eraseIdx j) hH e ?_ (r.eraseIdx j) ?_, rfl, q⟩
    · show its.toArray.eraseIdxIfInBounds j = (its.eraseIdx j).toArray
      rw [List.eraseIdxIfInBounds_toArray]
    · have := len_erase xs j
      omega
end
end L2
namespace L2
open PySem PySem.Spec PyProof.Rows
end L2
namespace L2
open PySem PySem.Spec PyProof.Rows
structure ZT (P : Program) (w : World) (K : PySem.W.Frag) (fp : List Addr) (it : Addr) (Sq : Hp → List V → Prop) (IT : Nat → Heap → Prop) : Prop where
  obj : ∀ i h, IT i h → ∃ o, h.get? it = some o ∧ ∀ v, o.data ≠ .cell v
  keep : ∀ i h h', IT i h → (∀ o, h.get? it = some o → h'.get? it = some o) → IT i h'
  inj : ∀ (X : Cx), X.K = K → ∀ (pins : List (Addr × Obj)) (s : Shared) (σ : St) (H : Hp), Inv X pins σ H s → ∀ xs ys, Sq H xs → Sq H ys → xs = ys
  draws : ∀ (X : Cx), X.prog = P → X.w = w → X.K = K → X.calm = true → ∀ (pins : List (Addr × Obj)) (s : Shared) (σ : St) (H : Hp), Inv X pins σ H s → ∀ xs, Sq H xs →
    ∃ (PP : Nat → Value → Prop) (SS : Nat → Heap → Prop), (∀ i x v, xs[i]? = some x → PP i v → RelV x v) ∧ Draws P w X.A.in1 it fp xs.length PP SS ∧ (∀ i, IT i s.heap → SS i s.heap) ∧ ∀ i h, SS i h → IT i h
theorem ZS.zt {P : Program} {w : World} {K : PySem.W.Frag} {a it : Addr} {Sq : Hp → List V → Prop} {IT : Nat → Heap → Prop} (Z : ZS P w K a it Sq IT) (ne : a ≠ it) : ZT P w K [it, a] it Sq IT where
  obj := Z.obj
  keep := Z.keep
  inj := Z.inj
  draws := fun X hP hw hK hc pins s σ H I xs hq => by
    obtain ⟨its, SS, rv, D, h1, h2⟩ := Z.draws X hP hw hK hc pins s σ H I xs hq ne
    rw [← rv.length] at D
    refine ⟨_, SS, fun i x v hx hv => ?_, D, h1, h2⟩
    obtain ⟨u, hu, ru⟩ := rv.get hx
    have : v = u := Option.some.inj (hv.symm.trans hu)
    rw [this]; exact ru
theorem zt_str {P : Program} {w : World} {K : PySem.W.Frag} (it : Addr) (l : List Nat) (t : Tok) : ZT P w K [it] it (fun _ xs => xs = sgs l) (fun i h => h.IsStrIter it (strIterType (S l)) (S l) t i) where
  obj := fun i h st => by
    obtain ⟨o, ho, hc, hd⟩ := st
    exact ⟨o, ho, fun v z => by rw [hd] at z; cases z⟩
  keep := fun i h h' st k => by
    obtain ⟨o, ho, r⟩ := st
    exact ⟨o, k o ho, r⟩
  inj := fun X hK pins s σ H I xs ys h1 h2 => h1.trans h2.symm
  draws := fun X hP hw hK hc pins s σ H I xs hq => by
    subst hP hw hK hq
    have rel : ∀ i x v, (sgs l)[i]? = some x → (∃ (c : Nat) (u : Tok), (S l).cps[i]? = some c ∧ v = Value.str ⟨#[c]⟩ u) → RelV x v := fun i x v hx hh => by
      obtain ⟨c, u, e1, e2⟩ := hh
      obtain ⟨d, hd, rfl⟩ := sgs_get hx
      have e3 : l[i]? = some c := by rw [← e1]; show l[i]? = l.toArray[i]?; exact (List.getElem?_toArray ..).symm
      rw [hd] at e3; cases e3
      exact ⟨u, e2⟩
    have e : (S l).cps.size = (sgs l).length := by rw [S_size, sgs_len]
    by_cases ha : (S l).cps.all (· < 128) = true
    · have et : strIterType (S l) = "str_ascii_iterator" := by unfold strIterType; rw [if_pos ha]
      have D := Draws.strAscii (prog := X.prog) (w := X.w) (A := X.A.in1) (I.ok.hd hc) it (S l) t
      rw [e] at D
      exact ⟨_, _, rel, D, fun i h => by rw [et] at h; exact h, fun i h z => by rw [et]; exact z⟩
    · have et : strIterType (S l) = "str_iterator" := by unfold strIterType; rw [if_neg ha]
      have D := Draws.strWide (prog := X.prog) (w := X.w) (A := X.A.in1) (I.ok.hd hc) it (S l) t
      rw [e] at D
      exact ⟨_, _, rel, D, fun i h => by rw [et] at h; exact h, fun i h z => by rw [et]; exact z⟩
theorem turn_zipT {P : Program} {w : World} {K : PySem.W.Frag} {elts : List Expr} {k : Nat} {pos : Pos} {z TI TO i1 i2 : Addr} {f1 f2 : List Addr} {Sq1 Sq2 : Hp → List V → Prop} {I1 I2 : Nat → Heap → Prop}
    (W1 : ZT P w K f1 i1 Sq1 I1) (W2 : ZT P w K f2 i2 Sq2 I2) (Z : ZA z TI TO i1 i2 f1 f2) :
    Turn P w K (.Tuple elts k pos) (ItZ Sq1 Sq2) [z, TI, TO, i1, i2] z (fun i h => IsZip h z TI TO .none ∧ IsPair h TI (.ref i1) (.ref i2) ∧ (∃ a b, IsPair h TO a b) ∧ I1 i h ∧ I2 i h) where
  mem := by simp
  obj := fun i h st b hb => by
    obtain ⟨q1, q2, ⟨a, b', q3⟩, q4, q5⟩ := st
    simp only [List.mem_cons, List.not_mem_nil, or_false] at hb
    rcases hb with g | g | g | g | g <;> rw [g]
    · exact ⟨_, q1, fun v z => by cases z⟩
    · exact ⟨_, q2, fun v z => by cases z⟩
    · exact ⟨_, q3, fun v z => by cases z⟩
    · exact W1.obj i h q4
    · exact W2.obj i h q5
  keep := fun i h h' st kp => by
    obtain ⟨q1, q2, ⟨a, b', q3⟩, q4, q5⟩ := st
    exact ⟨kp z (by simp) _ q1, kp TI (by simp) _ q2, ⟨a, b', kp TO (by simp) _ q3⟩, W1.keep _ _ _ q4 fun o e => kp i1 (by simp) o e, W2.keep _ _ _ q5 fun o e => kp i2 (by simp) o e⟩
  item := by
    intro X hP hw hK hc i pins s σ H E I hf st hg
    obtain ⟨q1, q2, ⟨a, b', q3⟩, q4, q5⟩ := st
    obtain ⟨xs, ys, x, y, hx, hy, gx, gy⟩ := hg
    obtain ⟨PX, SX, rx, DX, ux, vx⟩ := W1.draws X hP hw hK hc pins s σ H I xs hx
    obtain ⟨PY, SY, ry, DY, uy, vy⟩ := W2.draws X hP hw hK hc pins s σ H I ys hy
    have ij1 := W1.inj X hK pins s σ H I
    have ij2 := W2.inj X hK pins s σ H I
    subst hP hw hK
    refine nextZ_item DX DY Z q1 q2 q3 (ux i q4) (uy i q5) (List.getElem?_eq_some_iff.mp gx).1 (List.getElem?_eq_some_iff.mp gy).1 fun x2 y2 h' tk p1 p2 e1 e2 e3 e4 e5 e6 e7 => ⟨_, rfl, ?_⟩
    have ru := rx i x x2 gx p1
    have rw0 := ry i y y2 gy p2
    have lt : ∀ {c o}, s.heap.get? c = some o → s.heap.objs.size ≠ c := fun e => Nat.ne_of_gt (Heap.lt_size e)
    obtain ⟨o1, g1⟩ := DX.live _ _ (ux i q4)
    obtain ⟨o2, g2⟩ := DY.live _ _ (uy i q5)
    have hTw : s.heap.objs.size ∉ [z, TI, TO, i1, i2] := by
      simp only [List.mem_cons, List.not_mem_nil, or_false, not_or]
      exact ⟨lt q1, lt q2, lt q3, lt g1, lt g2⟩
    refine wpAny_letOwnedTupleGo_zip e1 fun h2 z2 sb => ?_
    have kk : ∀ b o, b ∉ [z, TI, TO, i1, i2] → s.heap.get? b = some o → h2.get? b = some o := fun b o hb e => by
      simp only [List.mem_cons, List.not_mem_nil, or_false, not_or] at hb
      exact sb.extBut _ _ hb.1 (e7 b o hb.1 hb.2.2.1 hb.2.2.2.1 hb.2.2.2.2 e)
    have hTup2 : h2.IsTuple s.heap.objs.size #[x2, y2] := ⟨_, sb.extBut _ _ (lt q1) e5, rfl, _, rfl⟩
    refine ⟨.ref s.heap.objs.size, upd H s.heap.objs.size (.tup [x, y]), ?_, rfl, ⟨s.heap.objs.size, x, y, fun zs hzs => by rw [ij1 zs xs hzs hx]; exact gx, fun zs hzs => by rw [ij2 zs ys hzs hy]; exact gy, rfl, I.hok.fresh (Nat.le_refl _), rfl⟩,
      ⟨z2, sb.extBut _ _ Z.tz (e7 _ _ Z.tz Z.tt Z.t1 Z.t2 q2), ⟨_, _, sb.extBut _ _ Z.oz e2⟩, vx _ _ (DX.frame _ _ _ e3 fun c hc o e => sb.extBut _ _ (nm hc Z.z1) e), vy _ _ (DY.frame _ _ _ e4 fun c hc o e => sb.extBut _ _ (nm hc Z.z2) e)⟩, fun b hb => ?_⟩
    · refine I.turnLaid (t' := tk) (h' := h2) kk hf (Nat.le_refl _) ?_
      exact ⟨by show 2 ≤ sizeLine; decide, [x2, y2], .cons ru (.cons rw0 .nil), hTup2⟩
    · rw [upd_ne (fun q : b = s.heap.objs.size => hTw (q ▸ hb))]; exact (hf b hb).1
  done := by
    intro X hP hw hK hc i pins s σ H E I hf st hg
    obtain ⟨q1, q2, ⟨a, b', q3⟩, q4, q5⟩ := st
    obtain ⟨xs, hx, ⟨ys, hy⟩, el⟩ := hg
    obtain ⟨PX, SX, rx, DX, ux, vx⟩ := W1.draws X hP hw hK hc pins s σ H I xs hx
    subst hP hw hK
    subst el
    refine nextZ_end DX Z q1 q2 q3 (ux _ q4) fun h' hk => ⟨rfl, I.turnedL (t' := s.toks) (ch := [z, TI, TO, i1, i2]) (fun b o hb e => ?_) hf⟩
    simp only [List.mem_cons, List.not_mem_nil, or_false, not_or] at hb
    exact hk b o hb.1 hb.2.2.1 hb.2.2.2.1 hb.2.2.2.2 e
  self := fun _ _ s _ _ st h => wpAny_pyIter_zip st.1 h
noncomputable abbrev zsA (h : Heap) (x : Str) (t : Tok) : Heap := h.push { cls := .type (strIterType x), data := .fields #[.str x t, .int 0 0] }
noncomputable abbrev zsB (h : Heap) (x : Str) (t : Tok) (m : Addr) : Heap := zmA (zsA h x t) "tuple_iterator" m
noncomputable abbrev zsC (h : Heap) (x : Str) (t : Tok) (m : Addr) : Heap := (zsB h x t m).push { cls := .type "tuple", data := .seq #[.ref h.objs.size, .ref (zsA h x t).objs.size] }
noncomputable abbrev zsD (h : Heap) (x : Str) (t : Tok) (m : Addr) : Heap := (zsC h x t m).push { cls := .type "tuple", data := .seq #[.none, .none] }
noncomputable abbrev zsE (h : Heap) (x : Str) (t : Tok) (m : Addr) : Heap := (zsD h x t m).push { cls := .type "zip", data := .fields #[.none, .bool false, .bool false, .ref (zsB h x t m).objs.size, .ref (zsC h x t m).objs.size] }
set_option maxHeartbeats 4000000 in
theorem meets_zipST (x : Str) (t : Tok) (m : Addr) (ys : Array Value) : Meets (Builtin.«zip.__new__» ⟨[.type "zip", .str x t, .ref m], []⟩) (fun _ R s => s.heap.IsTuple m ys ∧ R (.ok (.ret (.ref (zsD s.heap x t m).objs.size))) { s with heap := zsE s.heap x t m }) :=
  .of_wp fun prog w A R s h => by
    obtain ⟨hp, g, d, tk, os⟩ := s; obtain ⟨q2, h⟩ := h; have hsub := sub_zip
    have k2 : Heap.IsTuple (Shared.heap ⟨hp.push { cls := .type (strIterType x), data := .fields #[.str x t, .int 0 0] }, g, d, tk, os⟩) m ys := by
      obtain ⟨o, e, r⟩ := q2
      exact ⟨o, Heap.get?_push_of_some _ e, r⟩
    have k1 : ∀ {A' : Around} {E' : Value → Shared → Prop} {Q' : Value → Shared → Prop}, Q' (.ref hp.objs.size) ⟨hp.push { cls := .type (strIterType x), data := .fields #[.str x t, .int 0 0] }, g, d, tk, os⟩ → wpAny (model prog w) A' (pyIter (.str x t)) Q' E' ⟨hp, g, d, tk, os⟩ := fun h => wpAny_pyIter_strU (s := ⟨hp, g, d, tk, os⟩) h
    wp_walk using k1, wpAny_pyIter_tuple k2
    exact ⟨_, rfl, h⟩
theorem zmk_ST (x : Str) (t : Tok) (m : Addr) (ys : Array Value) {prog : Program} {w : World} {A : Around} {E : Value → Shared → Prop} {s : Shared} {Q : Value → Shared → Prop} (p2 : s.heap.IsTuple m ys)
    (h : ∀ h', IsZip h' (s.heap.objs.size + 4) (s.heap.objs.size + 2) (s.heap.objs.size + 3) .none → IsPair h' (s.heap.objs.size + 2) (.ref s.heap.objs.size) (.ref (s.heap.objs.size + 1)) →
      IsPair h' (s.heap.objs.size + 3) .none .none → h'.get? s.heap.objs.size = some { cls := .type (strIterType x), data := .fields #[.str x t, .int 0 0] } → h'.get? (s.heap.objs.size + 1) = some { cls := .type "tuple_iterator", data := .fields #[.ref m, .int 0 0] } →
      (∀ b o, s.heap.get? b = some o → h'.get? b = some o) → Q (.ref (s.heap.objs.size + 4)) { s with heap := h' }) :
    wpAny (model prog w) A (call (.type "zip") [.str x t, .ref m]) Q E s := by
  refine callType_new F.called_zip (by decide) (F.typeCall_zip_2 _ _) (F.newCall_zip_2 _ _) (fun ob => F.args_object_init_3 ob _ _) F.entry_zip_new (meets_zipST x t m ys) ⟨p2, ?_⟩
  have e1 : (zsA s.heap x t).objs.size = s.heap.objs.size + 1 := Heap.size_push ..
  have e2 : (zsB s.heap x t m).objs.size = s.heap.objs.size + 2 := by rw [Heap.size_push, e1]
  have e3 : (zsC s.heap x t m).objs.size = s.heap.objs.size + 3 := by rw [Heap.size_push, e2]
  have e4 : (zsD s.heap x t m).objs.size = s.heap.objs.size + 4 := by rw [Heap.size_push, e3]
  have g5 : (zsE s.heap x t m).get? (zsD s.heap x t m).objs.size = some _ := Heap.get?_push_size _ rfl
  have g4 : (zsE s.heap x t m).get? (zsC s.heap x t m).objs.size = some _ := Heap.get?_push_of_some _ (Heap.get?_push_size _ rfl)
  have g3 : (zsE s.heap x t m).get? (zsB s.heap x t m).objs.size = some _ := Heap.get?_push_of_some _ (Heap.get?_push_of_some _ (Heap.get?_push_size _ rfl))
  have g2 : (zsE s.heap x t m).get? (zsA s.heap x t).objs.size = some _ := Heap.get?_push_of_some _ (Heap.get?_push_of_some _ (Heap.get?_push_of_some _ (Heap.get?_push_size _ rfl)))
  have g1 : (zsE s.heap x t m).get? s.heap.objs.size = some _ := Heap.get?_push_of_some _ (Heap.get?_push_of_some _ (Heap.get?_push_of_some _ (Heap.get?_push_of_some _ (Heap.get?_push_size _ rfl))))
  show _ ∧ _
  rw [e2, e3, e4] at g5
  rw [e1, e2] at g3
  rw [e3] at g4
  rw [e1] at g2
  rw [e4]
  exact ⟨⟨_, g5, rfl⟩, h _ g5 g3 g4 g1 g2 fun b o x => Heap.get?_push_of_some _ (Heap.get?_push_of_some _ (Heap.get?_push_of_some _ (Heap.get?_push_of_some _ (Heap.get?_push_of_some _ x))))⟩
theorem za_newS {n m : Nat} (h2 : m < n) : ZA (n + 4 : Nat) (n + 2 : Nat) (n + 3 : Nat) n (n + 1 : Nat) [n] [(n + 1 : Nat), m] := by
  have n1 : ∀ {a b : Nat}, a ≠ b → (a : Addr) ∉ ([b] : List Addr) := fun h q => h (List.mem_singleton.mp q)
  exact ⟨List.mem_cons_self, List.mem_cons_self, n1 (a := n + 4) (by omega), nin (a := n + 4) (b := n + 1) (c := m) (by omega) (by omega), n1 (a := n + 3) (by omega), nin (a := n + 3) (b := n + 1) (c := m) (by omega) (by omega),
    nin (a := n) (b := n + 1) (c := m) (by omega) (by omega), n1 (a := n + 1) (by omega), nne (a := n + 2) (b := n + 4) (by omega), nne (a := n + 2) (b := n + 3) (by omega), nne (a := n + 2) (b := n) (by omega), nne (a := n + 2) (b := n + 1) (by omega), nne (a := n + 3) (b := n + 4) (by omega)⟩
section
variable {X : Cx} {elts : List Expr} {k : Nat} {pos' : Pos} {a b : Expr} {ta : TA} {p pos : Pos}
noncomputable abbrev SqSa (l : List Nat) : Hp → List V → Prop := fun _ xs => xs = sgs l
noncomputable def iZipST (K : PySem.W.Frag) (ta : TA) : TI := fun σ H R => ta σ H fun vs H1 => ∃ l b, vs = [.str (S l), .ref b] ∧ (∃ ys, SqT K H1 b ys) ∧ R (ItZ (SqSa l) (SqTa K b)) H1
theorem pi_zipST (K : PySem.W.Frag) (hK : X.K = K) (hg : Gl X "zip") (hm : X.mg "zip" = none) (ha : PA X [a, b] ta) (hs : starEach [a, b] X.env = [(false, eval a X.env), (false, eval b X.env)] := by rfl) (hs2 : starEach [b] X.env = [(false, eval b X.env)] := by rfl) :
    PI X (.Tuple elts k pos') (.Call (.Name "zip" p) [a, b] [] pos) (iZipST K ta) := by
  subst hK
  intro pins s σ H R I h
  refine Call_ (ld_blt I hg hm boot_zip (PyProof.Rows.callWith_type1 (thn (ha pos pins s σ H _ I h) fun us s1 ⟨vs, H1, I1, r1, q1⟩ => ?_) (by rw [hs, hs2]) (by rw [hs2]; rfl)))
  obtain ⟨l, v, rfl, ⟨ys, hy⟩, q⟩ := q1
  obtain ⟨u', v', rfl, ru, rv⟩ := vals2 r1
  obtain ⟨t, rfl⟩ := ru
  cases rv
  obtain ⟨yi, _, py, _⟩ := I1.tuple hy
  obtain ⟨oy, ey, _⟩ := id py
  have lv := Heap.lt_size ey
  refine zmk_ST (S l) t v yi.toArray py fun h' z1 z2 z3 z4 z5 kk => wpAny_pyIter_zip z1 ?_
  refine ⟨s1.heap.objs.size + 4, [s1.heap.objs.size + 4, s1.heap.objs.size + 2, s1.heap.objs.size + 3, s1.heap.objs.size, s1.heap.objs.size + 1], _, _, H1, rfl, I1.kept (t' := s1.toks) kk, turn_zipT (zt_str s1.heap.objs.size l t) ((zs_tup v (s1.heap.objs.size + 1)).zt (Nat.ne_of_lt (Nat.lt_succ_of_lt lv))) (za_newS lv),
    ⟨z1, z2, ⟨_, _, z3⟩, ⟨_, z4, rfl, rfl⟩, ⟨_, z5, rfl, rfl⟩⟩, fun e he => ?_, q⟩
  have he2 : s1.heap.objs.size ≤ e := by
    simp only [List.mem_cons, List.not_mem_nil, or_false] at he
    rcases he with g | g | g | g | g <;> rw [g] <;> omega
  exact I1.fpOk he2 (I1.hok.fresh he2)
end
end L2
set_option maxHeartbeats 1000000
namespace L2
open PySem PySem.Spec PyProof.Rows
section
variable {X : Cx}
end
end L2
namespace L2.F2
open PySem PySem.Spec PyProof.Rows
end L2.F2
namespace L2
open PySem PySem.Spec PyProof.Rows
section
variable {prog : Program} {w : World} {A : Around} {E : Value → Shared → Prop} {s : Shared}
noncomputable def IsRevT (h : Heap) (it a : Addr) (i : Int) : Prop := ∃ o, h.get? it = some o ∧ o.cls = .type "reversed" ∧ o.data = .fields #[.ref a, rawInt i]
theorem IsRevT.typeIs {it a : Addr} {i : Int} (h : IsRevT s.heap it a i) : s.TypeIs (.ref it) "reversed" := let ⟨o, ho, hc, _⟩ := h; ⟨o, ho, hc⟩
end
section
variable {X : Cx} {tg : Expr}
end
theorem comp_enumL {K : PySem.W.Frag} {a : Addr} {xs : List V} {σc : St} {g : TG} {tc : TT} {te : TE} {Q : VK} {H1 : Hp} (Pv : Nat → List V → Hp → Prop) (hn : xs.length < sizeLine) (hl : ∀ i acc H, Pv i acc H → SqL K H a xs) (h0 : Pv 0 [] H1)
    (hs : ∀ (i : Nat) (x : V) (acc : List V) (H : Hp) (T : Addr) (Nx : List V → Hp → Prop), xs[i]? = some x → acc.length ≤ i → Pv i acc H → H T = none → (∀ acc' H', acc'.length ≤ i + 1 → Pv (i + 1) acc' H' → Nx acc' H') →
      g (.ref T) σc (upd H T (.tup [.int i, x])) fun σ2 H2 => Wk σc σ2 ∧ tc σ2 H2 fun b H3 => if b = true then te σ2 H3 fun v H4 => Nx (acc ++ [v]) H4 else Nx acc H3)
    (hd : ∀ acc H D, acc.length ≤ xs.length → Pv xs.length acc H → H D = none → Q (.ref D) (upd H D (.lst acc))) : CompW (ItEL K a) σc g tc te Q H1 := by
  refine ⟨fun i m acc H => m = xs.length - i ∧ i ≤ xs.length ∧ acc.length ≤ i ∧ Pv i acc H, ⟨xs.length, by simp, Nat.zero_le _, Nat.le_refl _, h0⟩, ?_⟩
  rintro i m acc H ⟨rfl, hi, hl', p⟩
  refine ⟨by omega, ?_⟩
  by_cases hlt : i < xs.length
  · refine .inr ⟨⟨xs, xs[i], hl i acc H p, List.getElem?_eq_getElem hlt⟩, fun x H' y => ?_⟩
    obtain ⟨T, z, hy, rfl, hT, rfl⟩ := y
    exact hs i z acc _ T (fun acc' H' => ∃ m', m' < xs.length - i ∧ (m' = xs.length - (i + 1) ∧ i + 1 ≤ xs.length ∧ acc'.length ≤ i + 1 ∧ Pv (i + 1) acc' H')) (hy xs (hl i acc H p)) hl' p hT fun acc' H' h1 h2 => ⟨xs.length - (i + 1), by omega, rfl, hlt, h1, h2⟩
  · have e : i = xs.length := by omega
    subst e
    exact .inl ⟨⟨xs, hl _ acc H p, rfl⟩, fun D hD => hd acc H D hl' p hD⟩
end L2
set_option maxHeartbeats 1000000
namespace L2
open PySem PySem.Spec PyProof.Rows
section
variable {X : Cx}
noncomputable def rListD : List V → Hp → VK → Prop := fun xs H Q => ∃ d kvs, xs = [.ref d] ∧ H d = some (.dK kvs) ∧ kvs.length ≤ 100000 ∧ ∀ l, H l = none → Q (.ref l) (upd H l (.lst (kvs.map fun kv => kV kv.1)))
theorem rel_of_is {P : Program} {w : World} {k : Key} {u : Value} (h : (mixKind P w).is k u = true) : RelV (kV k) u := by
  rcases keyIs_shape h with ⟨i, t, rfl, rfl⟩ | ⟨x, t, rfl, rfl⟩
  · exact ⟨t, rfl⟩
  · exact ⟨t, rfl⟩
theorem call_listD (hc : X.calm = true) : CallR X (.type "list") rListD := by
  intro pins s σ H xs us Q I r h
  obtain ⟨d, kvs, rfl, hd, hz, q⟩ := h
  obtain ⟨u, rfl, ru⟩ := vals1 r
  cases ru
  obtain ⟨z, lo, ws, kv, dd⟩ := dk_of I.hok hd
  obtain ⟨o, es, ep, ho, he, hdat, hk, hpr, hn⟩ := dd
  have hm : s.heap.DictAt (mixKind X.prog X.w) d ws ep := ⟨o, es, ho, he, hdat, hk, hpr, hn⟩
  have hlw : ws.length = kvs.length := kv.length.symm
  have hkeys := kv.keys
  have hs : (100000 : Nat) < sizeLine := by decide
  refine PySem.W.kdl_call (PySem.W.kdl_dict (knd := mixKind X.prog X.w) (kvs := ws) (ep := ep) lo) (I.ok.hd hc) hm (by omega) fun h' tk acc' c' hkp e hacc => ?_
  obtain ⟨h1, h2⟩ := hacc
  refine ⟨.ref s.heap.objs.size, _, I.laid (t' := tk) (o := .lst (kvs.map fun kv => kV kv.1)) hkp (Nat.le_refl _) ?_, rfl, q _ I.fresh⟩
  refine ⟨by rw [List.length_map]; omega, acc'.toList, c', ?_, by simpa using e⟩
  have gen : ∀ (l : List (Key × V)) (vs : List Value), vs.length = l.length → (∀ (j : Nat) (v : Value), vs[j]? = some v → ∃ k, (l.map (·.1))[j]? = some k ∧ (mixKind X.prog X.w).is k v = true) → Vals (l.map fun kv => kV kv.1) vs := by
    intro l
    induction l with
    | nil => intro vs hl _; cases vs with
      | nil => exact .nil
      | cons _ _ => cases hl
    | cons p l ih =>
      intro vs hl h
      cases vs with
      | nil => cases hl
      | cons v vs =>
        obtain ⟨k, hk, hi⟩ := h 0 v rfl
        cases hk
        exact .cons (rel_of_is hi) (ih vs (by simpa using hl) fun j w hj => by have := h (j + 1) w (by simpa using hj); simpa using this)
  refine gen kvs acc'.toList (by rw [← hlw]; simpa using h1) fun j v ej => ?_
  obtain ⟨k, x, ek, ei⟩ := h2 j v (by simpa using ej)
  refine ⟨k, ?_, ei⟩
  rw [hkeys, List.getElem?_map, ek]
  rfl
theorem fits_nat {i : Nat} (h : (i : Int) < 2 ^ 63) : Builtin.List.listFitsIndex (i : Int) = true := by
  unfold Builtin.List.listFitsIndex
  rw [Bool.and_eq_true]
  exact ⟨decide_eq_true (by omega), decide_eq_true (by omega)⟩
noncomputable def rInsert : V → List V → Hp → VK → Prop := fun x vs H Q => ∃ (l : Addr) (xs : List V) (i : Nat) (y : V), x = .ref l ∧ vs = [.int i, y] ∧ H l = some (.lst xs) ∧ i ≤ xs.length ∧ xs.length < sizeLine ∧ Q .non (upd H l (.lst (xs.take i ++ y :: xs.drop i)))
theorem mt_insert : MtM X "list.insert" rInsert := by
  intro pins s σ H x vs v us Q I rx rv h
  obtain ⟨l, xs, i, y, rfl, rfl, hH, hi, hz, q⟩ := h
  cases rx
  obtain ⟨a, b, rfl, ⟨t, rfl⟩, rb⟩ := vals2 rv
  obtain ⟨z, its, n, r, hl, e⟩ := I.lstM hH
  have hn := line63
  have hf : ¬ (!Builtin.List.listFitsIndex (i : Int)) = true := by rw [fits_nat (by omega)]; decide
  have hsz : its.toArray.size ≤ sizeLine := by rw [List.size_toArray]; omega
  generalize hI : (i : Int) = I' at hf
  have hm := PySem.AutoSeq1.list_insert_list_int_val_1 l its.toArray n I' t b hf hsz
  refine call_meets F.slot_list_insert ⟨_, e, rfl⟩ F.entry_list_insert (F.args_list_insert_3 _ _ _) hm ⟨e, ?_⟩
  clear hm
  refine ⟨.non, _, I.lset (its' := its.take i ++ b :: its.drop i) hH e ?_ ?_ ?_, rfl, q⟩
  · have e1 : (if I' < 0 then (I' + (its.toArray.size : Int)).toNat else min I'.toNat its.toArray.size) = i := by rw [← hI, if_neg (by omega), Int.toNat_natCast, List.size_toArray]; omega
    show ((its.toArray.extract 0 (if I' < 0 then (I' + (its.toArray.size : Int)).toNat else min I'.toNat its.toArray.size)).push b ++ its.toArray.extract (if I' < 0 then (I' + (its.toArray.size : Int)).toNat else min I'.toNat its.toArray.size)) = _
    rw [e1]
    apply Array.toList_inj.mp
    simp
    exact List.take_of_length_le (by rw [List.length_drop]; exact Nat.le_refl _)
  · have h1 : Vals (xs.take i) (its.take i) := r.take i
    exact h1.append (.cons rb (r.drop i))
  · rw [List.length_append, List.length_cons, List.length_take, List.length_drop]; omega
noncomputable def rJoinT (K : PySem.W.Frag) : V → List V → Hp → VK → Prop := fun x vs H Q => ∃ (p : Addr) (ls : List (List Nat)), x = .str (S []) ∧ vs = [.ref p] ∧ SqT K H p (ls.map fun l => V.str (S l)) ∧ (ls.map List.length).sum ≤ 16777216 ∧ Q (.str (S ls.flatten)) H
theorem mt_joinT (K : PySem.W.Frag) (h : X.K = K) : MtR X "str.join" (rJoinT K) := by
  subst h
  intro pins s σ H x xs v us Q I rx rv h
  obtain ⟨p, ls, rfl, rfl, hq, hz, q⟩ := h
  obtain ⟨t, rfl⟩ := rx
  obtain ⟨u, rfl, ru⟩ := vals1 rv
  cases ru
  obtain ⟨its, r, pl, _⟩ := I.tuple hq
  have e : (S []).length = 0 := rfl
  refine join_tuple pl (by simpa using strsAre_of r) ?_ fun t' k => ?_
  · rw [e, Nat.mul_zero, Nat.add_zero, List.map_map]
    have e2 : (Str.length ∘ S) = List.length := by funext l; exact S_len l
    have e3 : ((fun x : Str => x.length) ∘ S) = List.length := by funext l; exact S_len l
    first | (rw [e2]; exact hz) | (rw [e3]; exact hz)
  · exact ⟨.str (S ls.flatten), H, I.tok _, ⟨t', congrArg (fun z => Value.str z t') (join_S ls)⟩, q⟩
noncomputable def tListRng1 (ta : TA) : TE := fun σ H Q => ta σ H fun vs H1 => ∃ j : Int, vs = [.int j] ∧ -(2 ^ 61) ≤ j ∧ j ≤ 1000000 ∧ ∀ q, H1 q = none → Q (.ref q) (upd H1 q (.lst ((List.range j.toNat).map fun (k : Nat) => V.int (0 + (k : Int)))))
noncomputable def tListRng2 (ta : TA) : TE := fun σ H Q => ta σ H fun vs H1 => ∃ i j : Int, vs = [.int i, .int j] ∧ (-(2 ^ 61) ≤ i ∧ i < 2 ^ 61 ∧ -(2 ^ 61) ≤ j ∧ j < 2 ^ 61) ∧ j - i ≤ 1000000 ∧ ∀ q, H1 q = none → Q (.ref q) (upd H1 q (.lst ((List.range (j - i).toNat).map fun (k : Nat) => V.int (i + (k : Int)))))
theorem vals_rng {i : Int} : ∀ (n : Nat) (vs : List Value), vs.length = n → (∀ (j : Nat) (v : Value), vs[j]? = some v → ∃ t, v = .int (i + (j : Int) * 1) t) → Vals ((List.range n).map fun (k : Nat) => V.int (i + (k : Int))) vs
  | 0, vs, hl, _ => by
    obtain rfl : vs = [] := List.length_eq_zero_iff.mp hl
    exact .nil
  | n + 1, vs, hl, h => by
    have e : vs = vs.take n ++ [vs[n]'(by omega)] := by
      conv => lhs; rw [← List.take_length (l := vs), hl, List.take_succ_eq_append_getElem (by omega)]
    obtain ⟨t, ht⟩ := h n (vs[n]'(by omega)) (List.getElem?_eq_getElem _)
    rw [e, List.range_succ, List.map_append]
    refine (vals_rng n (vs.take n) (by rw [List.length_take]; omega) fun j w hj => h j w ?_).append (.cons ⟨t, ?_⟩ .nil)
    · have hj' := (List.getElem?_eq_some_iff.mp hj).1
      rw [List.length_take] at hj'
      rw [List.getElem?_take_of_lt (by omega)] at hj
      exact hj
    · rw [ht, Int.mul_one]
theorem list_rng {pins : List (Addr × Obj)} {σ : St} {H : Hp} {s : Shared} {Q : VK} {lo hi : Int} {t u v : Tok} {tk : Nat} (hc : X.calm = true) (I : Inv X pins σ H s) (h1 : -(2 ^ 61) ≤ lo) (h2 : lo < 2 ^ 61) (h3 : -(2 ^ 61) ≤ hi) (h4 : hi < 2 ^ 61) (hz : hi - lo ≤ 1000000)
    (q : ∀ p, H p = none → Q (.ref p) (upd H p (.lst ((List.range (hi - lo).toNat).map fun (k : Nat) => V.int (lo + (k : Int)))))) :
    wpAny (model X.prog X.w) X.A (call (.type "list") [.ref s.heap.objs.size]) (EP X pins σ Q) X.xe { s with heap := s.heap.push { cls := .type "range", data := .fields #[.int lo t, .int hi u, .int 1 v] }, toks := tk } := by
  have hs : (1000000 : Nat) < sizeLine := by decide
  refine PySem.call_list_range (n := (hi - lo).toNat) (I.ok.hd hc) (IsRange.new ..) (small_one (by omega) (by omega) (by omega) (by omega)) (by rw [rangeSize_one]; split <;> omega) (by omega) fun h' tk' acc' c' hk e hacc => ?_
  obtain ⟨ha1, ha2⟩ := hacc
  have hsz : (s.heap.push { cls := .type "range", data := .fields #[.int lo t, .int hi u, .int 1 v] }).objs.size = s.heap.objs.size + 1 := Heap.size_push _ _
  refine ⟨.ref _, _, I.laid (t' := tk') (o := .lst ((List.range (hi - lo).toNat).map fun (k : Nat) => V.int (lo + (k : Int)))) (fun b o hb => hk b o (Heap.get?_push_of_some _ hb)) (Nat.le_of_lt (by show s.heap.objs.size < _; rw [hsz]; exact Nat.lt_succ_self _)) ?_, rfl, q _ (I.hok.fresh (Nat.le_of_lt (by show s.heap.objs.size < _; rw [hsz]; exact Nat.lt_succ_self _)))⟩
  exact ⟨by rw [List.length_map, List.length_range]; omega, acc'.toList, c', vals_rng _ _ (by simpa using ha1) (fun j v e => ha2 j v (by simpa using e)), by simpa using e⟩
theorem pe_listRng1 {a : Expr} {ta : TA} {p p2 pos pos2 : Pos} (hc : X.calm = true) (hgl : Gl X "list") (hml : X.mg "list" = none) (hg : Gl X "range") (hm : X.mg "range" = none) (ha : PA X [a] ta)
    (hs : starEach [a] X.env = [(false, eval a X.env)] := by rfl) (hs2 : starEach [.Call (.Name "range" p2) [a] [] pos2] X.env = [(false, eval (.Call (.Name "range" p2) [a] [] pos2) X.env)] := by rfl) :
    PE X (.Call (.Name "list" p) [.Call (.Name "range" p2) [a] [] pos2] [] pos) (tListRng1 ta) := by
  intro pins s σ H Q I h
  refine Call_ (ld_blt I hgl hml boot_list (PyProof.Rows.callWith_type1 ?_ hs2 rfl))
  rw [hs2]
  refine Calls.spliced_cons ?_
  refine Call_ (ld_blt I hg hm boot_range (PyProof.Rows.callWith_type1 (thn (ha pos2 pins s σ H _ I h) fun us s1 ⟨vs, H1, I1, r1, q1⟩ => ?_) hs rfl))
  obtain ⟨j, rfl, q1, q2, q⟩ := q1
  obtain ⟨u, rfl, t, rfl⟩ := vals1 r1
  refine call_range_1 ?_
  refine Calls.spliced_nil ?_
  refine list_rng hc I1 (by omega) (by omega) q1 (by omega) (by omega) (by simpa using q)
theorem pe_listRng2 {a b : Expr} {ta : TA} {p p2 pos pos2 : Pos} (hc : X.calm = true) (hgl : Gl X "list") (hml : X.mg "list" = none) (hg : Gl X "range") (hm : X.mg "range" = none) (ha : PA X [a, b] ta)
    (hs : starEach [a, b] X.env = [(false, eval a X.env), (false, eval b X.env)] := by rfl) (hs1 : starEach [b] X.env = [(false, eval b X.env)] := by rfl) (hs2 : starEach [.Call (.Name "range" p2) [a, b] [] pos2] X.env = [(false, eval (.Call (.Name "range" p2) [a, b] [] pos2) X.env)] := by rfl) :
    PE X (.Call (.Name "list" p) [.Call (.Name "range" p2) [a, b] [] pos2] [] pos) (tListRng2 ta) := by
  intro pins s σ H Q I h
  refine Call_ (ld_blt I hgl hml boot_list (PyProof.Rows.callWith_type1 ?_ hs2 rfl))
  rw [hs2]
  refine Calls.spliced_cons ?_
  refine Call_ (ld_blt I hg hm boot_range (PyProof.Rows.callWith_type1 (thn (ha pos2 pins s σ H _ I h) fun us s1 ⟨vs, H1, I1, r1, q1⟩ => ?_) (by rw [hs, hs1]) (by rw [hs1]; rfl)))
  obtain ⟨i, j, rfl, ⟨q1, q2, q3, q4⟩, q5, q⟩ := q1
  obtain ⟨u, u', rfl, ⟨t, rfl⟩, ⟨t', rfl⟩⟩ := vals2 r1
  refine call_range_2 ?_
  refine Calls.spliced_nil ?_
  exact list_rng hc I1 q1 q2 q3 q4 q5 q
end
end L2
namespace L2
open PySem PySem.Spec PyProof.Rows PySem.W
section
noncomputable def Ev (lt : Nat → Nat → Bool) (n : Nat) {α : Type} : KasT α → (α → Prop) → Prop
  | .ret a, Q => Q a
  | .ask i j k, Q => i < n ∧ j < n ∧ Ev lt n (k (lt i j)) Q
theorem Ev.bind {lt : Nat → Nat → Bool} {n : Nat} {α β : Type} {f : α → KasT β} {Q : β → Prop} : ∀ {t : KasT α}, Ev lt n t (fun a => Ev lt n (f a) Q) → Ev lt n (t.bind f) Q
  | .ret _, h => h
  | .ask _ _ _, ⟨a, b, h⟩ => ⟨a, b, Ev.bind h⟩
structure Tot (lt : Nat → Nat → Bool) (n : Nat) : Prop where
  tr : ∀ a b c, lt b a = false → lt c b = false → lt c a = false
  sm : ∀ a b, lt a b = true → lt b a = false
  tt : ∀ a b, a < n → b < n → a ≠ b → lt a b = false → lt b a = true
noncomputable def Pm (p : Array Nat) (n : Nat) : Prop := p.Perm (List.range n).toArray
theorem gd (p : Array Nat) (i : Nat) : p.getD i 0 = p[i]?.getD 0 := by simp [Array.getD_eq_getD_getElem?]
theorem Pm.size {p : Array Nat} {n : Nat} (h : Pm p n) : p.size = n := by have := h.size_eq; simpa using this
theorem Pm.lt {p : Array Nat} {n : Nat} (h : Pm p n) (hn : 0 < n) (i : Nat) : p.getD i 0 < n := by
  rw [gd]
  by_cases hi : i < p.size
  · rw [Array.getElem?_eq_getElem hi]
    have m : p[i] ∈ p := Array.getElem_mem hi
    have := h.mem_iff.mp m
    simpa using this
  · rw [Array.getElem?_eq_none (by omega)]; exact hn
theorem Pm.ne {p : Array Nat} {n i j : Nat} (h : Pm p n) (hi : i < n) (hj : j < n) (hij : i ≠ j) : p.getD i 0 ≠ p.getD j 0 := by
  have hs := h.size
  have nd : p.toList.Nodup := (Array.perm_iff_toList_perm.mp h).nodup_iff.mpr (by simpa using List.nodup_range)
  have h1 : i < p.size := by omega
  have h2 : j < p.size := by omega
  rw [gd, gd, Array.getElem?_eq_getElem h1, Array.getElem?_eq_getElem h2]
  intro e
  have e2 : p.toList[i]'(by simpa using h1) = p.toList[j]'(by simpa using h2) := by simpa using e
  exact hij ((List.getElem_inj nd).mp e2)
section
variable {lt : Nat → Nat → Bool} {n : Nat}
end
end
section
variable {prog : Program} {w : World} {A : Around} {E : Value → Shared → Prop} {s : Shared}
theorem PairsAt.len {h : Heap} : ∀ {vs : List Value} {ns : List (Int × Int)}, PairsAt h vs ns → ns.length = vs.length
  | [], [], _ => rfl
  | _ :: _, _ :: _, ⟨_, b⟩ => by rw [List.length_cons, List.length_cons, PairsAt.len b]
  | [], _ :: _, h => h.elim
  | _ :: _, [], h => h.elim
end
section
variable {X : Cx}
theorem PrsV.len {K : PySem.W.Frag} {H : Hp} : ∀ {vs : List V} {ns : List (Int × Int)}, PrsV K H vs ns → ns.length = vs.length
  | [], [], _ => rfl
  | _ :: _, _ :: _, ⟨_, b⟩ => by rw [List.length_cons, List.length_cons, PrsV.len b]
  | [], _ :: _, h => h.elim
  | _ :: _, [], h => h.elim
end
end L2
set_option maxHeartbeats 4000000
namespace My
open PySem PySem.Spec PyProof.Rows L2
noncomputable def smalls : List Nat := [97, 98, 99, 100, 101, 102, 103, 104, 105, 106, 107, 108, 109, 110, 111, 112, 113, 114, 115, 116, 117, 118, 119, 120, 121, 122]
noncomputable def caps : List Nat := [65, 66, 67, 68, 69, 70, 71, 72, 73, 74, 75, 76, 77, 78, 79, 80, 81, 82, 83, 84, 85, 86, 87, 88, 89, 90]
noncomputable def Lt (c : Nat) : Prop := c ∈ smalls ∨ c ∈ caps
noncomputable instance (c : Nat) : Decidable (Lt c) := by unfold Lt; infer_instance
noncomputable def ctr (c : Nat) : Nat := if isLow c = true then PyProof.Rows.up1 c else PyProof.Rows.lo1 c
theorem lt_all : ∀ c ∈ smalls ++ caps, c < 128 ∧ ctr c ∈ smalls ++ caps ∧ ctr (ctr c) = c ∧ ctr c ≠ c := by decide +kernel
theorem Lt.mem {c : Nat} (h : Lt c) : c ∈ smalls ++ caps := List.mem_append.mpr h
theorem Lt.lt {c : Nat} (h : Lt c) : c < 128 := (lt_all c h.mem).1
theorem Lt.ctr {c : Nat} (h : Lt c) : Lt (ctr c) := List.mem_append.mp (lt_all c h.mem).2.1
theorem ctr_ctr {c : Nat} (h : Lt c) : ctr (ctr c) = c := (lt_all c h.mem).2.2.1
theorem ctr_ne {c : Nat} (h : Lt c) : ctr c ≠ c := (lt_all c h.mem).2.2.2
theorem ctr_inj {a b : Nat} (ha : Lt a) (hb : Lt b) (e : My.ctr a = My.ctr b) : a = b := by rw [← ctr_ctr ha, e, ctr_ctr hb]
theorem other_small : ∀ c ∈ smalls, atI caps ((smalls.idxOf c : Nat) : Int) = some (ctr c) := by decide +kernel
theorem other_cap : ∀ c ∈ caps, atI smalls ((caps.idxOf c : Nat) : Int) = some (ctr c) := by decide +kernel
noncomputable def SameB (b : Addr) (H H' : Hp) : Prop := ∀ c o, H c = some o → c ≠ b → H' c = some o
theorem SameB.refl (b : Addr) (H : Hp) : SameB b H H := fun _ _ h _ => h
theorem SameB.trans {b : Addr} {H H1 H2 : Hp} (x : SameB b H H1) (y : SameB b H1 H2) : SameB b H H2 := fun c o h n => y c o (x c o h n) n
theorem SameB.of {b : Addr} {H H' : Hp} (x : Same H H') : SameB b H H' := fun c o h _ => x c o h
theorem SameB.upd (b : Addr) (H : Hp) (o : HO) : SameB b H (upd H b o) := fun c o h n => by rw [upd_ne n]; exact h
theorem Same.upd {H : Hp} {p : Addr} {o : HO} (h : H p = none) : Same H (L2.upd H p o) := fun c u e => by rw [upd_ne (ne_of_none e h)]; exact e
noncomputable def BoxAt (H : Hp) (b : Addr) : Prop := ∃ x y : Int, H b = some (.lst [.int x, .int y])
theorem BoxAt.same {H H' : Hp} {b : Addr} (h : BoxAt H b) (s : Same H H') : BoxAt H' b := let ⟨x, y, e⟩ := h; ⟨x, y, s _ _ e⟩
structure Yd (y : List Nat) : Prop where
  nd : y.Nodup
  lt : ∀ c ∈ y, Lt c
  cl : ∀ c ∈ y, ctr c ∈ y
noncomputable def sp_contrary (_ : PySem.W.Frag) : Sp := fun vs H Q _ => ∃ c, vs = [.str (S [c])] ∧ c < 128 ∧ Q (.str (S [ctr c])) H
theorem len_contrary {K : PySem.W.Frag} {vs : List V} {H : Hp} {Q : VK} {E : XK} (h : sp_contrary K vs H Q E) : vs.length = 1 := by obtain ⟨c, rfl, _⟩ := h; rfl
noncomputable def sp_Lother (_ : PySem.W.Frag) : Sp := fun vs H Q _ => ∃ c, vs = [.str (S [c])] ∧ Lt c ∧ Q (.str (S [ctr c])) H
theorem len_Lother {K : PySem.W.Frag} {vs : List V} {H : Hp} {Q : VK} {E : XK} (h : sp_Lother K vs H Q E) : vs.length = 1 := by obtain ⟨c, rfl, _⟩ := h; rfl
noncomputable def sp_Lbox (K : PySem.W.Frag) : Sp := fun vs H Q _ => ∃ (a : Addr) (ns : List Int) (k : Nat), vs = [.ref a, .int k] ∧ SqL K H a (ns.map V.int) ∧ k ≤ 1000 ∧ ∀ b H', H b = none → BoxAt H' b → Same H H' → Q (.ref b) H'
theorem len_Lbox {K : PySem.W.Frag} {vs : List V} {H : Hp} {Q : VK} {E : XK} (h : sp_Lbox K vs H Q E) : vs.length = 2 := by obtain ⟨a, ns, k, rfl, _⟩ := h; rfl
noncomputable def sp_Ltake (_ : PySem.W.Frag) : Sp := fun vs H Q _ => ∃ (b : Addr) (m : Int), vs = [.ref b, .int m] ∧ BoxAt H b ∧ 1 ≤ m ∧ m < 1000000 ∧ ∀ (r : Nat) H', (r : Int) < m → BoxAt H' b → SameB b H H' → Q (.int r) H'
theorem len_Ltake {K : PySem.W.Frag} {vs : List V} {H : Hp} {Q : VK} {E : XK} (h : sp_Ltake K vs H Q E) : vs.length = 2 := by obtain ⟨b, m, rfl, _⟩ := h; rfl
noncomputable def sp_Lyard (_ : PySem.W.Frag) : Sp := fun vs H Q _ => ∃ (b : Addr) (few top : Nat), vs = [.ref b, .int few, .int top] ∧ BoxAt H b ∧ 1 ≤ few ∧ few ≤ top ∧ top ≤ 8 ∧ ∀ (y : List Nat) H', Yd y → 2 * few ≤ y.length → y.length ≤ 2 * top → BoxAt H' b → SameB b H H' → Q (.str (S y)) H'
theorem len_Lyard {K : PySem.W.Frag} {vs : List V} {H : Hp} {Q : VK} {E : XK} (h : sp_Lyard K vs H Q E) : vs.length = 3 := by obtain ⟨b, m, t, rfl, _⟩ := h; rfl
noncomputable def sp_Lword (_ : PySem.W.Frag) : Sp := fun vs H Q _ => ∃ (b : Addr) (y : List Nat) (top : Nat), vs = [.ref b, .str (S y), .int top] ∧ BoxAt H b ∧ y ≠ [] ∧ y.length ≤ 1000 ∧ top ≤ 1000 ∧ ∀ (l : List Nat) H', (∀ c ∈ l, c ∈ y) → l.length ≤ top → BoxAt H' b → SameB b H H' → Q (.str (S l)) H'
theorem len_Lword {K : PySem.W.Frag} {vs : List V} {H : Hp} {Q : VK} {E : XK} (h : sp_Lword K vs H Q E) : vs.length = 3 := by obtain ⟨b, m, t, rfl, _⟩ := h; rfl
noncomputable def sp_law (K : PySem.W.Frag) : Sp := fun vs H Q _ => ∃ (a : Addr) (ns : List Int), vs = [.ref a] ∧ SqL K H a (ns.map V.int) ∧ ns.length ≤ 63 ∧ ∀ H', Q (.bl true) H'
theorem len_law {K : PySem.W.Frag} {vs : List V} {H : Hp} {Q : VK} {E : XK} (h : sp_law K vs H Q E) : vs.length = 1 := by obtain ⟨b, m, rfl, _⟩ := h; rfl
theorem flat1 : ∀ l : List Nat, (l.map fun c => [c]).flatten = l
  | [] => rfl
  | c :: l => by rw [List.map_cons, List.flatten_cons, flat1 l]; rfl
theorem sum1 : ∀ l : List Nat, ((l.map fun c => [c]).map List.length).sum = l.length
  | [] => rfl
  | c :: l => by
    rw [List.map_cons, List.map_cons, List.sum_cons, sum1 l]
    show 1 + l.length = l.length + 1
    omega
theorem sgs_lists (l : List Nat) : sgs l = (l.map fun c => [c]).map fun l => V.str (S l) := by unfold sgs; rw [List.map_map]; rfl
theorem sgs_snoc (l : List Nat) (c : Nat) : sgs l ++ [V.str (S [c])] = sgs (l ++ [c]) := by unfold sgs; rw [List.map_append]; rfl
theorem take_snoc {α : Type} {l : List α} {i : Nat} {x : α} (h : l[i]? = some x) : l.take i ++ [x] = l.take (i + 1) := by rw [List.take_add_one, h]; rfl
theorem ints_at {ns : List Int} {i : Nat} (h : i < ns.length) : ∃ z, (ns.map V.int)[i]? = some (V.int z) := ⟨ns[i], by rw [List.getElem?_map, List.getElem?_eq_getElem h]; rfl⟩
theorem yes_ite {σ : L2.St} {H : Hp} {A B : Hp → Prop} (h : A H) : tYes σ H fun b H3 => if b = true then A H3 else B H3 := by
  show (if true = true then A H else B H)
  rw [if_pos rfl]
  exact h
theorem box_at (b : Bool) (z : Int) : ∃ y, atI [V.int 0, V.int z] (if b = true then 1 else 0) = some (V.int y) := by
  cases b
  · exact ⟨0, rfl⟩
  · exact ⟨z, rfl⟩
theorem erase_perm {α : Type} : ∀ {l : List α} {i : Nat} {x : α}, l[i]? = some x → (x :: l.eraseIdx i).Perm l
  | [], i, x, h => by simp at h
  | a :: l, 0, x, h => by
    have : a = x := by simpa using h
    subst this
    exact List.Perm.refl _
  | a :: l, i + 1, x, h => by
    have ih := erase_perm (l := l) (i := i) (x := x) (by simpa using h)
    rw [List.eraseIdx_cons_succ]
    exact (List.Perm.swap a x _).trans (List.Perm.cons a ih)
theorem sgs_erase (l : List Nat) (i : Nat) : (sgs l).eraseIdx i = sgs (l.eraseIdx i) := by
  unfold sgs
  induction l generalizing i with
  | nil => rfl
  | cons a l ih =>
    cases i with
    | zero => rfl
    | succ i => rw [List.map_cons, List.eraseIdx_cons_succ, ih, List.eraseIdx_cons_succ, List.map_cons]
theorem sgs_at {l : List Nat} {i : Nat} (h : i < l.length) : (sgs l)[i]? = some (V.str (S [l[i]])) := by unfold sgs; rw [List.getElem?_map, List.getElem?_eq_getElem h]; rfl
theorem sgs_app (a b : List Nat) : sgs a ++ sgs b = sgs (a ++ b) := by unfold sgs; rw [List.map_append]
theorem small_ctr : ∀ c ∈ smalls, ctr c ∉ smalls := by decide +kernel
theorem smalls_nd : smalls.Nodup := by decide +kernel
theorem Yd.perm {a b : List Nat} (h : Yd a) (p : a.Perm b) : Yd b :=
  ⟨p.nodup_iff.mp h.nd, fun c hc => h.lt c (p.mem_iff.mpr hc), fun c hc => p.mem_iff.mp (h.cl c (p.mem_iff.mpr hc))⟩
structure YdW (i : Nat) (L E : List Nat) : Prop where
  yd : Yd E
  nd : L.Nodup
  sm : ∀ c ∈ L, c ∈ smalls
  ap : ∀ c ∈ L, c ∉ E
  ll : L.length = 26 - i
  el : E.length = 2 * i
theorem YdW.start : YdW 0 smalls [] := ⟨⟨List.nodup_nil, fun _ h => absurd h List.not_mem_nil, fun _ h => absurd h List.not_mem_nil⟩, smalls_nd, fun _ h => h, fun _ _ h => absurd h List.not_mem_nil, rfl, rfl⟩
theorem YdW.turn {i r : Nat} {L E : List Nat} (w : YdW i L E) (hi : i < 26) (hr : r < L.length) : YdW (i + 1) (L.eraseIdx r) (E ++ [L[r], ctr L[r]]) := by
  have hp := erase_perm (l := L) (List.getElem?_eq_getElem hr)
  have hm : L[r] ∈ L := List.getElem_mem hr
  have hs := w.sm _ hm
  have hl : Lt L[r] := .inl hs
  have nd2 := hp.nodup_iff.mpr w.nd
  have sub : ∀ c ∈ L.eraseIdx r, c ∈ L := fun c hc => hp.mem_iff.mp (List.mem_cons_of_mem _ hc)
  have ap1 := w.ap _ hm
  have ap2 : ctr L[r] ∉ E := fun z => ap1 (by have := w.yd.cl _ z; rwa [ctr_ctr hl] at this)
  refine ⟨⟨?_, fun c hc => ?_, fun c hc => ?_⟩, (List.nodup_cons.mp nd2).2, fun c hc => w.sm c (sub c hc), fun c hc hE => ?_, ?_, ?_⟩
  · rw [List.nodup_append]
    refine ⟨w.yd.nd, ?_, fun a ha b hb z => ?_⟩
    · rw [List.nodup_cons]
      refine ⟨fun z => (ctr_ne hl) (List.mem_singleton.mp z).symm, List.nodup_cons.mpr ⟨List.not_mem_nil, List.nodup_nil⟩⟩
    · subst z
      rcases List.mem_cons.mp hb with z | z
      · exact ap1 (z ▸ ha)
      · exact ap2 (List.mem_singleton.mp z ▸ ha)
  · rcases List.mem_append.mp hc with z | z
    · exact w.yd.lt c z
    · rcases List.mem_cons.mp z with z | z
      · rw [z]; exact hl
      · rw [List.mem_singleton.mp z]; exact hl.ctr
  · rcases List.mem_append.mp hc with z | z
    · exact List.mem_append_left _ (w.yd.cl c z)
    · refine List.mem_append_right _ ?_
      rcases List.mem_cons.mp z with z | z
      · rw [z]; exact List.mem_cons_of_mem _ (List.mem_singleton.mpr rfl)
      · rw [List.mem_singleton.mp z, ctr_ctr hl]; exact List.mem_cons_self
  · rcases List.mem_append.mp hE with z | z
    · exact w.ap c (sub c hc) z
    · rcases List.mem_cons.mp z with z | z
      · exact (List.nodup_cons.mp nd2).1 (z ▸ hc)
      · have e : c = ctr L[r] := List.mem_singleton.mp z
        exact small_ctr _ hs (e ▸ w.sm c (sub c hc))
  · have := hp.length_eq
    rw [List.length_cons, w.ll] at this
    omega
  · rw [List.length_append, w.el]
    show 2 * i + 2 = _
    omega
theorem SameB.updN {b p : Addr} {H H' : Hp} {o : HO} (h : SameB b H H') (n : H p = none) : SameB b H (L2.upd H' p o) := fun c u e z => by rw [upd_ne (ne_of_none e n)]; exact h c u e z
theorem BoxAt.updN {b p : Addr} {H : Hp} {o : HO} (h : BoxAt H b) (n : p ≠ b) : BoxAt (L2.upd H p o) b := let ⟨x, y, e⟩ := h; ⟨x, y, by rw [upd_ne (Ne.symm n)]; exact e⟩
theorem SameB.none {b p : Addr} {H H' : Hp} (h : SameB b H H') (n : H' p = none) (z : p ≠ b) : H p = none := by
  cases q : H p with
  | none => rfl
  | some o => rw [h p o q z] at n; cases n
theorem BoxAt.ne {b p : Addr} {H : Hp} (h : BoxAt H b) (n : H p = none) : p ≠ b := fun z => by obtain ⟨x, y, e⟩ := h; rw [← z, n] at e; cases e
theorem iteN {c : Bool} {A B : Prop} (h : c = false) (hB : B) : if c = true then A else B := by rw [h]; exact iteF hB
theorem iteY {c : Bool} {A B : Prop} (h : c = true) (hA : A) : if c = true then A else B := by rw [h]; exact iteT hA
theorem sgs_take (a : List Nat) : a.take (sgs a).length = a := by rw [sgs_len]; exact List.take_of_length_le (Nat.le_refl _)
theorem SameB.same {b : Addr} {H H2 H3 : Hp} (n : H b = Option.none) (s : Same H H2) (t : SameB b H2 H3) : Same H H3 := fun c o e => t c o (s c o e) (ne_of_none e n)
theorem SameB.after {p : Addr} {H H1 H2 : Hp} (s : SameB p H H1) (t : Same H1 H2) : SameB p H H2 := fun c o e z => t c o (s c o e z)
noncomputable def txs (ws : List (List Nat)) : List V := ws.map fun l => V.str (S l)
theorem txs_len (ws : List (List Nat)) : (txs ws).length = ws.length := by unfold txs; rw [List.length_map]
theorem txs_snoc (ws : List (List Nat)) (l : List Nat) : txs ws ++ [V.str (S l)] = txs (ws ++ [l]) := by unfold txs; rw [List.map_append]; rfl
theorem txs_at {ws : List (List Nat)} {i : Nat} (h : i < ws.length) : (txs ws)[i]? = some (V.str (S ws[i])) := by unfold txs; rw [List.getElem?_map, List.getElem?_eq_getElem h]; rfl
noncomputable def rstep (st : List Nat) (c : Nat) : List Nat := if st.getLast? = some (ctr c) then st.dropLast else st ++ [c]
noncomputable def red (l : List Nat) : List Nat := l.foldl rstep []
noncomputable def Rdd : List Nat → Prop
  | [] => True
  | [_] => True
  | a :: b :: r => a ≠ ctr b ∧ Rdd (b :: r)
theorem Rdd.snoc : ∀ {l : List Nat} {c : Nat}, Rdd l → l.getLast? ≠ some (ctr c) → Rdd (l ++ [c])
  | [], _, _, _ => trivial
  | [a], c, _, h => ⟨fun z => h (by rw [z]; rfl), trivial⟩
  | a :: b :: r, c, h, k => ⟨h.1, Rdd.snoc (l := b :: r) h.2 (by simpa using k)⟩
theorem Rdd.init : ∀ {l : List Nat} {c : Nat}, Rdd (l ++ [c]) → Rdd l ∧ l.getLast? ≠ some (ctr c)
  | [], _, _ => ⟨trivial, by simp⟩
  | [a], c, h => ⟨trivial, fun z => h.1 (by simpa using z)⟩
  | a :: b :: r, c, h => by
    have ih := Rdd.init (l := b :: r) (c := c) h.2
    exact ⟨⟨h.1, ih.1⟩, by simpa using ih.2⟩
noncomputable def strip : Nat → List Nat → List Nat
  | 0, l => l
  | n + 1, l => match l with
    | [] => []
    | [a] => [a]
    | a :: b :: r => if a = ctr ((b :: r).getLast (by simp)) then strip n (b :: r).dropLast else a :: b :: r
noncomputable def core (l : List Nat) : List Nat := strip l.length l
theorem cut_to {α : Type} (l : List α) (k : Nat) : cut l none (some (k : Int)) = l.take k := by
  unfold cut
  rw [HT.sIx_none, HT.sIx_nat, List.drop_zero, Nat.sub_zero]
  by_cases h : k ≤ l.length
  · rw [Nat.min_eq_left h]
  · rw [Nat.min_eq_right (by omega), List.take_of_length_le (Nat.le_refl _), List.take_of_length_le (by omega)]
theorem cut_from {α : Type} (l : List α) (k : Nat) : cut l (some (k : Int)) none = l.drop k := by
  unfold cut
  rw [HT.sIx_none, HT.sIx_nat]
  by_cases h : k ≤ l.length
  · rw [Nat.min_eq_left h, List.take_of_length_le (by rw [List.length_drop]; exact Nat.le_refl _)]
  · rw [Nat.min_eq_right (by omega), List.drop_of_length_le (Nat.le_refl _), List.drop_of_length_le (by omega)]
    simp
noncomputable def ivs (ks : List Nat) : List V := ks.map fun (k : Nat) => V.int k
noncomputable def ids (ks : List Nat) : List PyData := ks.map fun (k : Nat) => PyData.int k
theorem rdds_ints {K : PySem.W.Frag} {H : Hp} : ∀ ks : List Nat, RdDs K H (ivs ks) (ids ks)
  | [] => .nil
  | k :: ks => .cons (.int _) (rdds_ints ks)
theorem lay_ints : ∀ ks : List Nat, PyData.canLayAll0 (ids ks) = true
  | [] => rfl
  | k :: ks => by show (PyData.canLay0 (.int _) && PyData.canLayAll0 (ids ks)) = true; rw [lay_ints ks]; rfl
theorem depth_ints : ∀ ks : List Nat, PyData.depthAll (ids ks) = 0
  | [] => rfl
  | k :: ks => by show max (PyData.depth (.int _)) (PyData.depthAll (ids ks)) = 0; rw [depth_ints ks]; rfl
noncomputable def tds (ws : List (List Nat)) : List PyData := ws.map fun l => PyData.str (S l)
theorem rdds_txs {K : PySem.W.Frag} {H : Hp} : ∀ ws : List (List Nat), RdDs K H (txs ws) (tds ws)
  | [] => .nil
  | w :: ws => .cons (.str _) (rdds_txs ws)
theorem str_ok {l : List Nat} (h : ∀ c ∈ l, c < 128) : PyData.strOk (S l) = true := by
  unfold PyData.strOk
  rw [Array.all_eq_true_iff_forall_mem]
  intro c hc
  have : c ∈ l := by simpa [S] using hc
  have := h c this
  simp; omega
theorem lay_txs : ∀ {ws : List (List Nat)}, (∀ l ∈ ws, ∀ c ∈ l, c < 128) → PyData.canLayAll0 (tds ws) = true
  | [], _ => rfl
  | w :: ws, h => by
    show (PyData.strOk (S w) && PyData.canLayAll0 (tds ws)) = true
    rw [str_ok (h w List.mem_cons_self), lay_txs fun l hl => h l (List.mem_cons_of_mem _ hl)]
    rfl
mutual
theorem eqv_refl : ∀ d : PyData, d.hasDict = false → PyData.eqv d d = true
  | .none, _ => rfl
  | .bool b, _ => by simp [PyData.eqv]
  | .int i, _ => by simp [PyData.eqv]
  | .str x, _ => by simp [PyData.eqv]
  | .list xs, h => by show PyData.eqvAll xs xs = true; exact eqvAll_refl xs (by simpa [PyData.hasDict] using h)
  | .tuple xs, h => by show PyData.eqvAll xs xs = true; exact eqvAll_refl xs (by simpa [PyData.hasDict] using h)
  | .dict kvs, h => by simp [PyData.hasDict] at h
theorem eqvAll_refl : ∀ ds : List PyData, PyData.hasDictAll ds = false → PyData.eqvAll ds ds = true
  | [], _ => rfl
  | d :: ds, h => by
    simp [PyData.hasDictAll] at h
    show (PyData.eqv d d && PyData.eqvAll ds ds) = true
    rw [eqv_refl d h.1, eqvAll_refl ds h.2]
    rfl
end
noncomputable def rot (c : List Nat) (k : Nat) : List Nat := c.drop k ++ c.take k
noncomputable def rots (c : List Nat) (n : Nat) : List (List Nat) := (List.range n).map fun k => rot c (k + 1)
noncomputable def ringC (c : List Nat) : List Nat := leastOf c (rots c (c.length - 1))
@[irreducible] noncomputable def ringM (w : List Nat) : List Nat := ringC (core (red w))
noncomputable def AllLt (l : List Nat) : Prop := ∀ c ∈ l, Lt c
theorem AllLt.app {a b : List Nat} (h : AllLt a) (g : AllLt b) : AllLt (a ++ b) := fun c hc => (List.mem_append.mp hc).elim (h c) (g c)
theorem AllLt.right {a b : List Nat} (h : AllLt (a ++ b)) : AllLt b := fun c hc => h c (List.mem_append_right _ hc)
noncomputable def letters : List Nat := [97, 98, 99, 100, 101, 102, 103, 104, 105, 106, 107, 108, 109, 110, 111, 112, 113, 114, 115, 116, 117, 118, 119, 120, 121, 122, 65, 66, 67, 68, 69, 70, 71, 72, 73, 74, 75, 76, 77, 78, 79, 80, 81, 82, 83, 84, 85, 86, 87, 88, 89, 90]
theorem Lt.letters {c : Nat} (h : Lt c) : c ∈ letters := h.mem
theorem low_of_small : ∀ c ∈ smalls, isLow c = true ∧ PyProof.Rows.lo1 c = c ∧ ctr c ∈ caps := by decide +kernel
theorem low_of_cap : ∀ c ∈ caps, isLow c = false ∧ PyProof.Rows.lo1 c = ctr c ∧ c ∉ smalls ∧ ctr c ∈ smalls := by decide +kernel
theorem cap_small : ∀ c ∈ caps, c ∉ smalls := by decide +kernel
theorem isLow_iff {c : Nat} (h : Lt c) : isLow c = decide (c ∈ smalls) := by
  rcases h with h | h
  · rw [(low_of_small c h).1, decide_eq_true h]
  · rw [(low_of_cap c h).1, decide_eq_false (low_of_cap c h).2.2.1]
noncomputable def kept (sm : List Nat) (c : Nat) : Bool := decide (PyProof.Rows.lo1 c ∈ sm)
theorem kept_or {sm : List Nat} {c : Nat} (hs : ∀ d ∈ sm, d ∈ smalls) (h : Lt c) : kept sm c = (decide (c ∈ sm) || decide (ctr c ∈ sm)) := by
  unfold kept
  rcases h with h | h
  · obtain ⟨_, e, e2⟩ := low_of_small c h
    have : ctr c ∉ sm := fun z => cap_small _ e2 (hs _ z)
    rw [e, decide_eq_false this, Bool.or_false]
  · obtain ⟨_, e, e2, _⟩ := low_of_cap c h
    have : c ∉ sm := fun z => e2 (hs _ z)
    rw [e, decide_eq_false this, Bool.false_or]
theorem kept_ctr {sm : List Nat} {c : Nat} (hs : ∀ d ∈ sm, d ∈ smalls) (h : Lt c) : kept sm (ctr c) = kept sm c := by
  rw [kept_or hs h, kept_or hs h.ctr, ctr_ctr h, Bool.or_comm]
theorem Yd.within {y sm : List Nat} (h : Yd y) (hs : ∀ d ∈ sm, d ∈ smalls) : Yd (y.filter (kept sm)) :=
  ⟨h.nd.filter _, fun c hc => h.lt c (List.mem_filter.mp hc).1, fun c hc => by
    obtain ⟨h1, h2⟩ := List.mem_filter.mp hc
    exact List.mem_filter.mpr ⟨h.cl c h1, by rw [kept_ctr hs (h.lt c h1)]; exact h2⟩⟩
noncomputable def cyc (i j k : Nat) : Prop := (i < j ∧ j < k) ∨ (j < k ∧ k < i) ∨ (k < i ∧ i < j)
noncomputable instance (i j k : Nat) : Decidable (cyc i j k) := by unfold cyc; infer_instance
theorem sorted_eq {a b : List Nat} (h : a.Perm b) (ha : a.Pairwise (· ≤ ·)) (hb : b.Pairwise (· ≤ ·)) : a = b :=
  List.Perm.eq_of_pairwise (le := fun x y => x ≤ y) (fun _ _ _ _ h1 h2 => Nat.le_antisymm h1 h2) ha hb h
noncomputable def sp_bands (_ : PySem.W.Frag) : Sp := fun vs H Q _ => ∃ l : List Nat, vs = [.str (S l)] ∧ (∀ c ∈ l, c < 128) ∧ l.length < 64 ∧ ∀ l' H', l'.Perm (l.filter isLow) → l'.Pairwise (· ≤ ·) → Same H H' → Q (.str (S l')) H'
theorem len_bands {K : PySem.W.Frag} {vs : List V} {H : Hp} {Q : VK} {E : XK} (h : sp_bands K vs H Q E) : vs.length = 1 := by obtain ⟨c, rfl, _⟩ := h; rfl
noncomputable def sp_Lbands (_ : PySem.W.Frag) : Sp := fun vs H Q _ => ∃ y : List Nat, vs = [.str (S y)] ∧ y.length < 64 ∧ ∀ q l' H', H q = none → H' q = some (.lst (sgs l')) → l'.Perm (y.filter fun c => decide (c ∈ smalls)) → l'.Pairwise (· ≤ ·) → Same H H' → Q (.ref q) H'
theorem len_Lbands {K : PySem.W.Frag} {vs : List V} {H : Hp} {Q : VK} {E : XK} (h : sp_Lbands K vs H Q E) : vs.length = 1 := by obtain ⟨c, rfl, _⟩ := h; rfl
theorem filter_take {p : Nat → Bool} {l : List Nat} {i c : Nat} (h : l[i]? = some c) : (l.take (i + 1)).filter p = (l.take i).filter p ++ if p c = true then [c] else [] := by
  rw [← take_snoc h, List.filter_append]
  congr 1
  by_cases z : p c = true
  · rw [if_pos z, List.filter_cons_of_pos z]; rfl
  · rw [if_neg z, List.filter_cons_of_neg z]; rfl
theorem half_low {y : List Nat} (h : Yd y) : 2 * (y.filter isLow).length = y.length := by
  have key : ∀ p q : Nat → Bool, (∀ c ∈ y, p c = true → q (ctr c) = true) → (y.filter p).length ≤ (y.filter q).length := fun p q hpq => by
    have hn : ((y.filter p).map ctr).Nodup := by
      show ((y.filter p).map ctr).Pairwise (· ≠ ·)
      rw [List.pairwise_map]
      refine (h.nd.filter p).imp_of_mem fun {a b} ha hb z e => z ?_
      exact ctr_inj (h.lt a (List.mem_filter.mp ha).1) (h.lt b (List.mem_filter.mp hb).1) e
    have := hn.length_le_of_subset (l₂ := y.filter q) fun c hc => by
      obtain ⟨d, hd, rfl⟩ := List.mem_map.mp hc
      obtain ⟨d1, d2⟩ := List.mem_filter.mp hd
      exact List.mem_filter.mpr ⟨h.cl d d1, hpq d d1 d2⟩
    rwa [List.length_map] at this
  have k1 := key isLow (fun c => !isLow c) fun c hc z => by
    rw [isLow_iff (h.lt c hc)] at z
    have hs := of_decide_eq_true z
    rw [(low_of_cap _ (low_of_small c hs).2.2).1]; rfl
  have k2 := key (fun c => !isLow c) isLow fun c hc z => by
    rcases h.lt c hc with q | q
    · rw [(low_of_small c q).1] at z; cases z
    · exact (low_of_small _ (low_of_cap c q).2.2.2).1
  have k3 : (y.filter isLow).length + (y.filter fun c => !isLow c).length = y.length := by
    clear k1 k2 key h
    induction y with
    | nil => rfl
    | cons a r ih =>
      cases hq : isLow a
      · rw [List.filter_cons_of_neg (by simp [hq]), List.filter_cons_of_pos (by simp [hq]), List.length_cons, List.length_cons]; omega
      · rw [List.filter_cons_of_pos hq, List.filter_cons_of_neg (by simp [hq]), List.length_cons, List.length_cons]; omega
  omega
noncomputable def bsOf (y : List Nat) : List Nat := (y.filter isLow).mergeSort fun a b => decide (a ≤ b)
theorem bsOf_perm (y : List Nat) : (bsOf y).Perm (y.filter isLow) := List.mergeSort_perm _ _
theorem bsOf_sorted (y : List Nat) : (bsOf y).Pairwise (· ≤ ·) :=
  (List.pairwise_mergeSort (le := fun a b => decide (a ≤ b)) (fun a b c h1 h2 => decide_eq_true (Nat.le_trans (of_decide_eq_true h1) (of_decide_eq_true h2))) (fun a b => by
    rcases Nat.le_total a b with z | z
    · rw [decide_eq_true z]; rfl
    · rw [decide_eq_true z, Bool.or_true]) (y.filter isLow)).imp fun z => of_decide_eq_true z
theorem bsOf_eq {y l : List Nat} (h : l.Perm (y.filter isLow)) (p : l.Pairwise (· ≤ ·)) : l = bsOf y := sorted_eq (h.trans (bsOf_perm y).symm) p (bsOf_sorted y)
theorem smalls_low {y : List Nat} (h : ∀ c ∈ y, Lt c) : (y.filter fun c => decide (c ∈ smalls)) = y.filter isLow := List.filter_congr fun c hc => (isLow_iff (h c hc)).symm
theorem lo_in {y : List Nat} (h : Yd y) {e : Nat} (he : e ∈ y) : PyProof.Rows.lo1 e ∈ bsOf y := by
  refine (bsOf_perm y).mem_iff.mpr (List.mem_filter.mpr ?_)
  rcases h.lt e he with z | z
  · rw [(low_of_small e z).2.1]; exact ⟨he, (low_of_small e z).1⟩
  · rw [(low_of_cap e z).2.1]; exact ⟨h.cl e he, (low_of_small _ (low_of_cap e z).2.2.2).1⟩
theorem bsOf_len {y : List Nat} (h : Yd y) : 2 * (bsOf y).length = y.length := by rw [(bsOf_perm y).length_eq]; exact half_low h
structure Pr where
  t : Addr
  c : Nat
  i : Nat
noncomputable def prv (ps : List Pr) : List V := ps.map fun p => V.ref p.t
theorem prv_len (ps : List Pr) : (prv ps).length = ps.length := by unfold prv; rw [List.length_map]
theorem prv_app (a b : List Pr) : prv a ++ prv b = prv (a ++ b) := by unfold prv; rw [List.map_append]
theorem prv_snoc (a : List Pr) (p : Pr) : prv a ++ [V.ref p.t] = prv (a ++ [p]) := by unfold prv; rw [List.map_append]; rfl
theorem prv_at {ps : List Pr} {i : Nat} {x : V} (h : (prv ps)[i]? = some x) : ∃ p, ps[i]? = some p ∧ x = V.ref p.t := by
  unfold prv at h
  rw [List.getElem?_map] at h
  cases e : ps[i]? with
  | none => rw [e] at h; cases h
  | some p => rw [e] at h; cases h; exact ⟨p, rfl, rfl⟩
structure PrOk (H : Hp) (p : Pr) : Prop where
  tp : H p.t = some (.tup [.int p.c, .int p.i])
  cz : p.c < 1000
  iz : p.i < 1000
theorem PrOk.same {H H' : Hp} {p : Pr} (h : PrOk H p) (s : Same H H') : PrOk H' p := ⟨s _ _ h.tp, h.cz, h.iz⟩
structure Od where
  o : Addr
  ps : List Pr
structure OdOk (H : Hp) (o : Od) : Prop where
  tp : H o.o = some (.tup (prv o.ps))
  pr : ∀ p ∈ o.ps, PrOk H p
  fw : o.ps.length ≤ 100
theorem OdOk.same {H H' : Hp} {o : Od} (h : OdOk H o) (s : Same H H') : OdOk H' o := ⟨s _ _ h.tp, fun p hp => (h.pr p hp).same s, h.fw⟩
noncomputable def odv (os : List Od) : List V := os.map fun o => V.ref o.o
theorem odv_len (os : List Od) : (odv os).length = os.length := by unfold odv; rw [List.length_map]
theorem odv_snoc (a : List Od) (p : Od) : odv a ++ [V.ref p.o] = odv (a ++ [p]) := by unfold odv; rw [List.map_append]; rfl
theorem odv_at {os : List Od} {i : Nat} {o : Od} (h : os[i]? = some o) : (odv os)[i]? = some (V.ref o.o) := by unfold odv; rw [List.getElem?_map, h]; rfl
structure DrAt (H : Hp) (dr : Addr) (ws : List (List Nat)) (os : List Od) : Prop where
  ex : ∃ wt ot, H dr = some (.tup [.ref wt, .ref ot]) ∧ H wt = some (.tup (txs ws)) ∧ H ot = some (.tup (odv os))
  od : ∀ o ∈ os, OdOk H o
theorem DrAt.same {H H' : Hp} {dr : Addr} {ws : List (List Nat)} {os : List Od} (h : DrAt H dr ws os) (s : Same H H') : DrAt H' dr ws os := by
  obtain ⟨⟨wt, ot, h1, h2, h3⟩, g⟩ := h
  exact ⟨⟨wt, ot, s _ _ h1, s _ _ h2, s _ _ h3⟩, fun o ho => (g o ho).same s⟩
structure Pt where
  t : Addr
  c : Nat
  i : Nat
  e : Nat
noncomputable def Pt.is (p : Pt) : Nat × Nat × Nat := (p.c, p.i, p.e)
structure PtOk (H : Hp) (p : Pt) : Prop where
  tp : H p.t = some (.tup [.int p.c, .int p.i, .str (S [p.e])])
  cz : p.c < 1000
  iz : p.i < 1000
  ez : p.e < 128
theorem PtOk.same {H H' : Hp} {p : Pt} (h : PtOk H p) (s : Same H H') : PtOk H' p := ⟨s _ _ h.tp, h.cz, h.iz, h.ez⟩
theorem PtOk.upd {H : Hp} {p : Pt} {q : Addr} {o : HO} (h : PtOk H p) (n : p.t ≠ q) : PtOk (L2.upd H q o) p := ⟨by rw [upd_ne n]; exact h.tp, h.cz, h.iz, h.ez⟩
noncomputable def ThingsAt (K : PySem.W.Frag) (H : Hp) (x : V) (ys : List V) : Prop := (∃ p, x = .ref p ∧ (SqL K H p ys ∨ SqT K H p ys)) ∨ ∃ l : List Nat, x = .str (S l) ∧ ys = sgs l
noncomputable def sp_Lorder (K : PySem.W.Frag) : Sp := fun vs H Q _ => ∃ (b : Addr) (x : V) (ys : List V), vs = [.ref b, x] ∧ BoxAt H b ∧ ThingsAt K H x ys ∧ ys.length ≤ 1000 ∧ ∀ q ys' H', H q = none → q ≠ b → H' q = some (.lst ys') → ys'.Perm ys → BoxAt H' b → SameB b H H' → Q (.ref q) H'
theorem len_Lorder {K : PySem.W.Frag} {vs : List V} {H : Hp} {Q : VK} {E : XK} (h : sp_Lorder K vs H Q E) : vs.length = 2 := by obtain ⟨c, _, _, rfl, _⟩ := h; rfl
theorem perm_unmap {α β : Type} {f : α → β} {ys zs : List β} (h : ys.Perm zs) : ∀ l : List α, zs = l.map f → ∃ l' : List α, ys = l'.map f ∧ l'.Perm l := by
  induction h with
  | nil => intro l e; cases l with
    | nil => exact ⟨[], rfl, List.Perm.refl _⟩
    | cons a l => cases e
  | cons x h ih =>
    intro l e
    cases l with
    | nil => cases e
    | cons a l =>
      injection e with e1 e2
      obtain ⟨l', g1, g2⟩ := ih l e2
      exact ⟨a :: l', by rw [g1, e1]; rfl, g2.cons a⟩
  | swap x y t =>
    intro l e
    cases l with
    | nil => cases e
    | cons a l =>
      cases l with
      | nil => cases e
      | cons b l =>
        injection e with e1 e2
        injection e2 with e2 e3
        exact ⟨b :: a :: l, by rw [e1, e2, e3]; rfl, List.Perm.swap a b l⟩
  | trans h1 h2 i1 i2 =>
    intro l e
    obtain ⟨l1, g1, g2⟩ := i2 l e
    obtain ⟨l2, g3, g4⟩ := i1 l1 g1
    exact ⟨l2, g3, g4.trans g2⟩
noncomputable def Pr.pair (p : Pr) : Nat × Nat := (p.c, p.i)
noncomputable def onB (band l : Nat) : Bool := decide (l = band) || decide (l = ctr band)
noncomputable def strUp (band c : Nat) (w : List Nat) (n : Nat) : List (Nat × Nat) := ((List.range n).filter fun i => onB band (w.getD i 0)).map fun i => (c, i)
noncomputable def strAll (band : Nat) (ws : List (List Nat)) (n : Nat) : List (Nat × Nat) := (List.range n).flatMap fun c => strUp band c (ws.getD c []) (ws.getD c []).length
theorem strUp_succ {band c i l : Nat} {w : List Nat} (h : w[i]? = some l) : strUp band c w (i + 1) = strUp band c w i ++ if onB band l = true then [(c, i)] else [] := by
  have e : w.getD i 0 = l := by rw [List.getD_eq_getElem?_getD, h]; rfl
  unfold strUp
  rw [List.range_succ, List.filter_append, List.map_append]
  congr 1
  by_cases z : onB band l = true
  · rw [if_pos z, List.filter_cons_of_pos (by rw [e]; exact z)]; rfl
  · rw [if_neg z, List.filter_cons_of_neg (by rw [e]; exact z)]; rfl
theorem strAll_succ {band i : Nat} {ws : List (List Nat)} {w : List Nat} (h : ws[i]? = some w) : strAll band ws (i + 1) = strAll band ws i ++ strUp band i w w.length := by
  have e : ws.getD i [] = w := by rw [List.getD_eq_getElem?_getD, h]; rfl
  unfold strAll
  rw [List.range_succ, List.flatMap_append]
  congr 1
  rw [List.flatMap_cons, List.flatMap_nil, List.append_nil, e]
theorem strUp_len (band c : Nat) (w : List Nat) (n : Nat) : (strUp band c w n).length ≤ n := by
  unfold strUp
  rw [List.length_map]
  exact Nat.le_trans (List.length_filter_le _ _) (by rw [List.length_range]; exact Nat.le_refl _)
structure WsOk (y : List Nat) (ws : List (List Nat)) : Prop where
  few : ws.length ≤ 4
  all : ∀ w ∈ ws, (∀ c ∈ w, c ∈ y) ∧ w.length ≤ 12
noncomputable def OsOk (y : List Nat) (ws : List (List Nat)) (os : List Od) : Prop := os.length = (bsOf y).length ∧ ∀ (j : Nat) (o : Od) (b : Nat), os[j]? = some o → (bsOf y)[j]? = some b → (o.ps.map Pr.pair).Perm (strAll b ws ws.length)
noncomputable def sp_Ldrawing (_ : PySem.W.Frag) : Sp := fun vs H Q _ => ∃ (b : Addr) (y : List Nat) (wt : Addr) (ws : List (List Nat)), vs = [.ref b, .str (S y), .ref wt] ∧ BoxAt H b ∧ Yd y ∧ y.length ≤ 8 ∧ wt ≠ b ∧ H wt = some (.tup (txs ws)) ∧ WsOk y ws ∧ ∀ (dr : Addr) (os : List Od) (H' : Hp), DrAt H' dr ws os → OsOk y ws os → BoxAt H' b → SameB b H H' → Q (.ref dr) H'
theorem len_Ldrawing {K : PySem.W.Frag} {vs : List V} {H : Hp} {Q : VK} {E : XK} (h : sp_Ldrawing K vs H Q E) : vs.length = 3 := by obtain ⟨c, _, _, _, rfl, _⟩ := h; rfl
theorem TSame.box {H H' : Hp} {b : Addr} (h : BoxAt H b) (s : SameB b H H') : TSame H H' := fun c xs e => s c _ e fun z => by
  obtain ⟨x, y, g⟩ := h
  rw [z, g] at e; cases e
theorem PrOk.ts {H H' : Hp} {p : Pr} (h : PrOk H p) (s : TSame H H') : PrOk H' p := ⟨s _ _ h.tp, h.cz, h.iz⟩
theorem OdOk.ts {H H' : Hp} {o : Od} (h : OdOk H o) (s : TSame H H') : OdOk H' o := ⟨s _ _ h.tp, fun p hp => (h.pr p hp).ts s, h.fw⟩
theorem DrAt.ts {H H' : Hp} {dr : Addr} {ws : List (List Nat)} {os : List Od} (h : DrAt H dr ws os) (s : TSame H H') : DrAt H' dr ws os := by
  obtain ⟨⟨wt, ot, h1, h2, h3⟩, g⟩ := h
  exact ⟨⟨wt, ot, s _ _ h1, s _ _ h2, s _ _ h3⟩, fun o ho => (g o ho).ts s⟩
theorem PtOk.ts {H H' : Hp} {p : Pt} (h : PtOk H p) (s : TSame H H') : PtOk H' p := ⟨s _ _ h.tp, h.cz, h.iz, h.ez⟩
theorem low_on {band l : Nat} (hb : band ∈ smalls) (hl : Lt l) : decide (PyProof.Rows.lo1 l = band) = onB band l := by
  unfold onB
  rcases hl with h | h
  · have e := (low_of_small l h).2.1
    have n : l ≠ ctr band := fun z => cap_small _ (low_of_small band hb).2.2 (z ▸ h)
    rw [e, decide_eq_false n, Bool.or_false]
  · have e := (low_of_cap l h).2.1
    have n : l ≠ band := fun z => cap_small l h (z ▸ hb)
    rw [e, decide_eq_false n, Bool.false_or]
    refine decide_eq_decide.mpr ⟨fun z => by rw [← z, ctr_ctr (.inr h)], fun z => by rw [z, ctr_ctr (.inl hb)]⟩
noncomputable def pz (p : Nat × Nat) : Int × Int := (p.1, p.2)
theorem strAll_len (band : Nat) {ws : List (List Nat)} (hw : ∀ w ∈ ws, w.length ≤ 12) : ∀ n, n ≤ ws.length → (strAll band ws n).length ≤ 12 * n
  | 0, _ => Nat.le_refl _
  | n + 1, h => by
    have hn : n < ws.length := by omega
    rw [strAll_succ (List.getElem?_eq_getElem hn), List.length_append]
    have h1 := strAll_len band hw n (by omega)
    have h2 := strUp_len band n ws[n] ws[n].length
    have h3 := hw _ (List.getElem_mem hn)
    omega
noncomputable def prD (p : Nat × Nat) : PyData := .tuple [.int p.1, .int p.2]
theorem rdds_prs {K : PySem.W.Frag} {H : Hp} : ∀ {ps : List Pr}, (∀ p ∈ ps, PrOk H p) → RdDs K H (prv ps) ((ps.map Pr.pair).map prD)
  | [], _ => .nil
  | p :: ps, h => .cons (.tup (SqT.of (h p List.mem_cons_self).tp) (.cons (.int _) (.cons (.int _) .nil))) (rdds_prs fun q hq => h q (List.mem_cons_of_mem _ hq))
theorem sms_prs {H : Hp} {ps : List Pr} (h : ∀ p ∈ ps, PrOk H p) {k : Nat} : SmDs (k + 1) (90 * ps.length) ((ps.map Pr.pair).map prD) := by
  refine .all (a := 89) (fun x hx => ?_) (by rw [List.length_map, List.length_map]; omega)
  obtain ⟨q, hq, rfl⟩ := List.mem_map.mp hx
  obtain ⟨p, hp, rfl⟩ := List.mem_map.mp hq
  have ok := h p hp
  have b1 : (p.c : Int).natAbs < 10 ^ 12 := by have := ok.cz; omega
  have b2 : (p.i : Int).natAbs < 10 ^ 12 := by have := ok.iz; omega
  exact .tup (.cons (a := 40) (b := 41) (.int b1 (by decide)) (.cons (a := 40) (b := 0) (.int b2 (by decide)) .nil (by decide)) (by decide))
theorem dict_prs : ∀ ns : List (Nat × Nat), PyData.hasDictAll (ns.map prD) = false
  | [] => rfl
  | n :: ns => by show (PyData.hasDict (prD n) || PyData.hasDictAll (ns.map prD)) = false; rw [dict_prs ns]; rfl
noncomputable def odD (o : Od) : PyData := .tuple ((o.ps.map Pr.pair).map prD)
theorem rdds_ods {K : PySem.W.Frag} {H : Hp} : ∀ {os : List Od}, (∀ o ∈ os, OdOk H o) → RdDs K H (odv os) (os.map odD)
  | [], _ => .nil
  | o :: os, h => .cons (.tup (SqT.of (h o List.mem_cons_self).tp) (rdds_prs (h o List.mem_cons_self).pr)) (rdds_ods fun q hq => h q (List.mem_cons_of_mem _ hq))
noncomputable def OsEx (y : List Nat) (ws : List (List Nat)) (os : List Od) : Prop := os.map (fun o => o.ps.map Pr.pair) = (bsOf y).map fun b => strAll b ws ws.length
theorem OsEx.data {y : List Nat} {ws : List (List Nat)} {os : List Od} (h : OsEx y ws os) : os.map odD = ((bsOf y).map fun b => strAll b ws ws.length).map fun ns => PyData.tuple (ns.map prD) := by
  rw [← h, List.map_map]
  rfl
theorem sm_dr {H : Hp} {ws : List (List Nat)} {os : List Od} (hw : ∀ w ∈ ws, (∀ c ∈ w, c < 128) ∧ w.length ≤ 12) (hf : ws.length ≤ 4) (ho : ∀ o ∈ os, OdOk H o) (hz : os.length ≤ 4) : SmD 40 100000 (.tuple [.tuple (tds ws), .tuple (os.map odD)]) := by
  have s1 : SmD 39 60 (.tuple (tds ws)) := .tup (.all (a := 12) (fun x hx => by
    obtain ⟨w, hw', rfl⟩ := List.mem_map.mp hx
    exact .str (hw w hw').1 (hw w hw').2) (by unfold tds; rw [List.length_map]; omega))
  have s2 : SmD 39 40000 (.tuple (os.map odD)) := .tup (.all (a := 9000) (fun x hx => by
    obtain ⟨o, ho', rfl⟩ := List.mem_map.mp hx
    have k := ho o ho'
    have m := sms_prs (k := 36) k.pr
    exact .tup ⟨m.lv, m.sh, m.ly, m.dp, Nat.le_trans m.wt (by have := k.fw; omega)⟩) (by rw [List.length_map]; omega))
  exact .tup (.cons (a := 60) (b := 40001) s1 (.cons (a := 40000) (b := 0) s2 .nil (by decide)) (by decide))
theorem bs_small {y : List Nat} (h : Yd y) {b : Nat} (hb : b ∈ bsOf y) : b ∈ smalls := by
  obtain ⟨h1, h2⟩ := List.mem_filter.mp ((bsOf_perm y).mem_iff.mp hb)
  rw [isLow_iff (h.lt b h1)] at h2
  exact of_decide_eq_true h2
structure Ask where
  t : Addr
  u : List Nat
  wt : Addr
  ws : List (List Nat)
  ot : Addr
  os : List Od
structure AskOk (H : Hp) (k : Ask) : Prop where
  tp : H k.t = some (.tup [.str (S k.u), .ref k.wt, .ref k.ot])
  yd : Yd k.u
  yz : k.u.length ≤ 8
  wo : WsOk k.u k.ws
  hw : H k.wt = some (.tup (txs k.ws))
  ho : H k.ot = some (.tup (odv k.os))
  od : ∀ o ∈ k.os, OdOk H o
  ex : OsEx k.u k.ws k.os
theorem AskOk.ts {H H' : Hp} {k : Ask} (h : AskOk H k) (s : TSame H H') : AskOk H' k := ⟨s _ _ h.tp, h.yd, h.yz, h.wo, s _ _ h.hw, s _ _ h.ho, fun o ho => (h.od o ho).ts s, h.ex⟩
noncomputable def kS (l : List Nat) : Key := Sum.inr (S l)
theorem kS_inj {a b : List Nat} (h : kS a = kS b) : a = b := by rw [← S_list a, Sum.inr.inj h, S_list]
structure LdOk (H : Hp) (o : Od) : Prop where
  tp : H o.o = some (.lst (prv o.ps))
  pr : ∀ p ∈ o.ps, PrOk H p
  fw : o.ps.length ≤ 100
noncomputable def ordK (bs : List Nat) (os : List Od) : List (Key × V) := (bs.zip os).map fun x => (kS [x.1], V.ref x.2.o)
structure OrdAt (H : Hp) (d : Addr) (bs : List Nat) (os : List Od) : Prop where
  dk : H d = some (.dK (ordK bs os))
  ln : os.length = bs.length
  nd : (os.map Od.o).Nodup
  ok : ∀ o ∈ os, LdOk H o
theorem ordK_len {bs : List Nat} {os : List Od} (h : os.length = bs.length) : (ordK bs os).length = bs.length := by unfold ordK; rw [List.length_map, List.length_zip]; omega
theorem ordK_keys : ∀ {bs : List Nat} {os : List Od}, os.length = bs.length → (ordK bs os).map (fun kv => kV kv.1) = sgs bs
  | [], [], _ => rfl
  | b :: bs, o :: os, h => by
    show kV (kS [b]) :: (ordK bs os).map (fun kv => kV kv.1) = V.str (S [b]) :: sgs bs
    rw [ordK_keys (by simpa using h)]
    rfl
theorem ordK_get : ∀ {bs : List Nat} {os : List Od} {j : Nat} {b : Nat} {o : Od}, bs.Nodup → bs[j]? = some b → os[j]? = some o → valV (ordK bs os) (kS [b]) = some (.ref o.o)
  | b' :: bs, o' :: os, 0, b, o, _, hb, ho => by
    cases hb; cases ho
    exact valV_pos rfl
  | b' :: bs, o' :: os, j + 1, b, o, nd, hb, ho => by
    obtain ⟨n1, n2⟩ := List.nodup_cons.mp nd
    have hne : kS [b'] ≠ kS [b] := fun z => n1 (by
      have := List.mem_of_getElem? (show bs[j]? = some b by simpa using hb)
      rw [(List.cons.inj (kS_inj z)).1]; exact this)
    show valV ((kS [b'], V.ref o'.o) :: ordK bs os) (kS [b]) = _
    rw [valV_neg hne]
    exact ordK_get n2 (by simpa using hb) (by simpa using ho)
theorem ordK_none : ∀ {bs : List Nat} {os : List Od} {b : Nat}, b ∉ bs → valV (ordK bs os) (kS [b]) = none
  | [], _, _, _ => rfl
  | _ :: _, [], _, _ => rfl
  | b' :: bs, o' :: os, b, h => by
    show valV ((kS [b'], V.ref o'.o) :: ordK bs os) (kS [b]) = none
    rw [valV_neg fun z => h (by rw [← (List.cons.inj (kS_inj z)).1]; exact List.mem_cons_self)]
    exact ordK_none fun z => h (List.mem_cons_of_mem _ z)
theorem ordK_put : ∀ {bs : List Nat} {os : List Od} {j : Nat} {b : Nat} {o' : Od}, bs.Nodup → os.length = bs.length → bs[j]? = some b → putK (ordK bs os) (kS [b]) (.ref o'.o) = ordK bs (os.set j o') := by
  intro bs os j b o' nd hl hb
  have hj : j < os.length := by rw [hl]; exact (List.getElem?_eq_some_iff.mp hb).1
  have hs : (valV (ordK bs os) (kS [b])).isSome = true := by rw [ordK_get nd hb (List.getElem?_eq_getElem hj)]; rfl
  unfold putK
  rw [valV_any, if_pos hs]
  clear hs
  induction bs generalizing os j with
  | nil => simp at hb
  | cons b0 bs ih =>
    cases os with
    | nil => simp at hj
    | cons o0 os =>
      obtain ⟨n1, n2⟩ := List.nodup_cons.mp nd
      cases j with
      | zero =>
        have hbb : b0 = b := by simpa using hb
        subst hbb
        show (if kS [b0] = kS [b0] then (kS [b0], V.ref o'.o) else _) :: (ordK bs os).map _ = (kS [b0], V.ref o'.o) :: ordK bs os
        rw [if_pos rfl]
        congr 1
        have : ∀ kv ∈ ordK bs os, (if kv.1 = kS [b0] then (kv.1, V.ref o'.o) else kv) = kv := fun kv hkv => by
          unfold ordK at hkv
          obtain ⟨x, hx, rfl⟩ := List.mem_map.mp hkv
          rw [if_neg]
          intro z
          have := (List.of_mem_zip (show (x.1, x.2) ∈ bs.zip os from hx)).1
          rw [(List.cons.inj (kS_inj z)).1] at this
          exact n1 this
        rw [List.map_congr_left this, List.map_id']
      | succ j =>
        have hb' : bs[j]? = some b := by simpa using hb
        have hne : kS [b0] ≠ kS [b] := fun z => n1 (by rw [(List.cons.inj (kS_inj z)).1]; exact List.mem_of_getElem? hb')
        show (if kS [b0] = kS [b] then _ else (kS [b0], V.ref o0.o)) :: (ordK bs os).map _ = (kS [b0], V.ref o0.o) :: ordK bs (os.set j o')
        rw [if_neg hne]
        congr 1
        exact ih n2 (by simpa using hl) hb' (by simpa using hj)
noncomputable def ren1 (c : Nat) (f : Nat → Option Nat) (p : Nat × Nat) : Option (Nat × Nat) := if p.1 = c then (f p.2).map fun j => (c, j) else some p
noncomputable def renM (c : Nat) (f : Nat → Option Nat) (ps : List (Nat × Nat)) : List (Nat × Nat) := ps.filterMap (ren1 c f)
noncomputable def prs (o : Od) : List (Nat × Nat) := o.ps.map Pr.pair
noncomputable def sp_renumber (_ : PySem.W.Frag) : Sp := fun vs H Q _ => ∃ (d : Addr) (c : Nat) (pp : Addr) (bs : List Nat) (os : List Od) (xs : List V) (f : Nat → Option Nat), vs = [.ref d, .int c, .ref pp] ∧ OrdAt H d bs os ∧ bs.Nodup ∧ bs.length ≤ 100 ∧ c < 1000 ∧ H pp = some (.lst xs) ∧
  (∀ o ∈ os, ∀ p ∈ o.ps, p.c = c → xs[p.i]? = some (match f p.i with | none => V.non | some j => V.int (j : Nat))) ∧ (∀ o ∈ os, ∀ p ∈ o.ps, p.c = c → ∀ j, f p.i = some j → j < 1000) ∧
  ∀ (os' : List Od) (H' : Hp), OrdAt H' d bs os' → os'.map prs = os.map (fun o => renM c f (prs o)) → (∀ o ∈ os', H o.o = none) → SameB d H H' → Q .non H'
theorem len_renumber {K : PySem.W.Frag} {vs : List V} {H : Hp} {Q : VK} {E : XK} (h : sp_renumber K vs H Q E) : vs.length = 3 := by obtain ⟨_, _, _, _, _, _, _, rfl, _⟩ := h; rfl
theorem LdOk.sameB {H H' : Hp} {d : Addr} {o : Od} (h : LdOk H o) (s : SameB d H H') (hd : o.o ≠ d) (t : TSame H H') : LdOk H' o := ⟨s _ _ h.tp hd, fun p hp => (h.pr p hp).ts t, h.fw⟩
theorem LdOk.same {H H' : Hp} {o : Od} (h : LdOk H o) (s : Same H H') : LdOk H' o := ⟨s _ _ h.tp, fun p hp => (h.pr p hp).same s, h.fw⟩
theorem OrdAt.same {H H' : Hp} {d : Addr} {bs : List Nat} {os : List Od} (h : OrdAt H d bs os) (s : Same H H') : OrdAt H' d bs os := ⟨s _ _ h.dk, h.ln, h.nd, fun o ho => (h.ok o ho).same s⟩
theorem OrdAt.ne {H : Hp} {d : Addr} {bs : List Nat} {os : List Od} (h : OrdAt H d bs os) {o : Od} (ho : o ∈ os) : o.o ≠ d := fun z => by
  have := (h.ok o ho).tp
  rw [z, h.dk] at this
  cases this
theorem nodup_set {l : List Addr} (h : l.Nodup) : ∀ {j : Nat} {a : Addr}, a ∉ l → (l.set j a).Nodup := by
  induction l with
  | nil => intro j a _; exact h
  | cons x l ih =>
    obtain ⟨n1, n2⟩ := List.nodup_cons.mp h
    intro j a ha
    cases j with
    | zero => exact List.nodup_cons.mpr ⟨fun z => ha (List.mem_cons_of_mem _ z), n2⟩
    | succ j =>
      refine List.nodup_cons.mpr ⟨fun z => ?_, ih n2 fun z => ha (List.mem_cons_of_mem _ z)⟩
      rcases List.mem_or_eq_of_mem_set z with g | g
      · exact n1 g
      · exact ha (by rw [← g]; exact List.mem_cons_self)
theorem OrdAt.put {H : Hp} {d : Addr} {bs : List Nat} {os : List Od} {j : Nat} {b : Nat} {o' : Od} (h : OrdAt H d bs os) (nd : bs.Nodup) (hb : bs[j]? = some b) (ho : LdOk H o') (hd : o'.o ≠ d) (hn : ∀ o ∈ os, o.o ≠ o'.o) :
    OrdAt (upd H d (.dK (putK (ordK bs os) (kS [b]) (.ref o'.o)))) d bs (os.set j o') := by
  have hdk := h.dk
  have up : ∀ {x : Od}, LdOk H x → x.o ≠ d → LdOk (upd H d (.dK (putK (ordK bs os) (kS [b]) (.ref o'.o)))) x := fun {x} hx hne =>
    ⟨by rw [upd_ne hne]; exact hx.tp, fun p hp => ⟨by rw [upd_ne (fun z => by have := (hx.pr p hp).tp; rw [z, hdk] at this; cases this)]; exact (hx.pr p hp).tp, (hx.pr p hp).cz, (hx.pr p hp).iz⟩, hx.fw⟩
  refine ⟨by rw [upd_same, ordK_put nd h.ln hb], by rw [List.length_set]; exact h.ln, ?_, fun x hx => ?_⟩
  · rw [List.map_set]
    exact nodup_set h.nd fun z => by
      obtain ⟨o, ho1, ho2⟩ := List.mem_map.mp z
      exact hn o ho1 ho2
  · rcases List.mem_or_eq_of_mem_set hx with g | g
    · exact up (h.ok x g) (h.ne g)
    · rw [g]; exact up ho hd
theorem set_drop {α : Type} (l : List α) (i : Nat) (a : α) : (l.set i a).drop (i + 1) = l.drop (i + 1) := by
  induction l generalizing i with
  | nil => rfl
  | cons x l ih => cases i with
    | zero => rfl
    | succ i => exact ih i
theorem set_take {α : Type} (l : List α) (i : Nat) (a : α) (h : i < l.length) : (l.set i a).take (i + 1) = l.take i ++ [a] := by
  induction l generalizing i with
  | nil => simp at h
  | cons x l ih => cases i with
    | zero => rfl
    | succ i => show x :: (l.set i a).take (i + 1) = x :: (l.take i ++ [a]); rw [ih i (by simpa using h)]
theorem renM_snoc (c : Nat) (f : Nat → Option Nat) (l : List (Nat × Nat)) (p : Nat × Nat) : renM c f (l ++ [p]) = renM c f l ++ (ren1 c f p).toList := by
  unfold renM
  rw [List.filterMap_append]
  cases h : ren1 c f p <;> simp [List.filterMap_cons, h]
noncomputable def SameX (a b : Addr) (H H' : Hp) : Prop := ∀ x u, H x = some u → x ≠ a → x ≠ b → H' x = some u
noncomputable def swapAt (n : Nat) (l : List Pr) : List Pr := match l[n]?, l[n + 1]? with | some p, some q => (l.set n q).set (n + 1) p | _, _ => l
noncomputable def outF (k i : Nat) : Option Nat := if i < k then some i else if i < k + 2 then none else some (i - 2)
noncomputable def inF (k i : Nat) : Option Nat := if i < k then some i else some (i + 2)
noncomputable def turnF (n i : Nat) : Option Nat := if i = 0 then some (n - 1) else some (i - 1)
noncomputable def fV (o : Option Nat) : V := match o with | none => V.non | some j => V.int (j : Nat)
structure Hold (H : Hp) (d wl : Addr) (bs : List Nat) (os : List Od) (ws : List (List Nat)) : Prop where
  od : OrdAt H d bs os
  wd : H wl = some (.lst (txs ws))
  nd : bs.Nodup
  bl : bs.length ≤ 100
  ne : ∀ o ∈ os, o.o ≠ wl
  pz : ∀ o ∈ os, ∀ p ∈ o.ps, ∃ w, ws[p.c]? = some w ∧ p.i < w.length
  wz : ws.length ≤ 4
  wo : ∀ w ∈ ws, (∀ c ∈ w, Lt c) ∧ w.length ≤ 12
noncomputable def sp_do_swap (_ : PySem.W.Frag) : Sp := fun vs H Q _ => ∃ (d : Addr) (bs : List Nat) (os : List Od) (b j n : Nat) (o : Od), vs = [.ref d, .str (S [b]), .int n] ∧ OrdAt H d bs os ∧ bs.Nodup ∧ bs.length ≤ 100 ∧ bs[j]? = some b ∧ os[j]? = some o ∧ n + 1 < o.ps.length ∧
  ∀ H', OrdAt H' d bs (os.set j ⟨o.o, swapAt n o.ps⟩) → SameB o.o H H' → Q (.bl true) H'
theorem len_do_swap {K : PySem.W.Frag} {vs : List V} {H : Hp} {Q : VK} {E : XK} (h : sp_do_swap K vs H Q E) : vs.length = 3 := by obtain ⟨_, _, _, _, _, _, _, rfl, _⟩ := h; rfl
noncomputable def Left (H : Hp) (Q : VK) (d wl : Addr) (bs : List Nat) (os : List Od) (ws : List (List Nat)) (c : Nat) (w' : List Nat) (f : Nat → Option Nat) : Prop :=
  ∀ (os' : List Od) (H' : Hp), OrdAt H' d bs os' → os'.map prs = os.map (fun o => renM c f (prs o)) → H' wl = some (.lst (txs (ws.set c w'))) → (∀ o ∈ os', H o.o = none) → SameX d wl H H' → Q (.bl true) H'
noncomputable def sp_do_out (_ : PySem.W.Frag) : Sp := fun vs H Q _ => ∃ (d wl : Addr) (bs : List Nat) (os : List Od) (ws : List (List Nat)) (c k : Nat) (w : List Nat) (x : Nat), vs = [.ref wl, .ref d, .int c, .int k] ∧ Hold H d wl bs os ws ∧ ws[c]? = some w ∧ w[k]? = some x ∧ w[k + 1]? = some (ctr x) ∧
  Left H Q d wl bs os ws c (w.take k ++ w.drop (k + 2)) (outF k)
theorem len_do_out {K : PySem.W.Frag} {vs : List V} {H : Hp} {Q : VK} {E : XK} (h : sp_do_out K vs H Q E) : vs.length = 4 := by obtain ⟨_, _, _, _, _, _, _, _, _, rfl, _⟩ := h; rfl
noncomputable def sp_do_turn (_ : PySem.W.Frag) : Sp := fun vs H Q _ => ∃ (d wl : Addr) (bs : List Nat) (os : List Od) (ws : List (List Nat)) (c : Nat) (w : List Nat), vs = [.ref wl, .ref d, .int c] ∧ Hold H d wl bs os ws ∧ ws[c]? = some w ∧
  Left H Q d wl bs os ws c (w.drop 1 ++ w.take 1) (turnF w.length)
theorem len_do_turn {K : PySem.W.Frag} {vs : List V} {H : Hp} {Q : VK} {E : XK} (h : sp_do_turn K vs H Q E) : vs.length = 3 := by obtain ⟨_, _, _, _, _, _, _, rfl, _⟩ := h; rfl
theorem prv_set (ps : List Pr) (n : Nat) (p : Pr) : (prv ps).set n (V.ref p.t) = prv (ps.set n p) := by unfold prv; rw [List.map_set]
theorem Hold.pl {H : Hp} {d wl : Addr} {bs : List Nat} {os : List Od} {ws : List (List Nat)} (h : Hold H d wl bs os ws) {c : Nat} {w : List Nat} (hw : ws[c]? = some w) {xs : List V} {f : Nat → Option Nat} (hx : ∀ i, i < w.length → xs[i]? = some (fV (f i))) :
    ∀ o ∈ os, ∀ p ∈ o.ps, p.c = c → xs[p.i]? = some (match f p.i with | none => V.non | some j => V.int (j : Nat)) := fun o ho p hp e => by
  obtain ⟨w', h1, h2⟩ := h.pz o ho p hp
  rw [e, hw] at h1
  cases h1
  exact hx _ h2
theorem ixN_nat {n k : Nat} (h : k < n) : ixN n (k : Int) = some k := by
  unfold ixN
  rw [if_pos (by omega)]
  simp [h]
theorem ordK_map (bs : List Nat) (os : List Od) : ordK bs os = (bs.zip (os.map Od.o)).map fun x => (kS [x.1], V.ref x.2) := by
  unfold ordK
  rw [List.zip_map_right, List.map_map]
  rfl
theorem set_same {α : Type} : ∀ {l : List α} {j : Nat} {a : α}, l[j]? = some a → l.set j a = l
  | [], _, _, _ => rfl
  | x :: l, 0, a, h => by cases h; rfl
  | x :: l, j + 1, a, h => by show x :: l.set j a = x :: l; rw [set_same (by simpa using h)]
theorem OrdAt.mut {H : Hp} {d : Addr} {bs : List Nat} {os : List Od} {j : Nat} {o : Od} {ps' : List Pr} (h : OrdAt H d bs os) (ho : os[j]? = some o) (hp : ∀ p ∈ ps', PrOk H p) (hl : ps'.length ≤ 100) :
    OrdAt (upd H o.o (.lst (prv ps'))) d bs (os.set j ⟨o.o, ps'⟩) := by
  have hom := List.mem_of_getElem? ho
  have hoO := h.ok o hom
  have em : (os.set j ⟨o.o, ps'⟩).map Od.o = os.map Od.o := by
    rw [List.map_set]
    exact set_same (by rw [List.getElem?_map, ho]; rfl)
  have tU : TSame H (upd H o.o (.lst (prv ps'))) := TSame.updL hoO.tp
  refine ⟨?_, by rw [List.length_set]; exact h.ln, by rw [em]; exact h.nd, fun x hx => ?_⟩
  · rw [upd_ne (Ne.symm (h.ne hom)), h.dk, ordK_map, ordK_map, em]
  · obtain ⟨i, hi, e⟩ := List.mem_iff_getElem.mp hx
    by_cases z : j = i
    · subst z
      rw [List.getElem_set_self] at e
      rw [← e]
      exact ⟨upd_same, fun p hp' => (hp p hp').ts tU, hl⟩
    · rw [List.getElem_set_ne z] at e
      rw [List.length_set] at hi
      have hx2 : x ∈ os := by rw [← e]; exact List.getElem_mem hi
      have hne : x.o ≠ o.o := fun y => z (by
        have hj := (List.getElem?_eq_some_iff.mp ho)
        have h1 : (os.map Od.o)[i]'(by rw [List.length_map]; exact hi) = (os.map Od.o)[j]'(by rw [List.length_map]; exact hj.1) := by
          rw [List.getElem_map, List.getElem_map, e, hj.2]; exact y
        have hpw := List.pairwise_iff_getElem.mp h.nd
        rcases Nat.lt_trichotomy i j with g | g | g
        · exact absurd h1 (hpw i j _ _ g)
        · exact g.symm
        · exact absurd h1.symm (hpw j i _ _ g))
      have hxO := h.ok x hx2
      exact ⟨by rw [upd_ne hne]; exact hxO.tp, fun p hp' => (hxO.pr p hp').ts tU, hxO.fw⟩
theorem swap_perm (n : Nat) (l : List Pr) : (swapAt n l).Perm l := by
  unfold swapAt
  cases h0 : l[n]? with
  | none => exact List.Perm.refl _
  | some p => cases h1 : l[n + 1]? with
    | none => exact List.Perm.refl _
    | some q =>
      show ((l.set n q).set (n + 1) p).Perm l
      induction l generalizing n with
      | nil => simp at h0
      | cons x l ih =>
        cases n with
        | zero =>
          cases l with
          | nil => simp at h1
          | cons y l =>
            cases h0
            have e : y = q := by simpa using h1
            subst e
            exact List.Perm.swap _ _ l
        | succ n => exact (ih n (by simpa using h0) (by simpa using h1)).cons x
theorem OrdAt.updW {H : Hp} {d wl : Addr} {bs : List Nat} {os : List Od} {ys zs : List V} (h : OrdAt H d bs os) (hne : ∀ o ∈ os, o.o ≠ wl) (hw : H wl = some (.lst ys)) : OrdAt (upd H wl (.lst zs)) d bs os := by
  have tU : TSame H (upd H wl (.lst zs)) := TSame.updL hw
  exact ⟨by rw [upd_ne (fun z => by rw [← z, h.dk] at hw; cases hw)]; exact h.dk, h.ln, h.nd, fun o ho => ⟨by rw [upd_ne (hne o ho)]; exact (h.ok o ho).tp, fun p hp => ((h.ok o ho).pr p hp).ts tU, (h.ok o ho).fw⟩⟩
theorem txs_set (ws : List (List Nat)) (c : Nat) (w : List Nat) : (txs ws).set c (.str (S w)) = txs (ws.set c w) := by unfold txs; rw [List.map_set]
theorem cut_one (w : List Nat) : cut w (some 1) none = w.drop 1 := by have := cut_from w 1; rwa [show ((1 : Nat) : Int) = 1 from rfl] at this
theorem cut_one' (w : List Nat) : cut w none (some 1) = w.take 1 := by have := cut_to w 1; rwa [show ((1 : Nat) : Int) = 1 from rfl] at this
theorem rng_get {n i : Nat} {a : Int} (h : i < n) : ((List.range n).map fun (k : Nat) => V.int (a + (k : Int)))[i]? = some (V.int (a + (i : Int))) := by
  rw [List.getElem?_map, List.getElem?_range h]
  rfl
theorem turn_at {n i : Nat} (h : i < n) : ([V.int ((n : Int) - 1)] ++ (List.range ((n : Int) - 1).toNat).map fun (k : Nat) => V.int (0 + (k : Int)))[i]? = some (fV (turnF n i)) := by
  unfold turnF fV
  by_cases z : i = 0
  · subst z
    rw [if_pos rfl]
    show some (V.int ((n : Int) - 1)) = some (V.int ((n - 1 : Nat) : Int))
    congr 2
    omega
  · rw [if_neg z, List.getElem?_append_right (by simp; omega), List.length_singleton, rng_get (by omega)]
    congr 2
    omega
theorem left_end {H H3 : Hp} {Q : VK} {d wl : Addr} {bs : List Nat} {os : List Od} {ws : List (List Nat)} {c : Nat} {w' : List Nat} {f : Nat → Option Nat} (hH : Hold H d wl bs os ws) (q : Left H Q d wl bs os ws c w' f) (s : Same (upd H wl (.lst (txs (ws.set c w')))) H3) :
    ∀ (os' : List Od) (H' : Hp), OrdAt H' d bs os' → os'.map prs = os.map (fun o => renM c f (prs o)) → (∀ o ∈ os', H3 o.o = none) → SameB d H3 H' → Q (.bl true) H' := fun os' H' h1 h2 h3 h4 => by
  have hwd : wl ≠ d := fun z => by have := hH.wd; rw [z, hH.od.dk] at this; cases this
  refine q os' H' h1 h2 (h4 _ _ (s _ _ upd_same) hwd) (fun o ho => ?_) fun a u ea za zb => ?_
  · cases e : H o.o with
    | none => rfl
    | some u =>
      exfalso
      have hn := h3 o ho
      by_cases z : o.o = wl
      · rw [z, s _ _ upd_same] at hn; cases hn
      · rw [s _ _ (show upd H wl (.lst (txs (ws.set c w'))) o.o = some u by rw [upd_ne z]; exact e)] at hn; cases hn
  · exact h4 _ _ (s _ _ (by rw [upd_ne zb]; exact ea)) za
theorem Hold.pb {H : Hp} {d wl : Addr} {bs : List Nat} {os : List Od} {ws : List (List Nat)} (h : Hold H d wl bs os ws) {c : Nat} {w : List Nat} (hw : ws[c]? = some w) {f : Nat → Option Nat} (hf : ∀ i j, i < w.length → f i = some j → j < 1000) :
    ∀ o ∈ os, ∀ p ∈ o.ps, p.c = c → ∀ j, f p.i = some j → j < 1000 := fun o ho p hp e j hj => by
  obtain ⟨w', h1, h2⟩ := h.pz o ho p hp
  rw [e, hw] at h1
  cases h1
  exact hf _ _ h2 hj
theorem cut_k (w : List Nat) (k : Nat) : cut w none (some (k : Int)) = w.take k := cut_to w k
theorem out_at {n k i : Nat} (hk : k + 1 < n) (h : i < n) : (((List.range ((k : Int)).toNat).map fun (j : Nat) => V.int (0 + (j : Int))) ++ [V.non, V.non] ++ (List.range ((n : Int) - 2 - (k : Int)).toNat).map fun (j : Nat) => V.int ((k : Int) + (j : Int)))[i]? = some (fV (outF k i)) := by
  have e1 : ((k : Int)).toNat = k := by omega
  have e2 : ((n : Int) - 2 - (k : Int)).toNat = n - 2 - k := by omega
  rw [e1, e2]
  unfold outF fV
  by_cases z : i < k
  · rw [if_pos z, List.getElem?_append_left (by simp; omega), List.getElem?_append_left (by simpa using z), rng_get z]
    congr 2
    omega
  · rw [if_neg z]
    by_cases y : i < k + 2
    · rw [if_pos y, List.getElem?_append_left (by simp; omega), List.getElem?_append_right (by simp; omega), List.length_map, List.length_range]
      rcases (by omega : i - k = 0 ∨ i - k = 1) with g | g <;> rw [g] <;> rfl
    · have el : (((List.range k).map fun (j : Nat) => V.int (0 + (j : Int))) ++ [V.non, V.non]).length = k + 2 := by simp
      rw [if_neg y, List.getElem?_append_right (by omega), el, rng_get (by omega)]
      congr 2
      omega
theorem in_at {n k i : Nat} (hk : k ≤ n) (h : i < n) : (((List.range ((k : Int)).toNat).map fun (j : Nat) => V.int (0 + (j : Int))) ++ (List.range ((n : Int) + 2 - ((k : Int) + 2)).toNat).map fun (j : Nat) => V.int ((k : Int) + 2 + (j : Int)))[i]? = some (fV (inF k i)) := by
  have e1 : ((k : Int)).toNat = k := by omega
  have e2 : ((n : Int) + 2 - ((k : Int) + 2)).toNat = n - k := by omega
  rw [e1, e2]
  unfold inF fV
  by_cases z : i < k
  · rw [if_pos z, List.getElem?_append_left (by simpa using z), rng_get z]
    congr 2
    omega
  · rw [if_neg z, List.getElem?_append_right (by simp; omega), List.length_map, List.length_range, rng_get (by omega)]
    congr 2
    omega
theorem left_facts {H H3 H' : Hp} {d wl : Addr} {bs : List Nat} {os os' : List Od} {ws : List (List Nat)} {c : Nat} {w' : List Nat} (hH : Hold H d wl bs os ws) (s : Same (upd H wl (.lst (txs (ws.set c w')))) H3) (h3 : ∀ o ∈ os', H3 o.o = none) (h4 : SameB d H3 H') :
    H' wl = some (.lst (txs (ws.set c w'))) ∧ (∀ o ∈ os', H o.o = none) ∧ SameX d wl H H' := by
  have hwd : wl ≠ d := fun z => by have := hH.wd; rw [z, hH.od.dk] at this; cases this
  refine ⟨h4 _ _ (s _ _ upd_same) hwd, fun o ho => ?_, fun a u ea za zb => h4 _ _ (s _ _ (by rw [upd_ne zb]; exact ea)) za⟩
  cases e : H o.o with
  | none => rfl
  | some u =>
    exfalso
    have hn := h3 o ho
    by_cases z : o.o = wl
    · rw [z, s _ _ upd_same] at hn; cases hn
    · rw [s _ _ (show upd H wl (.lst (txs (ws.set c w'))) o.o = some u by rw [upd_ne z]; exact e)] at hn; cases hn
noncomputable def put2 (n : Nat) (p q : Nat × Nat) (l : List (Nat × Nat)) : List (Nat × Nat) := l.take n ++ p :: q :: l.drop n
noncomputable def sp_do_in (_ : PySem.W.Frag) : Sp := fun vs H Q _ => ∃ (d wl : Addr) (bs : List Nat) (os : List Od) (ws : List (List Nat)) (c k n j : Nat) (w : List Nat) (x : Nat) (o : Od), vs = [.ref wl, .ref d, .int c, .int k, .str (S [x]), .int n] ∧ Hold H d wl bs os ws ∧ ws[c]? = some w ∧ k ≤ w.length ∧ Lt x ∧ bs[j]? = some (PyProof.Rows.lo1 x) ∧ os[j]? = some o ∧ n ≤ o.ps.length ∧ o.ps.length ≤ 90 ∧
  ∀ (os' : List Od) (H' : Hp), OrdAt H' d bs os' → os'.map prs = (os.map (fun o => renM c (inF k) (prs o))).set j (put2 n (c, k) (c, k + 1) (renM c (inF k) (prs o))) → H' wl = some (.lst (txs (ws.set c (w.take k ++ [x] ++ [ctr x] ++ w.drop k)))) → (∀ o ∈ os', H o.o = none) → SameX d wl H H' → Q (.bl true) H'
theorem len_do_in {K : PySem.W.Frag} {vs : List V} {H : Hp} {Q : VK} {E : XK} (h : sp_do_in K vs H Q E) : vs.length = 6 := by obtain ⟨_, _, _, _, _, _, _, _, _, _, _, _, rfl, _⟩ := h; rfl
theorem renM_len_in (c k : Nat) : ∀ l : List (Nat × Nat), (renM c (inF k) l).length = l.length
  | [] => rfl
  | p :: l => by
    have ih := renM_len_in c k l
    unfold renM at ih ⊢
    have e : ∃ q, ren1 c (inF k) p = some q := by
      unfold ren1 inF
      by_cases z : p.1 = c
      · rw [if_pos z]; split <;> exact ⟨_, rfl⟩
      · rw [if_neg z]; exact ⟨_, rfl⟩
    obtain ⟨q, hq⟩ := e
    rw [List.filterMap_cons, hq]
    simp [ih]
theorem prv_ins (ps : List Pr) (n : Nat) (p : Pr) : (prv ps).take n ++ V.ref p.t :: (prv ps).drop n = prv (ps.take n ++ p :: ps.drop n) := by unfold prv; rw [List.map_append, List.map_cons, List.map_take, List.map_drop]
inductive Deed where
  | swap (b n : Nat) | out (c k : Nat) | turn (c : Nat) | ins (c k x n : Nat)
noncomputable def wSwap : List Nat := [115, 119, 97, 112]
noncomputable def wOut : List Nat := [111, 117, 116]
noncomputable def wTurn : List Nat := [116, 117, 114, 110]
noncomputable def wIn : List Nat := [105, 110]
noncomputable def DeedAt (H : Hp) (a : Addr) : Deed → Prop
  | .swap b n => H a = some (.tup [.str (S wSwap), .str (S [b]), .int n])
  | .out c k => H a = some (.tup [.str (S wOut), .int c, .int k])
  | .turn c => H a = some (.tup [.str (S wTurn), .int c])
  | .ins c k x n => H a = some (.tup [.str (S wIn), .int c, .int k, .str (S [x]), .int n])
theorem DeedAt.ts {H H' : Hp} {a : Addr} {e : Deed} (h : DeedAt H a e) (s : TSame H H') : DeedAt H' a e := by cases e <;> exact s _ _ h
noncomputable def swapP (n : Nat) (l : List (Nat × Nat)) : List (Nat × Nat) := match l[n]?, l[n + 1]? with | some p, some q => (l.set n q).set (n + 1) p | _, _ => l
theorem swap_prs (n : Nat) (l : List Pr) : (swapAt n l).map Pr.pair = swapP n (l.map Pr.pair) := by
  unfold swapAt swapP
  rw [List.getElem?_map, List.getElem?_map]
  cases l[n]? <;> cases l[n + 1]? <;> simp [List.map_set]
noncomputable abbrev Ords := List (List (Nat × Nat))
noncomputable def dW (ws : List (List Nat)) : Deed → List (List Nat)
  | .swap _ _ => ws
  | .out c k => ws.set c ((ws.getD c []).take k ++ (ws.getD c []).drop (k + 2))
  | .turn c => ws.set c ((ws.getD c []).drop 1 ++ (ws.getD c []).take 1)
  | .ins c k x _ => ws.set c ((ws.getD c []).take k ++ [x] ++ [ctr x] ++ (ws.getD c []).drop k)
noncomputable def dO (bs : List Nat) (ws : List (List Nat)) (L : Ords) : Deed → Ords
  | .swap b n => L.set (bs.idxOf b) (swapP n (L.getD (bs.idxOf b) []))
  | .out c k => L.map (renM c (outF k))
  | .turn c => L.map (renM c (turnF (ws.getD c []).length))
  | .ins c k x n => (L.map (renM c (inF k))).set (bs.idxOf (PyProof.Rows.lo1 x)) (put2 n (c, k) (c, k + 1) (renM c (inF k) (L.getD (bs.idxOf (PyProof.Rows.lo1 x)) [])))
noncomputable def Dok (y bs : List Nat) (ws : List (List Nat)) (L : Ords) : Deed → Prop
  | .swap b n => b ∈ bs ∧ n + 1 < (L.getD (bs.idxOf b) []).length
  | .out c k => c < ws.length ∧ ∃ x, (ws.getD c [])[k]? = some x ∧ (ws.getD c [])[k + 1]? = some (ctr x)
  | .turn c => c < ws.length
  | .ins c k x n => c < ws.length ∧ k ≤ (ws.getD c []).length ∧ (ws.getD c []).length ≤ 10 ∧ x ∈ y ∧ n ≤ (L.getD (bs.idxOf (PyProof.Rows.lo1 x)) []).length
noncomputable def sp_do_deed (_ : PySem.W.Frag) : Sp := fun vs H Q _ => ∃ (y : List Nat) (d wl a : Addr) (os : List Od) (ws : List (List Nat)) (e : Deed), vs = [.str (S y), .ref wl, .ref d, .ref a] ∧ Yd y ∧ y.length ≤ 8 ∧ Hold H d wl (bsOf y) os ws ∧ (∀ o ∈ os, o.ps.length ≤ 90) ∧ DeedAt H a e ∧ Dok y (bsOf y) ws (os.map prs) e ∧
  ∀ (os' : List Od) (H' : Hp), OrdAt H' d (bsOf y) os' → os'.map prs = dO (bsOf y) ws (os.map prs) e → H' wl = some (.lst (txs (dW ws e))) → (∀ o ∈ os', H o.o = none ∨ o.o ∈ os.map Od.o) → (∀ x u, H x = some u → x ≠ d → x ≠ wl → x ∉ os.map Od.o → H' x = some u) → Q (.bl true) H'
theorem len_do_deed {K : PySem.W.Frag} {vs : List V} {H : Hp} {Q : VK} {E : XK} (h : sp_do_deed K vs H Q E) : vs.length = 4 := by obtain ⟨_, _, _, _, _, _, _, rfl, _⟩ := h; rfl
theorem getD_of {α : Type} {l : List α} {i : Nat} {a x : α} (h : l[i]? = some a) : l.getD i x = a := by rw [List.getD_eq_getElem?_getD, h]; rfl
theorem Hold.same {H H' : Hp} {d wl : Addr} {bs : List Nat} {os : List Od} {ws : List (List Nat)} (h : Hold H d wl bs os ws) (s : Same H H') : Hold H' d wl bs os ws := ⟨h.od.same s, s _ _ h.wd, h.nd, h.bl, h.ne, h.pz, h.wz, h.wo⟩
theorem nodup_fm2 {α : Type} {f : Nat → List α} (g : α → Nat) : ∀ {l : List Nat}, l.Nodup → (∀ e ∈ l, (f e).Nodup) → (∀ e ∈ l, ∀ p ∈ f e, g p = e) → (l.flatMap f).Nodup
  | [], _, _, _ => List.nodup_nil
  | a :: l, hn, h1, h2 => by
    obtain ⟨n1, n2⟩ := List.nodup_cons.mp hn
    rw [List.flatMap_cons, List.nodup_append]
    refine ⟨h1 a List.mem_cons_self, nodup_fm2 g n2 (fun e he => h1 e (List.mem_cons_of_mem _ he)) (fun e he => h2 e (List.mem_cons_of_mem _ he)), fun x hx y hy z => ?_⟩
    subst z
    obtain ⟨e, he, hxe⟩ := List.mem_flatMap.mp hy
    have g1 := h2 a List.mem_cons_self x hx
    have g2 := h2 e (List.mem_cons_of_mem _ he) x hxe
    exact n1 (by rw [← g1, g2]; exact he)
theorem strAll_nd2 (band : Nat) (ws : List (List Nat)) (n : Nat) : (strAll band ws n).Nodup :=
  nodup_fm2 Prod.fst List.nodup_range (fun c _ => by
    unfold strUp
    show (List.map _ _).Pairwise (· ≠ ·)
    rw [List.pairwise_map]
    exact (List.nodup_range.filter _).imp fun {i j} h z => h (by cases z; rfl)) fun c _ p hp => by
    unfold strUp at hp
    obtain ⟨i, _, rfl⟩ := List.mem_map.mp hp
    rfl
theorem mem_str {band c i n : Nat} {ws : List (List Nat)} : (c, i) ∈ strAll band ws n ↔ c < n ∧ i < (ws.getD c []).length ∧ onB band ((ws.getD c []).getD i 0) = true := by
  constructor
  · intro h
    obtain ⟨c', hc, h2⟩ := List.mem_flatMap.mp h
    unfold strUp at h2
    obtain ⟨i', hi, e⟩ := List.mem_map.mp h2
    obtain ⟨hi1, hi2⟩ := List.mem_filter.mp hi
    cases e
    exact ⟨List.mem_range.mp hc, List.mem_range.mp hi1, hi2⟩
  · rintro ⟨h1, h2, h3⟩
    exact List.mem_flatMap.mpr ⟨c, List.mem_range.mpr h1, List.mem_map.mpr ⟨i, List.mem_filter.mpr ⟨List.mem_range.mpr h2, h3⟩, rfl⟩⟩
theorem getD_set {ws : List (List Nat)} {c d : Nat} {w' : List Nat} (h : c < ws.length) : (ws.set c w').getD d [] = if d = c then w' else ws.getD d [] := by
  rw [List.getD_eq_getElem?_getD, List.getElem?_set]
  by_cases z : c = d
  · subst z; rw [if_pos rfl, if_pos rfl, if_pos h]; rfl
  · rw [if_neg z, if_neg fun y => z y.symm, List.getD_eq_getElem?_getD]
theorem ren_perm {ws : List (List Nat)} {b c : Nat} {w' X : List Nat} {f : Nat → Option Nat} (hc : c < ws.length) (hX : X.Nodup)
    (inj : ∀ i i' j, i < (ws.getD c []).length → i' < (ws.getD c []).length → f i = some j → f i' = some j → i = i')
    (hj : ∀ j, (j < w'.length ∧ onB b (w'.getD j 0) = true) ↔ ((∃ i, i < (ws.getD c []).length ∧ onB b ((ws.getD c []).getD i 0) = true ∧ f i = some j) ∨ j ∈ X))
    (hx : ∀ i j, i < (ws.getD c []).length → f i = some j → j ∉ X) :
    (strAll b (ws.set c w') (ws.set c w').length).Perm (X.map (fun j => (c, j)) ++ renM c f (strAll b ws ws.length)) := by
  have ndR : (renM c f (strAll b ws ws.length)).Nodup := by
    unfold renM
    show List.Pairwise (· ≠ ·) _
    rw [List.pairwise_filterMap]
    refine List.Pairwise.imp_of_mem ?_ (strAll_nd2 b ws ws.length)
    rintro ⟨a1, a2⟩ ⟨b1, b2⟩ ma mb hne q hq q' hq' e
    subst e
    obtain ⟨ma1, ma2, _⟩ := mem_str.mp ma
    obtain ⟨mb1, mb2, _⟩ := mem_str.mp mb
    unfold ren1 at hq hq'
    by_cases za : a1 = c <;> by_cases zb : b1 = c
    · subst za
      subst zb
      rw [if_pos rfl] at hq hq'
      cases e1 : f a2 with
      | none => rw [e1] at hq; cases hq
      | some j =>
        cases e2 : f b2 with
        | none => rw [e2] at hq'; cases hq'
        | some j' =>
          rw [e1] at hq
          rw [e2] at hq'
          cases hq
          have : j' = j := by injection hq' with z; exact congrArg Prod.snd z
          subst this
          exact hne (by rw [inj a2 b2 j' ma2 mb2 e1 e2])
    · rw [if_pos za] at hq
      rw [if_neg zb] at hq'
      cases hq'
      cases e1 : f a2 with
      | none => rw [e1] at hq; cases hq
      | some j => rw [e1] at hq; injection hq with z; exact zb (congrArg Prod.fst z).symm
    · rw [if_neg za] at hq
      rw [if_pos zb] at hq'
      cases hq
      cases e1 : f b2 with
      | none => rw [e1] at hq'; cases hq'
      | some j => rw [e1] at hq'; injection hq' with z; exact za (congrArg Prod.fst z).symm
    · rw [if_neg za] at hq
      rw [if_neg zb] at hq'
      cases hq
      cases hq'
      exact hne rfl
  have memR : ∀ d j, (d, j) ∈ renM c f (strAll b ws ws.length) ↔ (if d = c then ∃ i, i < (ws.getD c []).length ∧ onB b ((ws.getD c []).getD i 0) = true ∧ f i = some j else (d, j) ∈ strAll b ws ws.length) := fun d j => by
    unfold renM
    rw [List.mem_filterMap]
    by_cases z : d = c
    · subst z
      rw [if_pos rfl]
      constructor
      · rintro ⟨⟨d', i⟩, hm, he⟩
        unfold ren1 at he
        by_cases y : d' = d
        · subst y
          rw [if_pos rfl] at he
          cases e1 : f i with
          | none => rw [e1] at he; cases he
          | some j' =>
            rw [e1] at he
            have : j' = j := by injection he with z; exact congrArg Prod.snd z
            subst this
            obtain ⟨_, m2, m3⟩ := mem_str.mp hm
            exact ⟨i, m2, m3, e1⟩
        · rw [if_neg y] at he
          exact absurd (congrArg Prod.fst (Option.some.inj he)) y
      · rintro ⟨i, h1, h2, h3⟩
        exact ⟨(d, i), mem_str.mpr ⟨hc, h1, h2⟩, by unfold ren1; rw [if_pos rfl, h3]; rfl⟩
    · rw [if_neg z]
      constructor
      · rintro ⟨⟨d', i⟩, hm, he⟩
        unfold ren1 at he
        by_cases y : d' = c
        · rw [if_pos y] at he
          cases e1 : f i with
          | none => rw [e1] at he; cases he
          | some j' => rw [e1] at he; injection he with y'; exact absurd (congrArg Prod.fst y').symm z
        · rw [if_neg y] at he
          cases he
          exact hm
      · intro hm
        exact ⟨(d, j), hm, if_neg z⟩
  refine (List.perm_ext_iff_of_nodup (strAll_nd2 _ _ _) (List.nodup_append.mpr ⟨?_, ndR, ?_⟩)).mpr fun p => ?_
  · show (List.map _ _).Pairwise (· ≠ ·)
    rw [List.pairwise_map]
    exact hX.imp fun {i j} h z => h (by cases z; rfl)
  · rintro p hp q hq rfl
    obtain ⟨j, hj1, rfl⟩ := List.mem_map.mp hp
    rw [memR, if_pos rfl] at hq
    obtain ⟨i, h1, _, h3⟩ := hq
    exact hx i j h1 h3 hj1
  · obtain ⟨d, j⟩ := p
    rw [mem_str, List.length_set, getD_set hc, List.mem_append, memR]
    by_cases z : d = c
    · subst z
      rw [if_pos rfl, if_pos rfl]
      constructor
      · rintro ⟨_, h1, h2⟩
        rcases (hj j).mp ⟨h1, h2⟩ with g | g
        · exact .inr g
        · exact .inl (List.mem_map.mpr ⟨j, g, rfl⟩)
      · rintro (g | g)
        · obtain ⟨j', g1, g2⟩ := List.mem_map.mp g
          have : j' = j := congrArg Prod.snd g2
          subst this
          exact ⟨hc, (hj j').mpr (.inr g1)⟩
        · exact ⟨hc, (hj j).mpr (.inl g)⟩
    · rw [if_neg z, if_neg z, mem_str]
      constructor
      · exact fun h => .inr h
      · rintro (g | g)
        · obtain ⟨j', _, g2⟩ := List.mem_map.mp g
          exact absurd (congrArg Prod.fst g2).symm z
        · exact g
noncomputable def LOk (y : List Nat) (ws : List (List Nat)) (L : Ords) : Prop := L.length = (bsOf y).length ∧ ∀ (j : Nat) (l : List (Nat × Nat)) (b : Nat), L[j]? = some l → (bsOf y)[j]? = some b → l.Perm (strAll b ws ws.length)
structure Good (y : List Nat) (ws : List (List Nat)) (L : Ords) : Prop where
  wk : WsOk y ws
  lk : LOk y ws L
theorem getD_out (w : List Nat) (k j : Nat) (hk : k + 1 < w.length) : (w.take k ++ w.drop (k + 2)).getD j 0 = if j < k then w.getD j 0 else w.getD (j + 2) 0 := by
  rw [List.getD_eq_getElem?_getD]
  by_cases z : j < k
  · rw [if_pos z, List.getElem?_append_left (by rw [List.length_take]; omega), List.getElem?_take, if_pos z, List.getD_eq_getElem?_getD]
  · rw [if_neg z, List.getElem?_append_right (by rw [List.length_take]; omega), List.length_take, List.getElem?_drop, List.getD_eq_getElem?_getD, show k + 2 + (j - min k w.length) = j + 2 by omega]
theorem getD_turn (w : List Nat) (j : Nat) (hj : j < w.length) : (w.drop 1 ++ w.take 1).getD j 0 = if j + 1 < w.length then w.getD (j + 1) 0 else w.getD 0 0 := by
  rw [List.getD_eq_getElem?_getD]
  by_cases z : j + 1 < w.length
  · rw [if_pos z, List.getElem?_append_left (by rw [List.length_drop]; omega), List.getElem?_drop, List.getD_eq_getElem?_getD, show 1 + j = j + 1 by omega]
  · rw [if_neg z, List.getElem?_append_right (by rw [List.length_drop]; omega), List.length_drop, List.getElem?_take, if_pos (by omega), List.getD_eq_getElem?_getD, show j - (w.length - 1) = 0 by omega]
theorem getD_ins (w : List Nat) (k x j : Nat) (hk : k ≤ w.length) : (w.take k ++ [x] ++ [ctr x] ++ w.drop k).getD j 0 = if j < k then w.getD j 0 else if j = k then x else if j = k + 1 then ctr x else w.getD (j - 2) 0 := by
  have el : (w.take k).length = k := by rw [List.length_take]; omega
  rw [List.getD_eq_getElem?_getD]
  by_cases z : j < k
  · rw [if_pos z, List.getElem?_append_left (by simp; omega), List.getElem?_append_left (by simp; omega), List.getElem?_append_left (by omega), List.getElem?_take, if_pos z, List.getD_eq_getElem?_getD]
  · rw [if_neg z]
    by_cases z1 : j = k
    · rw [if_pos z1, List.getElem?_append_left (by simp; omega), List.getElem?_append_left (by simp; omega), List.getElem?_append_right (by omega), el, z1, Nat.sub_self]; rfl
    · rw [if_neg z1]
      by_cases z2 : j = k + 1
      · have e2 : (w.take k ++ [x]).length = k + 1 := by rw [List.length_append, el]; rfl
        rw [if_pos z2, List.getElem?_append_left (by simp; omega), List.getElem?_append_right (by omega), e2, z2, Nat.sub_self]; rfl
      · have e3 : (w.take k ++ [x] ++ [ctr x]).length = k + 2 := by rw [List.length_append, List.length_append, el]; rfl
        rw [if_neg z2, List.getElem?_append_right (by omega), e3, List.getElem?_drop, List.getD_eq_getElem?_getD, show k + (j - (k + 2)) = j - 2 by omega]
theorem onB_ctr {b x : Nat} (hb : Lt b) (hx : Lt x) : onB b (ctr x) = onB b x := by
  unfold onB
  have e1 : decide (ctr x = b) = decide (x = ctr b) := decide_eq_decide.mpr ⟨fun z => by rw [← z, ctr_ctr hx], fun z => by rw [z, ctr_ctr hb]⟩
  have e2 : decide (ctr x = ctr b) = decide (x = b) := decide_eq_decide.mpr ⟨fun z => by rw [← ctr_ctr hx, z, ctr_ctr hb], fun z => by rw [z]⟩
  rw [e1, e2, Bool.or_comm]
theorem swapP_perm (n : Nat) (l : List (Nat × Nat)) : (swapP n l).Perm l := by
  unfold swapP
  cases h0 : l[n]? with
  | none => exact List.Perm.refl _
  | some p => cases h1 : l[n + 1]? with
    | none => exact List.Perm.refl _
    | some q =>
      show ((l.set n q).set (n + 1) p).Perm l
      induction l generalizing n with
      | nil => simp at h0
      | cons x l ih =>
        cases n with
        | zero =>
          cases l with
          | nil => simp at h1
          | cons y l =>
            cases h0
            have e : y = q := by simpa using h1
            subst e
            exact List.Perm.swap _ _ l
        | succ n => exact (ih n (by simpa using h0) (by simpa using h1)).cons x
theorem put2_perm (n : Nat) (p q : Nat × Nat) (l : List (Nat × Nat)) : (put2 n p q l).Perm (p :: q :: l) := by
  unfold put2
  have h1 := List.perm_middle (l₁ := l.take n) (a := p) (l₂ := q :: l.drop n)
  have h2 := List.perm_middle (l₁ := l.take n) (a := q) (l₂ := l.drop n)
  rw [List.take_append_drop] at h2
  exact h1.trans (h2.cons p)
theorem set_mem {α : Type} {l : List α} {j : Nat} {a x : α} {i : Nat} (h : (l.set j a)[i]? = some x) : (i = j ∧ x = a) ∨ (i ≠ j ∧ l[i]? = some x) := by
  rw [List.getElem?_set] at h
  by_cases z : j = i
  · rw [if_pos z] at h
    split at h
    · exact .inl ⟨z.symm, (Option.some.inj h).symm⟩
    · cases h
  · rw [if_neg z] at h
    exact .inr ⟨fun y => z y.symm, h⟩
theorem wsOk_set {y : List Nat} {ws : List (List Nat)} {c : Nat} {w' : List Nat} (h : WsOk y ws) (hw : (∀ x ∈ w', x ∈ y) ∧ w'.length ≤ 12) : WsOk y (ws.set c w') := ⟨by rw [List.length_set]; exact h.few, fun w hm => (List.mem_or_eq_of_mem_set hm).elim (h.all w) fun e => by rw [e]; exact hw⟩
theorem getD_mem {ws : List (List Nat)} {c : Nat} (h : c < ws.length) : ws.getD c [] ∈ ws := by rw [List.getD_eq_getElem?_getD, List.getElem?_eq_getElem h]; exact List.getElem_mem h
theorem idxOf_nd {l : List Nat} (h : l.Nodup) {n p : Nat} (e : l[n]? = some p) : l.idxOf p = n := by
  obtain ⟨hn, e2⟩ := List.getElem?_eq_some_iff.mp e
  have hi := List.idxOf_lt_length_of_mem (List.mem_of_getElem? e)
  have hp := List.pairwise_iff_getElem.mp h
  have e3 : l[l.idxOf p] = l[n] := (List.getElem_idxOf hi).trans e2.symm
  rcases Nat.lt_trichotomy (l.idxOf p) n with z | z | z
  · exact absurd e3 (hp _ _ hi hn z)
  · exact z
  · exact absurd e3.symm (hp _ _ hn hi z)
theorem Good.step {y : List Nat} {ws : List (List Nat)} {L : Ords} {e : Deed} (hy : Yd y) (g : Good y ws L) (hok : Dok y (bsOf y) ws L e) : Good y (dW ws e) (dO (bsOf y) ws L e) := by
  obtain ⟨gw, gl, go⟩ := g
  have bl : ∀ b ∈ bsOf y, b ∈ smalls := fun b hb => by
    have := List.mem_filter.mp ((bsOf_perm y).mem_iff.mp hb)
    have h2 := this.2
    rw [isLow_iff (hy.lt b this.1)] at h2
    exact of_decide_eq_true h2
  cases e with
  | swap b n =>
    refine ⟨gw, by show (L.set _ _).length = _; rw [List.length_set]; exact gl, fun j l b' hl hb' => ?_⟩
    rcases set_mem (show (L.set _ (swapP n (L.getD ((bsOf y).idxOf b) [])))[j]? = some l from hl) with ⟨e1, e2⟩ | ⟨_, e2⟩
    · subst e1
      have hj : (bsOf y).idxOf b < L.length := by rw [gl]; exact (List.getElem?_eq_some_iff.mp hb').1
      have hg : L[(bsOf y).idxOf b]? = some L[(bsOf y).idxOf b] := List.getElem?_eq_getElem hj
      rw [e2, getD_of hg]
      exact (swapP_perm n _).trans (go _ _ _ hg hb')
    · exact go j l b' e2 hb'
  | out c k =>
    obtain ⟨hc, x, h0, h1⟩ := hok
    have hk : k + 1 < (ws.getD c []).length := (List.getElem?_eq_some_iff.mp h1).1
    obtain ⟨wy, wz⟩ := gw.all _ (getD_mem hc)
    refine ⟨wsOk_set gw ⟨fun z hz => ?_, by rw [List.length_append, List.length_take, List.length_drop]; omega⟩, by show (L.map _).length = _; rw [List.length_map]; exact gl, fun j l b hl hb => ?_⟩
    · rcases List.mem_append.mp hz with q | q
      · exact wy z (List.mem_of_mem_take q)
      · exact wy z (List.mem_of_mem_drop q)
    · obtain ⟨l0, hl0, rfl⟩ := Option.map_eq_some_iff.mp (by rw [← List.getElem?_map]; exact hl)
      have hp := go j l0 b hl0 hb
      refine (hp.filterMap (ren1 c (outF k))).trans ((ren_perm (X := []) hc List.nodup_nil ?_ ?_ ?_).symm)
      · intro i i' j' _ _ e1 e2
        unfold outF at e1 e2
        split at e1
        · have a1 := Option.some.inj e1
          split at e2
          · have a2 := Option.some.inj e2; omega
          · split at e2
            · cases e2
            · have a2 := Option.some.inj e2; omega
        · split at e1
          · cases e1
          · have a1 := Option.some.inj e1
            split at e2
            · have a2 := Option.some.inj e2; omega
            · split at e2
              · cases e2
              · have a2 := Option.some.inj e2; omega
      · intro j'
        rw [getD_out _ _ _ hk]
        have hlen : ((ws.getD c []).take k ++ (ws.getD c []).drop (k + 2)).length = (ws.getD c []).length - 2 := by rw [List.length_append, List.length_take, List.length_drop]; omega
        rw [hlen]
        constructor
        · rintro ⟨q1, q2⟩
          refine .inl ?_
          by_cases z : j' < k
          · rw [if_pos z] at q2; exact ⟨j', by omega, q2, by unfold outF; rw [if_pos z]⟩
          · rw [if_neg z] at q2; exact ⟨j' + 2, by omega, q2, by unfold outF; rw [if_neg (by omega), if_neg (by omega)]; rfl⟩
        · rintro (⟨i, q1, q2, q3⟩ | q)
          · unfold outF at q3
            split at q3
            · rename_i z; cases q3; rw [if_pos z]; exact ⟨by omega, q2⟩
            · split at q3
              · cases q3
              · cases q3
                rw [if_neg (by omega), show i - 2 + 2 = i by omega]
                exact ⟨by omega, q2⟩
          · cases q
      · intro i j' _ _ q; cases q
  | turn c =>
    have hc : c < ws.length := hok
    obtain ⟨wy, wz⟩ := gw.all _ (getD_mem hc)
    refine ⟨wsOk_set gw ⟨fun z hz => ?_, by rw [List.length_append, List.length_take, List.length_drop]; omega⟩, by show (L.map _).length = _; rw [List.length_map]; exact gl, fun j l b hl hb => ?_⟩
    · rcases List.mem_append.mp hz with q | q
      · exact wy z (List.mem_of_mem_drop q)
      · exact wy z (List.mem_of_mem_take q)
    · obtain ⟨l0, hl0, rfl⟩ := Option.map_eq_some_iff.mp (by rw [← List.getElem?_map]; exact hl)
      have hp := go j l0 b hl0 hb
      refine (hp.filterMap (ren1 c (turnF (ws.getD c []).length))).trans ((ren_perm (X := []) hc List.nodup_nil ?_ ?_ ?_).symm)
      · intro i i' j' h1 h2 e1 e2
        unfold turnF at e1 e2
        split at e1 <;> split at e2 <;> (have a1 := Option.some.inj e1; have a2 := Option.some.inj e2; omega)
      · intro j'
        have hlen : ((ws.getD c []).drop 1 ++ (ws.getD c []).take 1).length = (ws.getD c []).length := by rw [List.length_append, List.length_take, List.length_drop]; omega
        rw [hlen]
        constructor
        · rintro ⟨q1, q2⟩
          rw [getD_turn _ _ q1] at q2
          refine .inl ?_
          by_cases z : j' + 1 < (ws.getD c []).length
          · rw [if_pos z] at q2; exact ⟨j' + 1, z, q2, by unfold turnF; rw [if_neg (by omega)]; rfl⟩
          · rw [if_neg z] at q2; exact ⟨0, by omega, q2, by unfold turnF; rw [if_pos rfl]; congr 1; omega⟩
        · rintro (⟨i, q1, q2, q3⟩ | q)
          · unfold turnF at q3
            split at q3
            · rename_i z
              cases q3
              refine ⟨by omega, ?_⟩
              rw [getD_turn _ _ (by omega), if_neg (by omega)]
              rw [z] at q2
              exact q2
            · cases q3
              refine ⟨by omega, ?_⟩
              rw [getD_turn _ _ (by omega), if_pos (by omega), show i - 1 + 1 = i by omega]
              exact q2
          · cases q
      · intro i j' _ _ q; cases q
  | ins c k x n =>
    obtain ⟨hc, hk, hw10, hxy, hn⟩ := hok
    obtain ⟨wy, wz⟩ := gw.all _ (getD_mem hc)
    have hxl := hy.lt x hxy
    refine ⟨wsOk_set gw ⟨fun z hz => ?_, by rw [List.length_append, List.length_append, List.length_append, List.length_take, List.length_drop, List.length_singleton, List.length_singleton]; omega⟩, by show ((L.map _).set _ _).length = _; rw [List.length_set, List.length_map]; exact gl, fun j l b hl hb => ?_⟩
    · rcases List.mem_append.mp hz with q | q
      · rcases List.mem_append.mp q with q | q
        · rcases List.mem_append.mp q with q | q
          · exact wy z (List.mem_of_mem_take q)
          · rw [List.mem_singleton.mp q]; exact hxy
        · rw [List.mem_singleton.mp q]; exact hy.cl x hxy
      · exact wy z (List.mem_of_mem_drop q)
    · have hbm := List.mem_of_getElem? hb
      have hbs := bl b hbm
      have hjl : j < L.length := by rw [gl]; exact (List.getElem?_eq_some_iff.mp hb).1
      have hLj : L[j]? = some L[j] := List.getElem?_eq_getElem hjl
      have hp := go j _ b hLj hb
      have base : (strAll b (ws.set c ((ws.getD c []).take k ++ [x] ++ [ctr x] ++ (ws.getD c []).drop k)) (ws.set c ((ws.getD c []).take k ++ [x] ++ [ctr x] ++ (ws.getD c []).drop k)).length).Perm ((if onB b x = true then [k, k + 1] else []).map (fun j => (c, j)) ++ renM c (inF k) (strAll b ws ws.length)) := by
        refine ren_perm hc ?_ ?_ ?_ ?_
        · split
          · simp
          · exact List.nodup_nil
        · intro i i' j' _ _ e1 e2
          unfold inF at e1 e2
          split at e1 <;> split at e2 <;> (have a1 := Option.some.inj e1; have a2 := Option.some.inj e2; omega)
        · intro j'
          have hlen : ((ws.getD c []).take k ++ [x] ++ [ctr x] ++ (ws.getD c []).drop k).length = (ws.getD c []).length + 2 := by rw [List.length_append, List.length_append, List.length_append, List.length_take, List.length_drop, List.length_singleton, List.length_singleton]; omega
          rw [hlen, getD_ins _ _ _ _ hk]
          constructor
          · rintro ⟨q1, q2⟩
            by_cases z : j' < k
            · rw [if_pos z] at q2; exact .inl ⟨j', by omega, q2, by unfold inF; rw [if_pos z]⟩
            · rw [if_neg z] at q2
              by_cases z1 : j' = k
              · rw [if_pos z1] at q2; exact .inr (by rw [if_pos q2, z1]; exact List.mem_cons_self)
              · rw [if_neg z1] at q2
                by_cases z2 : j' = k + 1
                · rw [if_pos z2, onB_ctr (.inl hbs) hxl] at q2; exact .inr (by rw [if_pos q2, z2]; exact List.mem_cons_of_mem _ List.mem_cons_self)
                · rw [if_neg z2] at q2; exact .inl ⟨j' - 2, by omega, q2, by unfold inF; rw [if_neg (by omega)]; congr 1; omega⟩
          · rintro (⟨i, q1, q2, q3⟩ | q)
            · unfold inF at q3
              split at q3
              · rename_i z; cases q3; rw [if_pos z]; exact ⟨by omega, q2⟩
              · cases q3
                rw [if_neg (by omega), if_neg (by omega), if_neg (by omega), show i + 2 - 2 = i by omega]
                exact ⟨by omega, q2⟩
            · split at q
              · rename_i z
                rcases List.mem_cons.mp q with e | q
                · rw [e, if_neg (by omega), if_pos rfl]; exact ⟨by omega, z⟩
                · rw [List.mem_singleton.mp q, if_neg (by omega), if_neg (by omega), if_pos rfl, onB_ctr (.inl hbs) hxl]; exact ⟨by omega, z⟩
              · cases q
        · intro i j' _ e1 q
          split at q
          · unfold inF at e1
            have hq : j' = k ∨ j' = k + 1 := by simpa using q
            split at e1 <;> (have a1 := Option.some.inj e1; omega)
          · cases q
      have hon : onB b x = decide (PyProof.Rows.lo1 x = b) := (low_on hbs hxl).symm
      rcases set_mem (show ((L.map (renM c (inF k))).set ((bsOf y).idxOf (PyProof.Rows.lo1 x)) (put2 n (c, k) (c, k + 1) (renM c (inF k) (L.getD ((bsOf y).idxOf (PyProof.Rows.lo1 x)) []))))[j]? = some l from hl) with ⟨e1, e2⟩ | ⟨e1, e2⟩
      · subst e1
        have hlo := lo_in hy hxy
        have hbe : b = PyProof.Rows.lo1 x := by
          have hj := List.idxOf_lt_length_of_mem hlo
          rw [List.getElem?_eq_getElem hj, List.getElem_idxOf hj] at hb
          exact (Option.some.inj hb).symm
        rw [hon, decide_eq_true hbe.symm, if_pos rfl] at base
        rw [e2, getD_of hLj]
        exact (put2_perm _ _ _ _).trans ((((hp.filterMap (ren1 c (inF k))).cons _).cons _).trans base.symm)
      · have hne : ¬ PyProof.Rows.lo1 x = b := fun z => e1 (by
          have hj := List.getElem?_eq_some_iff.mp hb
          have hnd : (bsOf y).Nodup := (bsOf_perm y).nodup_iff.mpr (hy.nd.filter _)
          rw [z]
          exact (idxOf_nd hnd hb).symm)
        rw [hon, decide_eq_false hne, if_neg (by decide)] at base
        obtain ⟨l0, hl0, rfl⟩ := Option.map_eq_some_iff.mp (by rw [← List.getElem?_map]; exact e2)
        rw [hLj] at hl0
        cases hl0
        exact (hp.filterMap (ren1 c (inF k))).trans base.symm
structure Dd where
  a : Addr
  e : Deed
noncomputable def ddv (ds : List Dd) : List V := ds.map fun x => V.ref x.a
theorem ddv_len (ds : List Dd) : (ddv ds).length = ds.length := by unfold ddv; rw [List.length_map]
theorem ddv_at {ds : List Dd} {i : Nat} {x : V} (h : (ddv ds)[i]? = some x) : ∃ p, ds[i]? = some p ∧ x = V.ref p.a := by
  unfold ddv at h
  rw [List.getElem?_map] at h
  cases e : ds[i]? with
  | none => rw [e] at h; cases h
  | some p => rw [e] at h; cases h; exact ⟨p, rfl, rfl⟩
noncomputable def Path (y : List Nat) : List (List Nat) → Ords → List Deed → Prop
  | _, _, [] => True
  | ws, L, e :: es => Dok y (bsOf y) ws L e ∧ Path y (dW ws e) (dO (bsOf y) ws L e) es
noncomputable def runD (y : List Nat) : List (List Nat) → Ords → List Deed → List (List Nat) × Ords
  | ws, L, [] => (ws, L)
  | ws, L, e :: es => runD y (dW ws e) (dO (bsOf y) ws L e) es
theorem bs_nd {y : List Nat} (hy : Yd y) : (bsOf y).Nodup := (bsOf_perm y).nodup_iff.mpr (hy.nd.filter _)
theorem Good.len {y : List Nat} {ws : List (List Nat)} {os : List Od} (g : Good y ws (os.map prs)) : ∀ o ∈ os, o.ps.length ≤ 48 := fun o ho => by
  obtain ⟨j, hj⟩ := List.mem_iff_getElem?.mp ho
  have hl := g.lk.1
  rw [List.length_map] at hl
  have hjb : j < (bsOf y).length := by rw [← hl]; exact (List.getElem?_eq_some_iff.mp hj).1
  have hp := g.lk.2 j (prs o) _ (by rw [List.getElem?_map, hj]; rfl) (List.getElem?_eq_getElem hjb)
  have h1 := hp.length_eq
  unfold prs at h1
  rw [List.length_map] at h1
  have h2 := strAll_len (bsOf y)[j] (fun w hw => (g.wk.all w hw).2) ws.length (Nat.le_refl _)
  have := g.wk.few
  omega
theorem Good.hold {y : List Nat} {ws : List (List Nat)} {os : List Od} {H : Hp} {d wl : Addr} (hy : Yd y) (hz : y.length ≤ 8) (g : Good y ws (os.map prs)) (h : OrdAt H d (bsOf y) os) (hw : H wl = some (.lst (txs ws))) (ne : ∀ o ∈ os, o.o ≠ wl) : Hold H d wl (bsOf y) os ws := by
  have hbl := bsOf_len hy
  refine ⟨h, hw, bs_nd hy, by omega, ne, fun o ho p hp => ?_, g.wk.few, fun w hw => ⟨fun c hc => hy.lt c ((g.wk.all w hw).1 c hc), (g.wk.all w hw).2⟩⟩
  obtain ⟨j, hj⟩ := List.mem_iff_getElem?.mp ho
  have hjb : j < (bsOf y).length := by rw [← h.ln]; exact (List.getElem?_eq_some_iff.mp hj).1
  have hpm := g.lk.2 j (prs o) _ (by rw [List.getElem?_map, hj]; rfl) (List.getElem?_eq_getElem hjb)
  have hm : (p.c, p.i) ∈ prs o := List.mem_map.mpr ⟨p, hp, rfl⟩
  obtain ⟨m1, m2, _⟩ := mem_str.mp (hpm.mem_iff.mp hm)
  refine ⟨ws[p.c], List.getElem?_eq_getElem m1, ?_⟩
  rw [getD_of (List.getElem?_eq_getElem m1)] at m2
  exact m2
noncomputable def sp_done (_ : PySem.W.Frag) : Sp := fun vs H Q _ => ∃ (y : List Nat) (dr : Addr) (ws : List (List Nat)) (os : List Od) (ep : Addr) (ds : List Dd), vs = [.str (S y), .ref dr, .ref ep] ∧ Yd y ∧ y.length ≤ 8 ∧ Good y ws (os.map prs) ∧ DrAt H dr ws os ∧ H ep = some (.lst (ddv ds)) ∧ (∀ x ∈ ds, DeedAt H x.a x.e) ∧ ds.length ≤ 100 ∧ Path y ws (os.map prs) (ds.map Dd.e) ∧
  ∀ (dr' : Addr) (os' : List Od) (H' : Hp), DrAt H' dr' (runD y ws (os.map prs) (ds.map Dd.e)).1 os' → os'.map prs = (runD y ws (os.map prs) (ds.map Dd.e)).2 → Good y (runD y ws (os.map prs) (ds.map Dd.e)).1 (os'.map prs) → Same H H' → Q (.ref dr') H'
theorem len_done {K : PySem.W.Frag} {vs : List V} {H : Hp} {Q : VK} {E : XK} (h : sp_done K vs H Q E) : vs.length = 3 := by obtain ⟨_, _, _, _, _, _, rfl, _⟩ := h; rfl
theorem ordK_snoc {bs : List Nat} {cur : List Od} {b : Nat} {o : Od} (h : cur.length = bs.length) : ordK bs cur ++ [(kS [b], V.ref o.o)] = ordK (bs ++ [b]) (cur ++ [o]) := by
  unfold ordK
  rw [List.zip_append h.symm, List.map_append]
  rfl
theorem LOk.os {y : List Nat} {ws : List (List Nat)} {os : List Od} (h : LOk y ws (os.map prs)) : OsOk y ws os := ⟨by have := h.1; rwa [List.length_map] at this, fun j o b ho hb => h.2 j (prs o) b (by rw [List.getElem?_map, ho]; rfl) hb⟩
theorem OsOk.lok {y : List Nat} {ws : List (List Nat)} {os : List Od} (h : OsOk y ws os) : LOk y ws (os.map prs) := ⟨by rw [List.length_map]; exact h.1, fun j l b hl hb => by
  rw [List.getElem?_map] at hl
  cases e : os[j]? with
  | none => rw [e] at hl; cases hl
  | some o => rw [e] at hl; cases hl; exact h.2 j o b e hb⟩
noncomputable def sp_Ldeed (_ : PySem.W.Frag) : Sp := fun vs H Q _ => ∃ (b : Addr) (y : List Nat) (dr : Addr) (ws : List (List Nat)) (os : List Od), vs = [.ref b, .str (S y), .ref dr] ∧ BoxAt H b ∧ Yd y ∧ 1 ≤ y.length ∧ y.length ≤ 8 ∧ ws ≠ [] ∧ Good y ws (os.map prs) ∧ DrAt H dr ws os ∧
  ∀ (a : Addr) (e : Deed) (H' : Hp), DeedAt H' a e → Dok y (bsOf y) ws (os.map prs) e → SameB b H H' → Q (.ref a) H'
theorem len_Ldeed {K : PySem.W.Frag} {vs : List V} {H : Hp} {Q : VK} {E : XK} (h : sp_Ldeed K vs H Q E) : vs.length = 3 := by obtain ⟨_, _, _, _, _, rfl, _⟩ := h; rfl
noncomputable def OutAt (ws : List (List Nat)) (p : Pr) : Prop := p.c < ws.length ∧ ∃ x, (ws.getD p.c [])[p.i]? = some x ∧ (ws.getD p.c [])[p.i + 1]? = some (ctr x)
theorem Good.few {y : List Nat} {ws : List (List Nat)} {L : Ords} (h : Good y ws L) : ws.length ≤ 4 := h.wk.few
theorem Good.all12 {y : List Nat} {ws : List (List Nat)} {L : Ords} (h : Good y ws L) : ∀ w ∈ ws, (∀ c ∈ w, c ∈ y) ∧ w.length ≤ 12 := h.wk.all
theorem Good.ln {y : List Nat} {ws : List (List Nat)} {L : Ords} (h : Good y ws L) : L.length = (bsOf y).length := h.lk.1
theorem cutX {H5 : Hp} {X : Hp → Prop} {G : Prop} (f : (∀ H6, Same H5 H6 → X H6) → G) (x : ∀ H6, Same H5 H6 → X H6) : G := f x
noncomputable def dl : Deed → Int
  | .swap _ _ => 0
  | .out _ _ => -2
  | .turn _ => 0
  | .ins _ _ _ _ => 2
theorem dW_len (ws : List (List Nat)) (e : Deed) : (dW ws e).length = ws.length := by cases e <;> simp [dW]
noncomputable def sp_Lwords (_ : PySem.W.Frag) : Sp := fun vs H Q _ => ∃ (b : Addr) (y : List Nat), vs = [.ref b, .str (S y)] ∧ BoxAt H b ∧ y ≠ [] ∧ y.length ≤ 8 ∧ ∀ (t : Addr) (ws : List (List Nat)) (H' : Hp), H t = none → t ≠ b → H' t = some (.tup (txs ws)) → WsOk y ws → ws ≠ [] → BoxAt H' b → SameB b H H' → Q (.ref t) H'
theorem len_Lwords {K : PySem.W.Frag} {vs : List V} {H : Hp} {Q : VK} {E : XK} (h : sp_Lwords K vs H Q E) : vs.length = 2 := by obtain ⟨c, _, rfl, _⟩ := h; rfl
theorem Good.ws {y : List Nat} {ws : List (List Nat)} {L : Ords} (h : Good y ws L) : WsOk y ws := h.wk
theorem Good.os {y : List Nat} {ws : List (List Nat)} {os : List Od} (h : Good y ws (os.map prs)) : OsOk y ws os := h.lk.os
theorem max_min (L : Int) (h0 : 0 ≤ L) : ∃ m : Nat, (if (if L < 32 then L else 32) > 8 then (if L < 32 then L else 32) else 8) = (m : Int) ∧ m ≤ 40 := by
  by_cases c1 : L < 32
  · rw [if_pos c1]
    by_cases c2 : L > 8
    · rw [if_pos c2]; exact ⟨L.toNat, by omega, by omega⟩
    · rw [if_neg c2]; exact ⟨8, rfl, by decide⟩
  · rw [if_neg c1]; exact ⟨32, rfl, by decide⟩
inductive Al (R : Nat → Nat × Nat → Prop) : List Nat → List (Nat × Nat) → Prop
  | nil : Al R [] []
  | cons {n : Nat} {p : Nat × Nat} {o : List Nat} {l : List (Nat × Nat)} : R n p → Al R o l → Al R (n :: o) (p :: l)
section
variable {R S : Nat → Nat × Nat → Prop}
theorem Al.len : ∀ {o : List Nat} {l : List (Nat × Nat)}, Al R o l → o.length = l.length
  | _, _, .nil => rfl
  | _, _, .cons _ h => by rw [List.length_cons, List.length_cons, h.len]
theorem Al.mono : ∀ {o : List Nat} {l : List (Nat × Nat)}, (∀ n p, n ∈ o → R n p → S n p) → Al R o l → Al S o l
  | _, _, _, .nil => .nil
  | _, _, h, .cons a b => .cons (h _ _ List.mem_cons_self a) (b.mono fun n p hn => h n p (List.mem_cons_of_mem _ hn))
theorem Al.app : ∀ {a : List Nat} {b : List (Nat × Nat)} {c : List Nat} {d : List (Nat × Nat)}, Al R a b → Al R c d → Al R (a ++ c) (b ++ d)
  | _, _, _, _, .nil, h => h
  | _, _, _, _, .cons x y, h => .cons x (y.app h)
theorem Al.take : ∀ {o : List Nat} {l : List (Nat × Nat)} (k : Nat), Al R o l → Al R (o.take k) (l.take k)
  | _, _, 0, _ => .nil
  | _, _, _ + 1, .nil => .nil
  | _, _, k + 1, .cons a b => .cons a (b.take k)
theorem Al.drop : ∀ {o : List Nat} {l : List (Nat × Nat)} (k : Nat), Al R o l → Al R (o.drop k) (l.drop k)
  | _, _, 0, h => h
  | _, _, _ + 1, .nil => .nil
  | _, _, k + 1, .cons _ b => b.drop k
theorem Al.flt {c : Nat} {f : Nat → Option Nat} {P : Nat → Bool} : ∀ {o : List Nat} {l : List (Nat × Nat)}, (∀ n p, n ∈ o → R n p → (P n = true → ∃ p', ren1 c f p = some p' ∧ S n p') ∧ (P n = false → ren1 c f p = none)) → Al R o l → Al S (o.filter P) (renM c f l)
  | _, _, _, .nil => .nil
  | n :: o, p :: l, h, .cons a b => by
    have ih := b.flt fun n p hn => h n p (List.mem_cons_of_mem _ hn)
    obtain ⟨h1, h2⟩ := h n p List.mem_cons_self a
    unfold renM at *
    cases e : P n with
    | true =>
      obtain ⟨p', e1, e2⟩ := h1 e
      rw [List.filter_cons_of_pos e, List.filterMap_cons_some e1]
      exact .cons e2 ih
    | false =>
      rw [List.filter_cons_of_neg (by rw [e]; decide), List.filterMap_cons_none (h2 e)]
      exact ih
theorem Al.ren {c : Nat} {f : Nat → Option Nat} {o : List Nat} {l : List (Nat × Nat)} (h : ∀ n p, n ∈ o → R n p → ∃ p', ren1 c f p = some p' ∧ S n p') (a : Al R o l) : Al S o (renM c f l) := by
  have := a.flt (S := S) (c := c) (f := f) (P := fun _ => true) fun n p hn hr => ⟨fun _ => h n p hn hr, fun z => by cases z⟩
  rwa [List.filter_eq_self.mpr (fun _ _ => rfl)] at this
theorem Al.cut2 : ∀ {o : List Nat} {l : List (Nat × Nat)} {k : Nat}, Al R o l → k + 1 < o.length → ∃ a u v d a' p q d', o = a ++ u :: v :: d ∧ l = a' ++ p :: q :: d' ∧ a.length = k ∧ a'.length = k ∧ Al R a a' ∧ R u p ∧ R v q ∧ Al R d d'
  | _, _, 0, .cons x (.cons y z), _ => ⟨[], _, _, _, [], _, _, _, rfl, rfl, rfl, rfl, .nil, x, y, z⟩
  | _, _, k + 1, .cons x y, h => by
    obtain ⟨a, u, v, d, a', p, q, d', e1, e2, e3, e4, e5, e6⟩ := y.cut2 (k := k) (by simpa using h)
    exact ⟨_ :: a, u, v, d, _ :: a', p, q, d', by rw [e1]; rfl, by rw [e2]; rfl, by simp [e3], by simp [e4], .cons x e5, e6⟩
  | _, _, 0, .cons x .nil, h => absurd h (by simp)
  | _, _, _, .nil, h => absurd h (by simp)
noncomputable def swapN (k : Nat) (o : List Nat) : List Nat := (o.eraseIdx (k + 1)).take k ++ o.getD (k + 1) 0 :: (o.eraseIdx (k + 1)).drop k
theorem swapN_eq (a d : List Nat) (u v : Nat) : swapN a.length (a ++ u :: v :: d) = a ++ v :: u :: d := by
  have e1 : (a ++ u :: v :: d).eraseIdx (a.length + 1) = a ++ u :: d := by
    rw [List.eraseIdx_append_of_length_le (by omega)]
    simp
  have e2 : (a ++ u :: v :: d).getD (a.length + 1) 0 = v := by
    rw [List.getD_eq_getElem?_getD, List.getElem?_append_right (by omega)]
    simp
  unfold swapN
  rw [e1, e2]
  simp
theorem swapP_eq (a d : List (Nat × Nat)) (p q : Nat × Nat) : swapP a.length (a ++ p :: q :: d) = a ++ q :: p :: d := by
  unfold swapP
  have e1 : (a ++ p :: q :: d)[a.length]? = some p := by simp
  have e2 : (a ++ p :: q :: d)[a.length + 1]? = some q := by rw [List.getElem?_append_right (by omega)]; simp
  rw [e1, e2]
  show ((a ++ p :: q :: d).set a.length q).set (a.length + 1) p = _
  rw [List.set_append_right _ _ (Nat.le_refl _), Nat.sub_self, List.set_cons_zero, List.set_append_right _ _ (by omega)]
  simp
theorem Al.swap {o : List Nat} {l : List (Nat × Nat)} {k : Nat} (h : Al R o l) (hk : k + 1 < o.length) : Al R (swapN k o) (swapP k l) := by
  obtain ⟨a, u, v, d, a', p, q, d', rfl, rfl, e3, e4, e5, e6, e7, e8⟩ := h.cut2 hk
  subst e3
  rw [swapN_eq, ← e4, swapP_eq]
  exact e5.app (.cons e7 (.cons e6 e8))
theorem Al.put2 {o : List Nat} {l : List (Nat × Nat)} {k m m' : Nat} {p q : Nat × Nat} (h : Al R o l) (hp : R m p) (hq : R m' q) : Al R (o.take k ++ m :: m' :: o.drop k) (put2 k p q l) := (h.take k).app (.cons hp (.cons hq (h.drop k)))
end
noncomputable abbrev WN := List (List (Nat × Nat))
noncomputable def AtN (W : WN) (n : Nat) (p : Nat × Nat) : Prop := ∃ w x, W[p.1]? = some w ∧ w[p.2]? = some (x, n)
noncomputable def Own (W : WN) : Prop := ∀ n p q, AtN W n p → AtN W n q → p = q
theorem atN_set {W : WN} {c : Nat} {w' : List (Nat × Nat)} {n : Nat} {p : Nat × Nat} (hc : c < W.length) : AtN (W.set c w') n p ↔ if p.1 = c then ∃ x, w'[p.2]? = some (x, n) else AtN W n p := by
  unfold AtN
  by_cases e : p.1 = c
  · rw [if_pos e, e, List.getElem?_set_self hc]
    exact ⟨fun ⟨w, x, h1, h2⟩ => ⟨x, by cases h1; exact h2⟩, fun ⟨x, h⟩ => ⟨w', x, rfl, h⟩⟩
  · rw [if_neg e, List.getElem?_set_ne (Ne.symm e)]
theorem atN_turn {W : WN} {c : Nat} {w : List (Nat × Nat)} {n : Nat} {p : Nat × Nat} (hw : W[c]? = some w) (h : AtN W n p) : ∃ p', ren1 c (turnF w.length) p = some p' ∧ AtN (W.set c (w.drop 1 ++ w.take 1)) n p' := by
  have hc := (List.getElem?_eq_some_iff.mp hw).1
  obtain ⟨v, x, h1, h2⟩ := h
  unfold ren1
  by_cases e : p.1 = c
  · rw [e, hw] at h1
    cases h1
    have hi := (List.getElem?_eq_some_iff.mp h2).1
    rw [if_pos e]
    unfold turnF
    by_cases z : p.2 = 0
    · rw [if_pos z]
      refine ⟨(c, w.length - 1), rfl, (atN_set hc).mpr ?_⟩
      rw [if_pos rfl]
      refine ⟨x, ?_⟩
      show (w.drop 1 ++ w.take 1)[w.length - 1]? = _
      rw [List.getElem?_append_right (by rw [List.length_drop]; exact Nat.le_refl _), List.length_drop, Nat.sub_self, List.getElem?_take, if_pos (by decide), ← z]
      exact h2
    · rw [if_neg z]
      refine ⟨(c, p.2 - 1), rfl, (atN_set hc).mpr ?_⟩
      rw [if_pos rfl]
      refine ⟨x, ?_⟩
      show (w.drop 1 ++ w.take 1)[p.2 - 1]? = _
      rw [List.getElem?_append_left (by rw [List.length_drop]; omega), List.getElem?_drop, show 1 + (p.2 - 1) = p.2 by omega]
      exact h2
  · rw [if_neg e]
    refine ⟨p, rfl, (atN_set hc).mpr ?_⟩
    rw [if_neg e]
    exact ⟨v, x, h1, h2⟩
theorem atN_in {W : WN} {c k : Nat} {w : List (Nat × Nat)} {n : Nat} {p a b : Nat × Nat} (hw : W[c]? = some w) (hk : k ≤ w.length) (h : AtN W n p) : ∃ p', ren1 c (inF k) p = some p' ∧ AtN (W.set c (w.take k ++ a :: b :: w.drop k)) n p' := by
  have hc := (List.getElem?_eq_some_iff.mp hw).1
  obtain ⟨v, x, h1, h2⟩ := h
  have ht : (w.take k).length = k := by rw [List.length_take]; omega
  unfold ren1
  by_cases e : p.1 = c
  · rw [e, hw] at h1
    cases h1
    have hi := (List.getElem?_eq_some_iff.mp h2).1
    rw [if_pos e]
    unfold inF
    by_cases z : p.2 < k
    · rw [if_pos z]
      refine ⟨(c, p.2), rfl, (atN_set hc).mpr ?_⟩
      rw [if_pos rfl]
      refine ⟨x, ?_⟩
      show (w.take k ++ a :: b :: w.drop k)[p.2]? = _
      rw [List.getElem?_append_left (by omega), List.getElem?_take, if_pos z]
      exact h2
    · rw [if_neg z]
      refine ⟨(c, p.2 + 2), rfl, (atN_set hc).mpr ?_⟩
      rw [if_pos rfl]
      refine ⟨x, ?_⟩
      show (w.take k ++ a :: b :: w.drop k)[p.2 + 2]? = _
      rw [List.getElem?_append_right (by omega), ht, show p.2 + 2 - k = (p.2 - k) + 1 + 1 by omega, List.getElem?_cons_succ, List.getElem?_cons_succ, List.getElem?_drop, show k + (p.2 - k) = p.2 by omega]
      exact h2
  · rw [if_neg e]
    refine ⟨p, rfl, (atN_set hc).mpr ?_⟩
    rw [if_neg e]
    exact ⟨v, x, h1, h2⟩
theorem atN_out {W : WN} {c k : Nat} {w : List (Nat × Nat)} {n : Nat} {p a b : Nat × Nat} (own : Own W) (hw : W[c]? = some w) (ha : w[k]? = some a) (hb : w[k + 1]? = some b) (h : AtN W n p) :
    ((decide (n ≠ a.2) && decide (n ≠ b.2)) = true → ∃ p', ren1 c (outF k) p = some p' ∧ AtN (W.set c (w.take k ++ w.drop (k + 2))) n p') ∧ ((decide (n ≠ a.2) && decide (n ≠ b.2)) = false → ren1 c (outF k) p = none) := by
  have hc := (List.getElem?_eq_some_iff.mp hw).1
  have hk1 := (List.getElem?_eq_some_iff.mp hb).1
  have ht : (w.take k).length = k := by rw [List.length_take]; omega
  have pa : AtN W a.2 (c, k) := ⟨w, a.1, hw, ha⟩
  have pb : AtN W b.2 (c, k + 1) := ⟨w, b.1, hw, hb⟩
  constructor
  · intro hn
    rw [Bool.and_eq_true, decide_eq_true_eq, decide_eq_true_eq] at hn
    obtain ⟨v, x, h1, h2⟩ := h
    unfold ren1
    by_cases e : p.1 = c
    · rw [e, hw] at h1
      cases h1
      rw [if_pos e]
      unfold outF
      have n1 : p.2 ≠ k := fun z => hn.1 (by rw [z, ha] at h2; exact (congrArg Prod.snd (Option.some.inj h2)).symm)
      have n2 : p.2 ≠ k + 1 := fun z => hn.2 (by rw [z, hb] at h2; exact (congrArg Prod.snd (Option.some.inj h2)).symm)
      by_cases z : p.2 < k
      · rw [if_pos z]
        refine ⟨(c, p.2), rfl, (atN_set hc).mpr ?_⟩
        rw [if_pos rfl]
        refine ⟨x, ?_⟩
        show (w.take k ++ w.drop (k + 2))[p.2]? = _
        rw [List.getElem?_append_left (by omega), List.getElem?_take, if_pos z]
        exact h2
      · rw [if_neg z, if_neg (by omega)]
        refine ⟨(c, p.2 - 2), rfl, (atN_set hc).mpr ?_⟩
        rw [if_pos rfl]
        refine ⟨x, ?_⟩
        show (w.take k ++ w.drop (k + 2))[p.2 - 2]? = _
        rw [List.getElem?_append_right (by omega), ht, List.getElem?_drop, show k + 2 + (p.2 - 2 - k) = p.2 by omega]
        exact h2
    · rw [if_neg e]
      refine ⟨p, rfl, (atN_set hc).mpr ?_⟩
      rw [if_neg e]
      exact ⟨v, x, h1, h2⟩
  · intro hn
    have : n = a.2 ∨ n = b.2 := by
      by_cases z : n = a.2
      · exact .inl z
      · right
        rw [decide_eq_true (show n ≠ a.2 from z), Bool.true_and, decide_eq_false_iff_not] at hn
        exact Decidable.not_not.mp hn
    rcases this with z | z
    · rw [z] at h
      rw [own _ _ _ h pa]
      unfold ren1 outF
      rw [if_pos rfl, if_neg (Nat.lt_irrefl _), if_pos (by show k < k + 2; omega)]
      rfl
    · rw [z] at h
      rw [own _ _ _ h pb]
      unfold ren1 outF
      rw [if_pos rfl, if_neg (by show ¬ k + 1 < k; omega), if_pos (by show k + 1 < k + 2; omega)]
      rfl
noncomputable def nums (W : WN) : List Nat := W.flatMap fun w => w.map Prod.snd
theorem nums_mem : ∀ {W : WN} {n : Nat} {p : Nat × Nat}, AtN W n p → n ∈ nums W := fun {W n p} ⟨w, x, h1, h2⟩ => List.mem_flatMap.mpr ⟨w, List.mem_of_getElem? h1, List.mem_map.mpr ⟨(x, n), List.mem_of_getElem? h2, rfl⟩⟩
theorem own_of : ∀ {W : WN}, (nums W).Nodup → Own W
  | [], _ => fun n p q ⟨w, x, h, _⟩ _ => by simp at h
  | w :: W, hn => fun n p q hp hq => by
    have e : nums (w :: W) = w.map Prod.snd ++ nums W := rfl
    rw [e, List.nodup_append] at hn
    obtain ⟨n1, n2, n3⟩ := hn
    have ih := own_of n2
    obtain ⟨pc, pi⟩ := p
    obtain ⟨qc, qi⟩ := q
    obtain ⟨u, x, h1, h2⟩ := hp
    obtain ⟨v, x', g1, g2⟩ := hq
    have at1 : ∀ {i : Nat} {x : Nat}, w[i]? = some (x, n) → (w.map Prod.snd)[i]? = some n := fun {i x} h => by rw [List.getElem?_map, h]; rfl
    cases pc with
    | zero =>
      cases h1
      cases qc with
      | zero =>
        cases g1
        have a1 := at1 h2
        have a2 := at1 g2
        obtain ⟨b1, b2⟩ := List.getElem?_eq_some_iff.mp a1
        obtain ⟨c1, c2⟩ := List.getElem?_eq_some_iff.mp a2
        have : pi = qi := (List.getElem_inj n1).mp (b2.trans c2.symm)
        rw [this]
      | succ qc => exact absurd rfl (n3 n (List.mem_of_getElem? (at1 h2)) n (nums_mem (p := (qc, qi)) ⟨v, x', g1, g2⟩))
    | succ pc =>
      cases qc with
      | zero =>
        cases g1
        exact absurd rfl (n3 n (List.mem_of_getElem? (at1 g2)) n (nums_mem (p := (pc, pi)) ⟨u, x, h1, h2⟩))
      | succ qc =>
        have := ih n (pc, pi) (qc, qi) ⟨u, x, h1, h2⟩ ⟨v, x', g1, g2⟩
        rw [Prod.mk.injEq] at this
        rw [this.1, this.2]
theorem nums_set {W : WN} {c : Nat} {w w' : List (Nat × Nat)} (hw : W[c]? = some w) : ∃ a b, nums W = a ++ w.map Prod.snd ++ b ∧ nums (W.set c w') = a ++ w'.map Prod.snd ++ b := by
  obtain ⟨hc, e⟩ := List.getElem?_eq_some_iff.mp hw
  refine ⟨nums (W.take c), nums (W.drop (c + 1)), ?_, ?_⟩
  · have : W = W.take c ++ w :: W.drop (c + 1) := by rw [← e, ← List.drop_eq_getElem_cons hc, List.take_append_drop]
    have e2 : nums W = nums (W.take c ++ w :: W.drop (c + 1)) := congrArg nums this
    rw [e2]
    unfold nums
    rw [List.flatMap_append, List.flatMap_cons, List.append_assoc]
  · rw [List.set_eq_take_append_cons_drop, if_pos hc]
    unfold nums
    rw [List.flatMap_append, List.flatMap_cons, List.append_assoc]
structure Wd (W : WN) (O : List (List Nat)) (L : List (List (Nat × Nat))) (m : Nat) : Prop where
  nd : (nums W).Nodup
  sm : ∀ n ∈ nums W, n < m
  ln : O.length = L.length
  al : ∀ (j : Nat) (o : List Nat) (l : List (Nat × Nat)), O[j]? = some o → L[j]? = some l → Al (AtN W) o l
  on : ∀ o ∈ O, o.Nodup
noncomputable def lets (W : WN) : List (List Nat) := W.map fun w => w.map Prod.fst
theorem Wd.own {W : WN} {O : List (List Nat)} {L : List (List (Nat × Nat))} {m : Nat} (h : Wd W O L m) : Own W := own_of h.nd
theorem Al.mem {R : Nat → Nat × Nat → Prop} : ∀ {o : List Nat} {l : List (Nat × Nat)} {n : Nat}, Al R o l → n ∈ o → ∃ p, R n p
  | _, _, _, .cons a b, h => by
    rcases List.mem_cons.mp h with z | z
    · rw [z]; exact ⟨_, a⟩
    · exact b.mem z
theorem Wd.swap {W : WN} {O : List (List Nat)} {L : List (List (Nat × Nat))} {m j k : Nat} {o : List Nat} (h : Wd W O L m) (ho : O[j]? = some o) (hk : k + 1 < o.length) : Wd W (O.set j (swapN k o)) (L.set j (swapP k (L.getD j []))) m := by
  have hj := (List.getElem?_eq_some_iff.mp ho).1
  have hjl : j < L.length := by rw [← h.ln]; exact hj
  have hl : L[j]? = some L[j] := List.getElem?_eq_getElem hjl
  have a := h.al j o _ ho hl
  refine ⟨h.nd, h.sm, by rw [List.length_set, List.length_set]; exact h.ln, fun i o' l' e1 e2 => ?_, fun o' ho' => ?_⟩
  · by_cases e : j = i
    · subst e
      rw [List.getElem?_set_self hj] at e1
      rw [List.getElem?_set_self hjl, List.getD_eq_getElem?_getD, hl] at e2
      cases e1; cases e2
      exact a.swap hk
    · rw [List.getElem?_set_ne e] at e1 e2
      exact h.al i o' l' e1 e2
  · rcases List.mem_or_eq_of_mem_set ho' with z | z
    · exact h.on o' z
    · rw [z]
      obtain ⟨a', u, v, d, _, _, _, _, e1, _, e3, _⟩ := a.cut2 hk
      have hn := h.on o (List.mem_of_getElem? ho)
      subst e3
      rw [e1] at hn ⊢
      rw [swapN_eq]
      exact ((List.Perm.swap u v d).append_left a').nodup_iff.mpr hn
theorem Wd.turn {W : WN} {O : List (List Nat)} {L : List (List (Nat × Nat))} {m c : Nat} {w : List (Nat × Nat)} (h : Wd W O L m) (hw : W[c]? = some w) : Wd (W.set c (w.drop 1 ++ w.take 1)) O (L.map (renM c (turnF w.length))) m := by
  obtain ⟨a, b, e1, e2⟩ := nums_set (w' := w.drop 1 ++ w.take 1) hw
  have pm : (nums (W.set c (w.drop 1 ++ w.take 1))).Perm (nums W) := by
    rw [e1, e2]
    refine (List.Perm.append_left a ?_).append_right b
    rw [List.map_append]
    refine List.perm_append_comm.trans ?_
    rw [← List.map_append, List.take_append_drop]
  refine ⟨pm.nodup_iff.mpr h.nd, fun n hn => h.sm n (pm.mem_iff.mp hn), by rw [List.length_map]; exact h.ln, fun j o l h1 h2 => ?_, h.on⟩
  rw [List.getElem?_map] at h2
  cases e : L[j]? with
  | none => rw [e] at h2; cases h2
  | some l0 =>
    rw [e] at h2
    cases h2
    exact (h.al j o l0 h1 e).ren fun n p _ hr => atN_turn hw hr
theorem Wd.out {W : WN} {O : List (List Nat)} {L : List (List (Nat × Nat))} {m c k : Nat} {w : List (Nat × Nat)} {a b : Nat × Nat} (h : Wd W O L m) (hw : W[c]? = some w) (ha : w[k]? = some a) (hb : w[k + 1]? = some b) :
    Wd (W.set c (w.take k ++ w.drop (k + 2))) (O.map fun o => o.filter fun n => decide (n ≠ a.2) && decide (n ≠ b.2)) (L.map (renM c (outF k))) m := by
  obtain ⟨u, v, e1, e2⟩ := nums_set (w' := w.take k ++ w.drop (k + 2)) hw
  have sb : (nums (W.set c (w.take k ++ w.drop (k + 2)))).Sublist (nums W) := by
    rw [e1, e2]
    refine (List.Sublist.append_left ?_ u).append_right v
    refine List.Sublist.map _ ?_
    have : (w.take k ++ w.drop (k + 2)).Sublist (w.take k ++ w.drop k) := List.Sublist.append_left (by rw [← List.drop_drop]; exact List.drop_sublist _ _) _
    rwa [List.take_append_drop] at this
  refine ⟨h.nd.sublist sb, fun n hn => h.sm n (sb.subset hn), by rw [List.length_map, List.length_map]; exact h.ln, fun j o l h1 h2 => ?_, fun o ho => ?_⟩
  · rw [List.getElem?_map] at h1 h2
    cases e : L[j]? with
    | none => rw [e] at h2; cases h2
    | some l0 =>
      cases e' : O[j]? with
      | none => rw [e'] at h1; cases h1
      | some o0 =>
        rw [e] at h2
        rw [e'] at h1
        cases h1; cases h2
        exact (h.al j o0 l0 e' e).flt fun n p _ hr => atN_out h.own hw ha hb hr
  · obtain ⟨o0, h0, rfl⟩ := List.mem_map.mp ho
    exact (h.on o0 h0).filter _
theorem Wd.ins {W : WN} {O : List (List Nat)} {L : List (List (Nat × Nat))} {m c k j n x x' : Nat} {w : List (Nat × Nat)} {o : List Nat} (h : Wd W O L m) (hw : W[c]? = some w) (hk : k ≤ w.length) (ho : O[j]? = some o) :
    Wd (W.set c (w.take k ++ (x, m) :: (x', m + 1) :: w.drop k)) (O.set j (o.take n ++ m :: (m + 1) :: o.drop n)) ((L.map (renM c (inF k))).set j (put2 n (c, k) (c, k + 1) (renM c (inF k) (L.getD j [])))) (m + 2) := by
  obtain ⟨u, v, e1, e2⟩ := nums_set (w' := w.take k ++ (x, m) :: (x', m + 1) :: w.drop k) hw
  have hc := (List.getElem?_eq_some_iff.mp hw).1
  have hj := (List.getElem?_eq_some_iff.mp ho).1
  have hjl : j < L.length := by rw [← h.ln]; exact hj
  have hl : L[j]? = some L[j] := List.getElem?_eq_getElem hjl
  have ht : (w.take k).length = k := by rw [List.length_take]; omega
  have mid : ∀ (α : Type) (p q : List α) (s t : α), (p ++ s :: t :: q).Perm (s :: t :: (p ++ q)) := fun α p q s t => List.perm_middle.trans ((List.perm_middle (a := t)).cons s)
  have pm : (nums (W.set c (w.take k ++ (x, m) :: (x', m + 1) :: w.drop k))).Perm (m :: (m + 1) :: nums W) := by
    rw [e1, e2, List.map_append, List.map_cons, List.map_cons]
    refine (((mid _ _ _ _ _).append_left u).append_right v).trans ?_
    rw [← List.map_append, List.take_append_drop]
    show (u ++ m :: (m + 1) :: w.map Prod.snd ++ v).Perm _
    rw [List.append_assoc]
    refine (mid _ _ _ _ _).trans ?_
    rw [List.append_assoc]
    exact List.Perm.refl _
  have fresh : ∀ n ∈ nums W, n ≠ m ∧ n ≠ m + 1 := fun n hn => by have := h.sm n hn; omega
  have nm : ∀ o ∈ O, ∀ n ∈ o, n ∈ nums W := fun o' ho' n hn => by
    obtain ⟨i, hi⟩ := List.mem_iff_getElem?.mp ho'
    have hil : i < L.length := by rw [← h.ln]; exact (List.getElem?_eq_some_iff.mp hi).1
    obtain ⟨p, hp⟩ := (h.al i o' _ hi (List.getElem?_eq_getElem hil)).mem hn
    exact nums_mem hp
  have a0 : ∀ (i : Nat) (o' : List Nat) (l' : List (Nat × Nat)), O[i]? = some o' → L[i]? = some l' → Al (AtN (W.set c (w.take k ++ (x, m) :: (x', m + 1) :: w.drop k))) o' (renM c (inF k) l') := fun i o' l' g1 g2 => (h.al i o' l' g1 g2).ren fun n p _ hr => atN_in hw hk hr
  refine ⟨?_, fun n hn => ?_, by rw [List.length_set, List.length_set, List.length_map]; exact h.ln, fun i o' l' g1 g2 => ?_, fun o' ho' => ?_⟩
  · rw [pm.nodup_iff, List.nodup_cons, List.nodup_cons]
    refine ⟨fun z => ?_, fun z => (fresh _ z).2 rfl, h.nd⟩
    rcases List.mem_cons.mp z with z | z
    · omega
    · exact (fresh _ z).1 rfl
  · rcases List.mem_cons.mp (pm.mem_iff.mp hn) with z | z
    · omega
    · rcases List.mem_cons.mp z with z | z
      · omega
      · have := h.sm n z; omega
  · by_cases e : j = i
    · subst e
      rw [List.getElem?_set_self hj] at g1
      rw [List.getElem?_set_self (by rw [List.length_map]; exact hjl), List.getD_eq_getElem?_getD, hl] at g2
      cases g1; cases g2
      refine (a0 j o _ ho hl).put2 ((atN_set hc).mpr ?_) ((atN_set hc).mpr ?_)
      · rw [if_pos rfl]
        refine ⟨x, ?_⟩
        show (w.take k ++ (x, m) :: (x', m + 1) :: w.drop k)[k]? = _
        rw [List.getElem?_append_right (by omega), ht, Nat.sub_self]; rfl
      · rw [if_pos rfl]
        refine ⟨x', ?_⟩
        show (w.take k ++ (x, m) :: (x', m + 1) :: w.drop k)[k + 1]? = _
        rw [List.getElem?_append_right (by omega), ht, show k + 1 - k = 1 by omega]; rfl
    · rw [List.getElem?_set_ne e] at g1 g2
      rw [List.getElem?_map] at g2
      cases e' : L[i]? with
      | none => rw [e'] at g2; cases g2
      | some l0 => rw [e'] at g2; cases g2; exact a0 i o' l0 g1 e'
  · rcases List.mem_or_eq_of_mem_set ho' with z | z
    · exact h.on o' z
    · rw [z]
      have hom := List.mem_of_getElem? ho
      rw [(mid _ _ _ _ _).nodup_iff, List.take_append_drop, List.nodup_cons, List.nodup_cons]
      refine ⟨fun z => ?_, fun z => (fresh _ (nm o hom _ z)).2 rfl, h.on o hom⟩
      rcases List.mem_cons.mp z with z | z
      · omega
      · exact (fresh _ (nm o hom _ z)).1 rfl
noncomputable def aW (W : WN) (m : Nat) : Deed → WN
  | .swap _ _ => W
  | .out c k => W.set c ((W.getD c []).take k ++ (W.getD c []).drop (k + 2))
  | .turn c => W.set c ((W.getD c []).drop 1 ++ (W.getD c []).take 1)
  | .ins c k x _ => W.set c ((W.getD c []).take k ++ (x, m) :: (ctr x, m + 1) :: (W.getD c []).drop k)
noncomputable def aO (bs : List Nat) (W : WN) (O : List (List Nat)) (m : Nat) : Deed → List (List Nat)
  | .swap b n => O.set (bs.idxOf b) (swapN n (O.getD (bs.idxOf b) []))
  | .out c k => O.map fun o => o.filter fun n => decide (n ≠ ((W.getD c []).getD k (0, 0)).2) && decide (n ≠ ((W.getD c []).getD (k + 1) (0, 0)).2)
  | .turn _ => O
  | .ins _ _ x n => O.set (bs.idxOf (PyProof.Rows.lo1 x)) ((O.getD (bs.idxOf (PyProof.Rows.lo1 x)) []).take n ++ m :: (m + 1) :: (O.getD (bs.idxOf (PyProof.Rows.lo1 x)) []).drop n)
noncomputable def aM (m : Nat) : Deed → Nat
  | .ins _ _ _ _ => m + 2
  | _ => m
theorem lets_len (W : WN) : (lets W).length = W.length := by unfold lets; rw [List.length_map]
theorem lets_getD {W : WN} {c : Nat} (hc : c < W.length) : (lets W).getD c [] = (W.getD c []).map Prod.fst := by
  rw [getD_of (List.getElem?_eq_getElem hc), getD_of (show (lets W)[c]? = some ((W[c]).map Prod.fst) by unfold lets; rw [List.getElem?_map, List.getElem?_eq_getElem hc]; rfl)]
theorem lets_set (W : WN) (c : Nat) (w : List (Nat × Nat)) : lets (W.set c w) = (lets W).set c (w.map Prod.fst) := by unfold lets; rw [List.map_set]
theorem Wd.step {y : List Nat} {W : WN} {O : List (List Nat)} {L : Ords} {m : Nat} {e : Deed} (hy : Yd y) (h : Wd W O L m) (hL : L.length = (bsOf y).length) (ok : Dok y (bsOf y) (lets W) L e) :
    Wd (aW W m e) (aO (bsOf y) W O m e) (dO (bsOf y) (lets W) L e) (aM m e) ∧ lets (aW W m e) = dW (lets W) e := by
  cases e with
  | swap b n =>
    obtain ⟨hb, hn⟩ := ok
    have hj : (bsOf y).idxOf b < O.length := by rw [h.ln, hL]; exact List.idxOf_lt_length_of_mem hb
    have hjl : (bsOf y).idxOf b < L.length := by rw [← h.ln]; exact hj
    have ho := List.getElem?_eq_getElem hj
    have hlen := (h.al _ _ _ ho (List.getElem?_eq_getElem hjl)).len
    rw [getD_of (List.getElem?_eq_getElem hjl)] at hn
    refine ⟨?_, rfl⟩
    show Wd W (O.set _ (swapN n (O.getD _ []))) (L.set _ (swapP n (L.getD _ []))) m
    rw [getD_of ho]
    exact h.swap ho (by omega)
  | out c k =>
    obtain ⟨hc, x, h1, h2⟩ := ok
    rw [lets_len] at hc
    rw [lets_getD hc] at h1 h2
    have hw := List.getElem?_eq_getElem hc
    have eg : W.getD c [] = W[c] := getD_of hw
    rw [eg] at h1 h2
    have hk : k < W[c].length := by have := (List.getElem?_eq_some_iff.mp h1).1; rwa [List.length_map] at this
    have hk1 : k + 1 < W[c].length := by have := (List.getElem?_eq_some_iff.mp h2).1; rwa [List.length_map] at this
    have ha := List.getElem?_eq_getElem hk
    have hb := List.getElem?_eq_getElem hk1
    constructor
    · show Wd (W.set c ((W.getD c []).take k ++ (W.getD c []).drop (k + 2))) (O.map fun o => o.filter fun n => decide (n ≠ ((W.getD c []).getD k (0, 0)).2) && decide (n ≠ ((W.getD c []).getD (k + 1) (0, 0)).2)) (L.map (renM c (outF k))) m
      rw [eg, getD_of ha, getD_of hb]
      exact h.out hw ha hb
    · show lets (W.set c _) = (lets W).set c (((lets W).getD c []).take k ++ ((lets W).getD c []).drop (k + 2))
      rw [lets_set, lets_getD hc, List.map_append, List.map_take, List.map_drop]
  | turn c =>
    have hc : c < W.length := by rw [← lets_len]; exact ok
    have hw := List.getElem?_eq_getElem hc
    have eg : W.getD c [] = W[c] := getD_of hw
    constructor
    · show Wd (W.set c ((W.getD c []).drop 1 ++ (W.getD c []).take 1)) O (L.map (renM c (turnF ((lets W).getD c []).length))) m
      rw [lets_getD hc, List.length_map, eg]
      exact h.turn hw
    · show lets (W.set c _) = (lets W).set c (((lets W).getD c []).drop 1 ++ ((lets W).getD c []).take 1)
      rw [lets_set, lets_getD hc, List.map_append, List.map_take, List.map_drop]
  | ins c k x n =>
    obtain ⟨hc, h1, h2, hx, hn⟩ := ok
    rw [lets_len] at hc
    rw [lets_getD hc, List.length_map] at h1
    have hw := List.getElem?_eq_getElem hc
    have eg : W.getD c [] = W[c] := getD_of hw
    have hj : (bsOf y).idxOf (PyProof.Rows.lo1 x) < O.length := by rw [h.ln, hL]; exact List.idxOf_lt_length_of_mem (lo_in hy hx)
    have ho := List.getElem?_eq_getElem hj
    constructor
    · show Wd (W.set c ((W.getD c []).take k ++ (x, m) :: (ctr x, m + 1) :: (W.getD c []).drop k)) (O.set _ ((O.getD _ []).take n ++ m :: (m + 1) :: (O.getD _ []).drop n)) ((L.map (renM c (inF k))).set _ (put2 n (c, k) (c, k + 1) (renM c (inF k) (L.getD _ [])))) (m + 2)
      rw [eg] at h1 ⊢
      rw [getD_of ho]
      exact h.ins hw h1 ho
    · show lets (W.set c _) = (lets W).set c (((lets W).getD c []).take k ++ [x] ++ [ctr x] ++ ((lets W).getD c []).drop k)
      rw [lets_set, lets_getD hc, List.map_append, List.map_cons, List.map_cons, List.map_take, List.map_drop]
      simp
structure Lc where
  a : Addr
  x : Nat
  n : Nat
structure Wc where
  a : Addr
  ls : List Lc
structure Oc where
  a : Addr
  ns : List Nat
noncomputable def Lc.pr (l : Lc) : Nat × Nat := (l.x, l.n)
noncomputable def Wc.w (c : Wc) : List (Nat × Nat) := c.ls.map Lc.pr
noncomputable def lcv (ls : List Lc) : List V := ls.map fun l => V.ref l.a
noncomputable def wcv (Ws : List Wc) : List V := Ws.map fun c => V.ref c.a
noncomputable def ocv (Os : List Oc) : List V := Os.map fun o => V.ref o.a
noncomputable def wWords : List Nat := [119, 111, 114, 100, 115]
noncomputable def wOrders : List Nat := [111, 114, 100, 101, 114, 115]
noncomputable def wMany : List Nat := [109, 97, 110, 121]
noncomputable def wdK (wl ol : Addr) (m : Nat) : List (Key × V) := [(kS wWords, .ref wl), (kS wOrders, .ref ol), (kS wMany, .int m)]
structure WdAt (H : Hp) (d wl ol : Addr) (Ws : List Wc) (Os : List Oc) (m : Nat) : Prop where
  dk : H d = some (.dK (wdK wl ol m))
  wd : H wl = some (.lst (wcv Ws))
  od : H ol = some (.lst (ocv Os))
  wc : ∀ c ∈ Ws, H c.a = some (.lst (lcv c.ls))
  lc : ∀ c ∈ Ws, ∀ l ∈ c.ls, H l.a = some (.lst [.str (S [l.x]), .int l.n])
  oc : ∀ o ∈ Os, H o.a = some (.lst (ivs o.ns))
  nd : (wl :: ol :: (Ws.map Wc.a ++ Os.map Oc.a)).Nodup
  nl : ∀ c ∈ Ws, ∀ l ∈ c.ls, l.a ∉ wl :: ol :: (Ws.map Wc.a ++ Os.map Oc.a)
noncomputable def oW (Ws : List Wc) : WN := Ws.map Wc.w
noncomputable def oO (Os : List Oc) : List (List Nat) := Os.map Oc.ns
noncomputable def wdA (d wl ol : Addr) (Ws : List Wc) (Os : List Oc) : List Addr := d :: wl :: ol :: (Ws.map Wc.a ++ Os.map Oc.a)
noncomputable def sp_Lopened (_ : PySem.W.Frag) : Sp := fun vs H Q _ => ∃ (y : List Nat) (dr : Addr) (ws : List (List Nat)) (os : List Od), vs = [.ref dr] ∧ Yd y ∧ y.length ≤ 8 ∧ Good y ws (os.map prs) ∧ DrAt H dr ws os ∧
  ∀ (d wl ol : Addr) (Ws : List Wc) (Os : List Oc) (m : Nat) (H' : Hp), WdAt H' d wl ol Ws Os m → (∀ a ∈ wdA d wl ol Ws Os, H a = none) → lets (oW Ws) = ws → Wd (oW Ws) (oO Os) (os.map prs) m → m ≤ 48 → Same H H' → Q (.ref d) H'
theorem len_Lopened {K : PySem.W.Frag} {vs : List V} {H : Hp} {Q : VK} {E : XK} (h : sp_Lopened K vs H Q E) : vs.length = 1 := by obtain ⟨_, _, _, _, rfl, _⟩ := h; rfl
noncomputable def sp_Lshut (_ : PySem.W.Frag) : Sp := fun vs H Q _ => ∃ (y : List Nat) (d wl ol : Addr) (Ws : List Wc) (Os : List Oc) (L : Ords) (m : Nat), vs = [.ref d] ∧ Yd y ∧ y.length ≤ 8 ∧ WdAt H d wl ol Ws Os m ∧ Wd (oW Ws) (oO Os) L m ∧ Good y (lets (oW Ws)) L ∧ m ≤ 1000 ∧
  ∀ (dr : Addr) (os : List Od) (H' : Hp), DrAt H' dr (lets (oW Ws)) os → os.map prs = L → Same H H' → Q (.ref dr) H'
theorem len_Lshut {K : PySem.W.Frag} {vs : List V} {H : Hp} {Q : VK} {E : XK} (h : sp_Lshut K vs H Q E) : vs.length = 1 := by obtain ⟨_, _, _, _, _, _, _, _, rfl, _⟩ := h; rfl
noncomputable def sp_Ldoes (_ : PySem.W.Frag) : Sp := fun vs H Q _ => ∃ (y : List Nat) (d wl ol a : Addr) (Ws : List Wc) (Os : List Oc) (L : Ords) (m : Nat) (e : Deed), vs = [.str (S y), .ref d, .ref a] ∧ Yd y ∧ y.length ≤ 8 ∧ WdAt H d wl ol Ws Os m ∧ Wd (oW Ws) (oO Os) L m ∧ Good y (lets (oW Ws)) L ∧ m ≤ 1000 ∧ DeedAt H a e ∧ Dok y (bsOf y) (lets (oW Ws)) L e ∧
  ∀ (Ws' : List Wc) (Os' : List Oc) (H' : Hp), WdAt H' d wl ol Ws' Os' (aM m e) → oW Ws' = aW (oW Ws) m e → oO Os' = aO (bsOf y) (oW Ws) (oO Os) m e → (∀ x ∈ wdA d wl ol Ws' Os', H x = none ∨ x ∈ wdA d wl ol Ws Os) → (∀ x u, H x = some u → x ∉ wdA d wl ol Ws Os → H' x = some u) → Q (.bl true) H'
theorem len_Ldoes {K : PySem.W.Frag} {vs : List V} {H : Hp} {Q : VK} {E : XK} (h : sp_Ldoes K vs H Q E) : vs.length = 3 := by obtain ⟨_, _, _, _, _, _, _, _, _, _, rfl, _⟩ := h; rfl
noncomputable def key2 (p : Nat × Nat) : List Key := [Sum.inl (p.1 : Int), Sum.inl (p.2 : Int)]
theorem key2_inj {p q : Nat × Nat} (h : key2 p = key2 q) : p = q := by
  unfold key2 at h
  obtain ⟨a, b⟩ := p
  obtain ⟨c, d⟩ := q
  have h1 := Sum.inl.inj (List.cons.inj h).1
  have h2 := Sum.inl.inj (List.cons.inj (List.cons.inj h).2).1
  have e1 : a = c := Int.ofNat.inj h1
  have e2 : b = d := Int.ofNat.inj h2
  rw [e1, e2]
structure NumAt (W : WN) (kvs : List (List Key × V)) (m : Nat) : Prop where
  nm : nums W = List.range m
  kl : kvs.length = m
  hit : ∀ n p, AtN W n p → valV kvs (key2 p) = some (.int (n : Nat))
  non : ∀ p, (∀ n, ¬ AtN W n p) → valV kvs (key2 p) = none
theorem atN_app {W : WN} {w : List (Nat × Nat)} {n : Nat} {p : Nat × Nat} : AtN (W ++ [w]) n p ↔ AtN W n p ∨ (p.1 = W.length ∧ ∃ x, w[p.2]? = some (x, n)) := by
  unfold AtN
  constructor
  · rintro ⟨v, x, h1, h2⟩
    rcases Nat.lt_trichotomy p.1 W.length with g | g | g
    · rw [List.getElem?_append_left g] at h1; exact .inl ⟨v, x, h1, h2⟩
    · rw [List.getElem?_append_right (by omega), g, Nat.sub_self] at h1
      cases h1
      exact .inr ⟨g, x, h2⟩
    · rw [List.getElem?_append_right (by omega)] at h1
      obtain ⟨k, hk⟩ : ∃ k, p.1 - W.length = k + 1 := ⟨p.1 - W.length - 1, by omega⟩
      rw [hk] at h1
      cases h1
  · rintro (⟨v, x, h1, h2⟩ | ⟨g, x, h2⟩)
    · exact ⟨v, x, by rw [List.getElem?_append_left (List.getElem?_eq_some_iff.mp h1).1]; exact h1, h2⟩
    · exact ⟨w, x, by rw [List.getElem?_append_right (by omega), g, Nat.sub_self]; rfl, h2⟩
theorem nums_app (W : WN) (w : List (Nat × Nat)) : nums (W ++ [w]) = nums W ++ w.map Prod.snd := by unfold nums; rw [List.flatMap_append]; simp
theorem NumAt.new {W : WN} {kvs : List (List Key × V)} {m : Nat} (h : NumAt W kvs m) : NumAt (W ++ [[]]) kvs m := by
  have e : ∀ n p, AtN (W ++ [[]]) n p ↔ AtN W n p := fun n p => atN_app.trans ⟨fun z => z.elim id fun ⟨_, x, g⟩ => by simp at g, .inl⟩
  exact ⟨by rw [nums_app, h.nm]; simp, h.kl, fun n p z => h.hit n p ((e n p).mp z), fun p z => h.non p fun n y => z n ((e n p).mpr y)⟩
theorem NumAt.push {W : WN} {w : List (Nat × Nat)} {kvs : List (List Key × V)} {m x : Nat} (h : NumAt (W ++ [w]) kvs m) :
    valV kvs (key2 (W.length, w.length)) = none ∧ NumAt (W ++ [w ++ [(x, m)]]) (putK kvs (key2 (W.length, w.length)) (.int (m : Nat))) (m + 1) := by
  have hno : valV kvs (key2 (W.length, w.length)) = none := h.non _ fun n z => by
    rcases atN_app.mp z with ⟨v, y, h1, _⟩ | ⟨_, y, h1⟩
    · rw [List.getElem?_eq_none (Nat.le_refl _)] at h1; cases h1
    · rw [List.getElem?_eq_none (Nat.le_refl _)] at h1; cases h1
  have e : ∀ n p, AtN (W ++ [w ++ [(x, m)]]) n p ↔ AtN (W ++ [w]) n p ∨ (n = m ∧ p = (W.length, w.length)) := fun n p => by
    obtain ⟨pc, pi⟩ := p
    rw [atN_app, atN_app]
    constructor
    · rintro (g | ⟨g, y, h2⟩)
      · exact .inl (.inl g)
      · simp only at g h2
        rcases Nat.lt_trichotomy pi w.length with z | z | z
        · rw [List.getElem?_append_left z] at h2; exact .inl (.inr ⟨g, y, h2⟩)
        · rw [z, List.getElem?_append_right (Nat.le_refl _), Nat.sub_self] at h2
          cases h2
          exact .inr ⟨rfl, by rw [g, z]⟩
        · rw [List.getElem?_eq_none (by simp; omega)] at h2; cases h2
    · rintro ((g | ⟨g, y, h2⟩) | ⟨g1, g2⟩)
      · exact .inl g
      · exact .inr ⟨g, y, by rw [List.getElem?_append_left (List.getElem?_eq_some_iff.mp h2).1]; exact h2⟩
      · cases g2
        exact .inr ⟨rfl, x, by rw [g1, List.getElem?_append_right (Nat.le_refl _), Nat.sub_self]; rfl⟩
  refine ⟨hno, ?_, ?_, fun n p hp => ?_, fun p hp => ?_⟩
  · rw [nums_app, List.map_append, ← List.append_assoc, ← nums_app, h.nm, List.range_succ]; rfl
  · rw [putK_new _ hno, List.length_append, h.kl]; rfl
  · rw [valV_put]
    rcases (e n p).mp hp with g | ⟨g1, g2⟩
    · by_cases z : key2 p = key2 (W.length, w.length)
      · have := h.hit n p g
        rw [z, hno] at this; cases this
      · rw [if_neg z]; exact h.hit n p g
    · rw [g1, g2, if_pos rfl]
  · rw [valV_put, if_neg fun z => hp m ((e m p).mpr (.inr ⟨rfl, key2_inj z⟩))]
    exact h.non p fun n z => hp n ((e n p).mpr (.inl z))
structure WsAt (H : Hp) (wl : Addr) (Ws : List Wc) : Prop where
  wd : H wl = some (.lst (wcv Ws))
  wc : ∀ c ∈ Ws, H c.a = some (.lst (lcv c.ls))
  lc : ∀ c ∈ Ws, ∀ l ∈ c.ls, H l.a = some (.lst [.str (S [l.x]), .int l.n])
  nd : (wl :: Ws.map Wc.a).Nodup
  nl : ∀ c ∈ Ws, ∀ l ∈ c.ls, l.a ∉ wl :: Ws.map Wc.a
theorem WsAt.same {H H' : Hp} {wl : Addr} {Ws : List Wc} (h : WsAt H wl Ws) (s : Same H H') : WsAt H' wl Ws := ⟨s _ _ h.wd, fun c hc => s _ _ (h.wc c hc), fun c hc l hl => s _ _ (h.lc c hc l hl), h.nd, h.nl⟩
theorem WsAt.dict {H : Hp} {wl d : Addr} {Ws : List Wc} {k k' : List (List Key × V)} (h : WsAt H wl Ws) (hd : H d = some (.dT k)) : WsAt (upd H d (.dT k')) wl Ws := by
  have ne : ∀ {a : Addr} {xs : List V}, H a = some (.lst xs) → a ≠ d := fun e z => by rw [z, hd] at e; cases e
  exact ⟨by rw [upd_ne (ne h.wd)]; exact h.wd, fun c hc => by rw [upd_ne (ne (h.wc c hc))]; exact h.wc c hc, fun c hc l hl => by rw [upd_ne (ne (h.lc c hc l hl))]; exact h.lc c hc l hl, h.nd, h.nl⟩
theorem WsAt.live {H : Hp} {wl a : Addr} {Ws : List Wc} (h : WsAt H wl Ws) (ha : a ∈ wl :: Ws.map Wc.a) : ∃ u, H a = some u := by
  rcases List.mem_cons.mp ha with z | z
  · exact ⟨_, by rw [z]; exact h.wd⟩
  · obtain ⟨c, hc, e⟩ := List.mem_map.mp z
    exact ⟨_, by rw [← e]; exact h.wc c hc⟩
theorem wcv_snoc (Ws : List Wc) (c : Wc) : wcv Ws ++ [V.ref c.a] = wcv (Ws ++ [c]) := by unfold wcv; rw [List.map_append]; rfl
theorem lcv_snoc (ls : List Lc) (l : Lc) : lcv ls ++ [V.ref l.a] = lcv (ls ++ [l]) := by unfold lcv; rw [List.map_append]; rfl
theorem WsAt.new {H : Hp} {wl t : Addr} {Ws : List Wc} (h : WsAt H wl Ws) (n : H t = none) : WsAt (upd (upd H t (.lst [])) wl (.lst (wcv (Ws ++ [⟨t, []⟩])))) wl (Ws ++ [⟨t, []⟩]) := by
  have h1 := h.same (Same.upd (o := HO.lst []) n)
  have hf : t ∉ wl :: Ws.map Wc.a := fun z => by obtain ⟨u, e⟩ := h.live z; rw [e] at n; cases n
  have hwt : wl ≠ t := fun z => hf (by rw [z]; exact List.mem_cons_self)
  obtain ⟨n1, n2⟩ := List.nodup_cons.mp h.nd
  have nw : ∀ c ∈ Ws, c.a ≠ wl := fun c hc z => n1 (by rw [← z]; exact List.mem_map.mpr ⟨c, hc, rfl⟩)
  refine ⟨upd_same, fun c hc => ?_, fun c hc l hl => ?_, ?_, fun c hc l hl => ?_⟩
  · rcases List.mem_append.mp hc with g | g
    · rw [upd_ne (nw c g)]; exact h1.wc c g
    · rw [List.mem_singleton.mp g, upd_ne (Ne.symm hwt), upd_same]; rfl
  · rcases List.mem_append.mp hc with g | g
    · rw [upd_ne fun z => h.nl c g l hl (by rw [z]; exact List.mem_cons_self)]; exact h1.lc c g l hl
    · rw [List.mem_singleton.mp g] at hl; exact absurd hl List.not_mem_nil
  · rw [List.map_append]
    show (wl :: (Ws.map Wc.a ++ [t])).Nodup
    rw [← List.cons_append, List.nodup_append]
    exact ⟨h.nd, by simp, fun a ha b hb z => hf (by rw [List.mem_singleton.mp hb] at z; rw [← z]; exact ha)⟩
  · rcases List.mem_append.mp hc with g | g
    · rw [List.map_append, ← List.cons_append]
      intro z
      rcases List.mem_append.mp z with y | y
      · exact h.nl c g l hl y
      · have e := List.mem_singleton.mp y
        have := h.lc c g l hl
        rw [e] at this
        rw [show H t = _ from this] at n; cases n
    · rw [List.mem_singleton.mp g] at hl; exact absurd hl List.not_mem_nil
theorem WsAt.push {H : Hp} {wl t p : Addr} {Ws : List Wc} {ls : List Lc} {x n : Nat} (h : WsAt H wl (Ws ++ [⟨t, ls⟩])) (np : H p = none) :
    WsAt (upd (upd H p (.lst [.str (S [x]), .int n])) t (.lst (lcv (ls ++ [⟨p, x, n⟩])))) wl (Ws ++ [⟨t, ls ++ [⟨p, x, n⟩]⟩]) := by
  have h1 := h.same (Same.upd (o := HO.lst [.str (S [x]), .int n]) np)
  have hp1 : upd H p (HO.lst [.str (S [x]), .int n]) p = some (HO.lst [.str (S [x]), .int n]) := upd_same
  have hf : p ∉ wl :: (Ws ++ [(⟨t, ls⟩ : Wc)]).map Wc.a := fun z => by obtain ⟨u, e⟩ := h.live z; rw [e] at np; cases np
  have em : (Ws ++ [(⟨t, ls ++ [⟨p, x, n⟩]⟩ : Wc)]).map Wc.a = (Ws ++ [(⟨t, ls⟩ : Wc)]).map Wc.a := by rw [List.map_append, List.map_append]; rfl
  have mt : t ∈ (Ws ++ [(⟨t, ls⟩ : Wc)]).map Wc.a := List.mem_map.mpr ⟨⟨t, ls⟩, List.mem_append.mpr (.inr (List.mem_singleton.mpr rfl)), rfl⟩
  obtain ⟨n1, n2⟩ := List.nodup_cons.mp h.nd
  have hwt : wl ≠ t := fun z => n1 (by rw [z]; exact mt)
  have hpt : p ≠ t := fun z => hf (by rw [z]; exact List.mem_cons_of_mem _ mt)
  have nt : ∀ c ∈ Ws, c.a ≠ t := fun c hc z => by
    rw [List.map_append, List.nodup_append] at n2
    exact n2.2.2 c.a (List.mem_map.mpr ⟨c, hc, rfl⟩) t (by simp) z
  have ml : (⟨t, ls⟩ : Wc) ∈ Ws ++ [(⟨t, ls⟩ : Wc)] := List.mem_append.mpr (.inr (List.mem_singleton.mpr rfl))
  have lt : ∀ c ∈ Ws ++ [(⟨t, ls⟩ : Wc)], ∀ l ∈ c.ls, l.a ≠ t := fun c hc l hl z => h.nl c hc l hl (by rw [z]; exact List.mem_cons_of_mem _ mt)
  refine ⟨?_, fun c hc => ?_, fun c hc l hl => ?_, by rw [em]; exact h.nd, fun c hc l hl => ?_⟩
  · rw [upd_ne hwt, h1.wd]
    unfold wcv
    rw [List.map_append, List.map_append]; rfl
  · rcases List.mem_append.mp hc with g | g
    · rw [upd_ne (nt c g)]; exact h1.wc c (List.mem_append_left _ g)
    · rw [List.mem_singleton.mp g]; exact upd_same
  · rcases List.mem_append.mp hc with g | g
    · rw [upd_ne (lt c (List.mem_append_left _ g) l hl)]; exact h1.lc c (List.mem_append_left _ g) l hl
    · rw [List.mem_singleton.mp g] at hl
      rcases List.mem_append.mp hl with y | y
      · rw [upd_ne (lt _ ml l y)]; exact h1.lc _ ml l y
      · rw [List.mem_singleton.mp y, upd_ne hpt]; exact hp1
  · rw [em]
    rcases List.mem_append.mp hc with g | g
    · exact h.nl c (List.mem_append_left _ g) l hl
    · rw [List.mem_singleton.mp g] at hl
      rcases List.mem_append.mp hl with y | y
      · exact h.nl _ ml l y
      · rw [List.mem_singleton.mp y]; exact hf
theorem same_upd {H H' : Hp} {a : Addr} {o : HO} (s : Same H H') (n : H a = none) : Same H (upd H' a o) := fun b u e => by rw [upd_ne (ne_of_none e n)]; exact s b u e
theorem oW_app (Ws : List Wc) (c : Wc) : oW (Ws ++ [c]) = oW Ws ++ [c.w] := by unfold oW; rw [List.map_append]; rfl
theorem oW_len (Ws : List Wc) : (oW Ws).length = Ws.length := by unfold oW; rw [List.length_map]
theorem lets_app (W : WN) (w : List (Nat × Nat)) : lets (W ++ [w]) = lets W ++ [w.map Prod.fst] := by unfold lets; rw [List.map_append]; rfl
theorem Wc.w_snoc (t : Addr) (ls : List Lc) (l : Lc) : (⟨t, ls ++ [l]⟩ : Wc).w = (⟨t, ls⟩ : Wc).w ++ [(l.x, l.n)] := by unfold Wc.w; rw [List.map_append]; rfl
theorem Wc.w_len (t : Addr) (ls : List Lc) : (⟨t, ls⟩ : Wc).w.length = ls.length := by unfold Wc.w; rw [List.length_map]
theorem Wc.w_fst (t : Addr) (ls : List Lc) : (⟨t, ls⟩ : Wc).w.map Prod.fst = ls.map Lc.x := by unfold Wc.w; rw [List.map_map]; rfl
theorem wcv_len (Ws : List Wc) : (wcv Ws).length = Ws.length := by unfold wcv; rw [List.length_map]
theorem lcv_len (ls : List Lc) : (lcv ls).length = ls.length := by unfold lcv; rw [List.length_map]
theorem at_of_lets {W : WN} {ws : List (List Nat)} {c i : Nat} (h : lets W = ws) (hc : c < ws.length) (hi : i < (ws.getD c []).length) : ∃ n, AtN W n (c, i) := by
  subst h
  rw [lets_len] at hc
  rw [lets_getD hc, List.length_map] at hi
  rw [getD_of (List.getElem?_eq_getElem hc)] at hi
  exact ⟨(W[c][i]).2, W[c], (W[c][i]).1, List.getElem?_eq_getElem hc, List.getElem?_eq_getElem hi⟩
theorem Good.has {y : List Nat} {ws : List (List Nat)} {L : Ords} {W : WN} (g : Good y ws L) (h : lets W = ws) {j : Nat} {l : List (Nat × Nat)} (hl : L[j]? = some l) : (∀ p ∈ l, ∃ n, AtN W n p) ∧ l.Nodup := by
  have hj : j < (bsOf y).length := by rw [← g.lk.1]; exact (List.getElem?_eq_some_iff.mp hl).1
  have hp := g.lk.2 j l _ hl (List.getElem?_eq_getElem hj)
  refine ⟨fun p hm => ?_, hp.nodup_iff.mpr (strAll_nd2 _ _ _)⟩
  obtain ⟨c, i⟩ := p
  obtain ⟨h1, h2, _⟩ := mem_str.mp (hp.mem_iff.mp hm)
  exact at_of_lets h h1 h2
theorem Al.nodup {R : Nat → Nat × Nat → Prop} (own : ∀ n p q, R n p → R n q → p = q) : ∀ {o : List Nat} {l : List (Nat × Nat)}, Al R o l → l.Nodup → o.Nodup
  | _, _, .nil, _ => List.nodup_nil
  | n :: o, p :: l, .cons a b, h => by
    obtain ⟨h1, h2⟩ := List.nodup_cons.mp h
    refine List.nodup_cons.mpr ⟨fun z => h1 ?_, b.nodup own h2⟩
    have : ∀ {o : List Nat} {l : List (Nat × Nat)}, Al R o l → n ∈ o → p ∈ l := fun {o l} al => by
      induction al with
      | nil => intro z; exact absurd z List.not_mem_nil
      | cons r _ ih =>
        intro z
        rcases List.mem_cons.mp z with e | e
        · subst e; rw [own _ _ _ a r]; exact List.mem_cons_self
        · exact List.mem_cons_of_mem _ (ih e)
    exact this b z
theorem ocv_snoc (Os : List Oc) (o : Oc) : ocv Os ++ [V.ref o.a] = ocv (Os ++ [o]) := by unfold ocv; rw [List.map_append]; rfl
theorem ivs_snoc2 (ns : List Nat) (n : Nat) : ivs ns ++ [V.int (n : Nat)] = ivs (ns ++ [n]) := by unfold ivs; rw [List.map_append]; rfl
theorem Al.snoc {R : Nat → Nat × Nat → Prop} {o : List Nat} {l : List (Nat × Nat)} {n : Nat} {p : Nat × Nat} (h : Al R o l) (r : R n p) : Al R (o ++ [n]) (l ++ [p]) := h.app (.cons r .nil)
theorem odv_at2 {os : List Od} {i : Nat} {x : V} (h : (odv os)[i]? = some x) : ∃ o, os[i]? = some o ∧ x = V.ref o.o := by
  unfold odv at h
  rw [List.getElem?_map] at h
  cases e : os[i]? with
  | none => rw [e] at h; cases h
  | some o => rw [e] at h; cases h; exact ⟨o, rfl, rfl⟩
structure OsAt (H0 H : Hp) (W : WN) (L : Ords) (Os : List Oc) : Prop where
  oc : ∀ o ∈ Os, H o.a = some (.lst (ivs o.ns))
  al : ∀ (j : Nat) (o : Oc) (l : List (Nat × Nat)), Os[j]? = some o → L[j]? = some l → Al (AtN W) o.ns l
  nd : (Os.map Oc.a).Nodup
  fr : ∀ o ∈ Os, H0 o.a = none
theorem OsAt.snoc {H0 H H' : Hp} {W : WN} {L : Ords} {Os : List Oc} {o : Oc} {l : List (Nat × Nat)} (h : OsAt H0 H W L Os) (s : Same H H') (so : Same H0 H) (no : H o.a = none) (ho : H' o.a = some (.lst (ivs o.ns))) (hl : L[Os.length]? = some l) (al : Al (AtN W) o.ns l) : OsAt H0 H' W L (Os ++ [o]) := by
  refine ⟨fun x hx => ?_, fun j x l' h1 h2 => ?_, ?_, fun x hx => ?_⟩
  · rcases List.mem_append.mp hx with g | g
    · exact s _ _ (h.oc x g)
    · rw [List.mem_singleton.mp g]; exact ho
  · rcases Nat.lt_trichotomy j Os.length with g | g | g
    · rw [List.getElem?_append_left g] at h1; exact h.al j x l' h1 h2
    · subst g
      rw [List.getElem?_append_right (Nat.le_refl _), Nat.sub_self] at h1
      cases h1
      rw [hl] at h2; cases h2
      exact al
    · rw [List.getElem?_eq_none (by simp; omega)] at h1; cases h1
  · rw [List.map_append, List.nodup_append]
    refine ⟨h.nd, by simp, fun a ha b hb z => ?_⟩
    obtain ⟨x, hx, e⟩ := List.mem_map.mp ha
    have e2 : b = o.a := by simpa using hb
    have := h.oc x hx
    rw [e, z, e2, no] at this; cases this
  · rcases List.mem_append.mp hx with g | g
    · exact h.fr x g
    · rw [List.mem_singleton.mp g]; exact Same.free so no
theorem wd_made {y : List Nat} {ws : List (List Nat)} {L : Ords} {H0 H : Hp} {W : WN} {Os : List Oc} {kvs : List (List Key × V)} {m : Nat} (g : Good y ws L) (h : lets W = ws) (hn : NumAt W kvs m) (ho : OsAt H0 H W L Os) (hl : Os.length = L.length) : Wd W (oO Os) L m := by
  have nd : (nums W).Nodup := by rw [hn.nm]; exact List.nodup_range
  refine ⟨nd, fun n hm => by rw [hn.nm] at hm; exact List.mem_range.mp hm, by unfold oO; rw [List.length_map]; exact hl, fun j o l h1 h2 => ?_, fun o hm => ?_⟩
  · unfold oO at h1
    rw [List.getElem?_map] at h1
    cases e : Os[j]? with
    | none => rw [e] at h1; cases h1
    | some x => rw [e] at h1; cases h1; exact ho.al j x l e h2
  · unfold oO at hm
    obtain ⟨x, hx, rfl⟩ := List.mem_map.mp hm
    obtain ⟨j, hj, e⟩ := List.mem_iff_getElem.mp hx
    have e1 : Os[j]? = some x := by rw [List.getElem?_eq_getElem hj, e]
    have hl2 : L[j]? = some L[j] := List.getElem?_eq_getElem (by omega)
    exact (ho.al j x _ e1 hl2).nodup (own_of nd) (g.has h hl2).2
theorem wdK_merge (wl ol : Addr) (m : Nat) : mergeK [] [(kS wWords, V.ref wl), (kS wOrders, V.ref ol), (kS wMany, V.int (m : Nat))] = wdK wl ol m := by
  have n1 : valV (κ := Key) [(kS wWords, V.ref wl)] (kS wOrders) = none := by rw [valV_neg (fun z => absurd (kS_inj z) (by decide))]; rfl
  have n2 : valV (κ := Key) [(kS wWords, V.ref wl), (kS wOrders, V.ref ol)] (kS wMany) = none := by rw [valV_neg (fun z => absurd (kS_inj z) (by decide)), valV_neg (fun z => absurd (kS_inj z) (by decide))]; rfl
  unfold mergeK
  rw [List.foldl_cons, List.foldl_cons, List.foldl_cons, List.foldl_nil]
  rw [show putK (κ := Key) [] (kS wWords) (V.ref wl) = [(kS wWords, V.ref wl)] from putK_new _ rfl, putK_new _ n1]
  exact putK_new _ n2
theorem nodup_wd {H : Hp} {wl ol : Addr} {as bs : List Addr} (h1 : (wl :: as).Nodup) (l1 : ∀ a ∈ wl :: as, ∃ u, H a = some u) (n : H ol = none) (h2 : bs.Nodup) (l2 : ∀ b ∈ bs, H b = none) (h3 : ol ∉ bs) : (wl :: ol :: (as ++ bs)).Nodup := by
  have dis : ∀ a ∈ wl :: as, ∀ b, H b = none → a ≠ b := fun a ha b hb z => by obtain ⟨u, e⟩ := l1 a ha; rw [z, hb] at e; cases e
  obtain ⟨g1, g2⟩ := List.nodup_cons.mp h1
  refine List.nodup_cons.mpr ⟨fun z => ?_, List.nodup_cons.mpr ⟨fun z => ?_, List.nodup_append.mpr ⟨g2, h2, fun a ha b hb => dis a (List.mem_cons_of_mem _ ha) b (l2 b hb)⟩⟩⟩
  · rcases List.mem_cons.mp z with e | z
    · exact dis wl List.mem_cons_self ol n e
    · rcases List.mem_append.mp z with z | z
      · exact g1 z
      · exact dis wl List.mem_cons_self wl (l2 _ z) rfl
  · rcases List.mem_append.mp z with z | z
    · exact dis ol (List.mem_cons_of_mem _ z) ol n rfl
    · exact h3 z
noncomputable def kI (n : Nat) : Key := Sum.inl (n : Int)
theorem kI_inj {a b : Nat} (h : kI a = kI b) : a = b := Int.ofNat.inj (Sum.inl.inj h)
noncomputable def StAt (W : WN) (kvs : List (Key × V)) (H : Hp) : Prop := ∀ n p, AtN W n p → ∃ t, valV kvs (kI n) = some (.ref t) ∧ H t = some (.tup [.int p.1, .int p.2])
theorem atN_last {W : WN} {w : List (Nat × Nat)} {n : Nat} : ¬ AtN (W ++ [w]) n (W.length, w.length) := fun z => by
  rcases atN_app.mp z with ⟨v, y, h1, _⟩ | ⟨_, y, h1⟩
  · rw [List.getElem?_eq_none (Nat.le_refl _)] at h1; cases h1
  · rw [List.getElem?_eq_none (Nat.le_refl _)] at h1; cases h1
theorem atN_push {W : WN} {w : List (Nat × Nat)} {x m n : Nat} {p : Nat × Nat} : AtN (W ++ [w ++ [(x, m)]]) n p ↔ AtN (W ++ [w]) n p ∨ (n = m ∧ p = (W.length, w.length)) := by
  obtain ⟨pc, pi⟩ := p
  rw [atN_app, atN_app]
  constructor
  · rintro (g | ⟨g, y, h2⟩)
    · exact .inl (.inl g)
    · simp only at g h2
      rcases Nat.lt_trichotomy pi w.length with z | z | z
      · rw [List.getElem?_append_left z] at h2; exact .inl (.inr ⟨g, y, h2⟩)
      · rw [z, List.getElem?_append_right (Nat.le_refl _), Nat.sub_self] at h2
        cases h2
        exact .inr ⟨rfl, by rw [g, z]⟩
      · rw [List.getElem?_eq_none (by simp; omega)] at h2; cases h2
  · rintro ((g | ⟨g, y, h2⟩) | ⟨g1, g2⟩)
    · exact .inl g
    · exact .inr ⟨g, y, by rw [List.getElem?_append_left (List.getElem?_eq_some_iff.mp h2).1]; exact h2⟩
    · cases g2
      exact .inr ⟨rfl, x, by rw [g1, List.getElem?_append_right (Nat.le_refl _), Nat.sub_self]; rfl⟩
theorem StAt.ts {W : WN} {kvs : List (Key × V)} {H H' : Hp} (h : StAt W kvs H) (s : TSame H H') : StAt W kvs H' := fun n p z => by
  obtain ⟨t, h1, h2⟩ := h n p z
  exact ⟨t, h1, s _ _ h2⟩
theorem StAt.put {W : WN} {w : List (Nat × Nat)} {x n : Nat} {kvs : List (Key × V)} {H : Hp} {t : Addr} (h : StAt (W ++ [w]) kvs H) (own : Own (W ++ [w ++ [(x, n)]])) (ht : H t = some (.tup [.int (W.length : Nat), .int (w.length : Nat)])) :
    StAt (W ++ [w ++ [(x, n)]]) (putK kvs (kI n) (.ref t)) H := fun n' p z => by
  rw [valV_put]
  rcases atN_push.mp z with g | ⟨g1, g2⟩
  · have hne : kI n' ≠ kI n := fun e => by
      have e := kI_inj e
      subst e
      have := own _ _ _ z (atN_push.mpr (.inr ⟨rfl, rfl⟩))
      rw [this] at g
      exact atN_last g
    rw [if_neg hne]
    exact h n' p g
  · subst g1; subst g2
    rw [if_pos rfl]
    exact ⟨t, rfl, ht⟩
theorem atN_take {W : WN} {w : List (Nat × Nat)} {j k n : Nat} {p : Nat × Nat} (hw : W[j]? = some w) (h : AtN (W.take j ++ [w.take k]) n p) : AtN W n p := by
  have hj := (List.getElem?_eq_some_iff.mp hw).1
  have hl : (W.take j).length = j := by rw [List.length_take]; omega
  rcases atN_app.mp h with ⟨v, y, h1, h2⟩ | ⟨g, y, h2⟩
  · have := (List.getElem?_eq_some_iff.mp h1).1
    rw [List.getElem?_take, if_pos (by omega)] at h1
    exact ⟨v, y, h1, h2⟩
  · rw [hl] at g
    have hk : p.2 < k := by have := (List.getElem?_eq_some_iff.mp h2).1; rw [List.length_take] at this; omega
    rw [List.getElem?_take, if_pos hk] at h2
    exact ⟨w, y, by rw [g]; exact hw, h2⟩
theorem own_take {W : WN} {w : List (Nat × Nat)} {j k : Nat} (own : Own W) (hw : W[j]? = some w) : Own (W.take j ++ [w.take k]) := fun n p q hp hq => own n p q (atN_take hw hp) (atN_take hw hq)
theorem StAt.nil {W : WN} {kvs : List (Key × V)} {H : Hp} (h : StAt W kvs H) : StAt (W ++ [[]]) kvs H := fun n p z => by
  rcases atN_app.mp z with g | ⟨_, y, g⟩
  · exact h n p g
  · simp at g
theorem wcv_at {Ws : List Wc} {i : Nat} {x : V} (h : (wcv Ws)[i]? = some x) : ∃ c, Ws[i]? = some c ∧ x = V.ref c.a := by
  unfold wcv at h
  rw [List.getElem?_map] at h
  cases e : Ws[i]? with
  | none => rw [e] at h; cases h
  | some o => rw [e] at h; cases h; exact ⟨o, rfl, rfl⟩
theorem lcv_at {ls : List Lc} {i : Nat} {x : V} (h : (lcv ls)[i]? = some x) : ∃ l, ls[i]? = some l ∧ x = V.ref l.a := by
  unfold lcv at h
  rw [List.getElem?_map] at h
  cases e : ls[i]? with
  | none => rw [e] at h; cases h
  | some o => rw [e] at h; cases h; exact ⟨o, rfl, rfl⟩
theorem ocv_at {Os : List Oc} {i : Nat} {x : V} (h : (ocv Os)[i]? = some x) : ∃ c, Os[i]? = some c ∧ x = V.ref c.a := by
  unfold ocv at h
  rw [List.getElem?_map] at h
  cases e : Os[i]? with
  | none => rw [e] at h; cases h
  | some o => rw [e] at h; cases h; exact ⟨o, rfl, rfl⟩
theorem ocv_len (Os : List Oc) : (ocv Os).length = Os.length := by unfold ocv; rw [List.length_map]
theorem wdK_words (wl ol : Addr) (m : Nat) : valV (wdK wl ol m) (kS wWords) = some (.ref wl) := valV_pos rfl
theorem wdK_orders (wl ol : Addr) (m : Nat) : valV (wdK wl ol m) (kS wOrders) = some (.ref ol) := by
  unfold wdK
  rw [valV_neg (fun z => absurd (kS_inj z) (by decide))]
  exact valV_pos rfl
theorem wdK_many (wl ol : Addr) (m : Nat) : valV (wdK wl ol m) (kS wMany) = some (.int (m : Nat)) := by
  unfold wdK
  rw [valV_neg (fun z => absurd (kS_inj z) (by decide)), valV_neg (fun z => absurd (kS_inj z) (by decide))]
  exact valV_pos rfl
theorem Wc.w_ls (c : Wc) : c.w.length = c.ls.length := by unfold Wc.w; rw [List.length_map]
theorem tsame_updK {H : Hp} {p : Addr} {ys : List (Key × V)} {o : HO} (h : H p = some (.dK ys)) : TSame H (upd H p o) := fun c xs e => by
  rw [upd_ne fun z => by rw [z, h] at e; cases e]; exact e
theorem txs_snoc2 (ws : List (List Nat)) (i : Nat) (w : List Nat) (h : ws[i]? = some w) : txs (ws.take i) ++ [V.str (S w)] = txs (ws.take (i + 1)) := by rw [txs_snoc, List.take_succ, h]; rfl
theorem sgs_take2 (l : List Nat) (k x : Nat) (h : l[k]? = some x) : sgs (l.take k) ++ [V.str (S [x])] = sgs (l.take (k + 1)) := by rw [sgs_snoc, List.take_succ, h]; rfl
theorem Good.lens {y : List Nat} {ws : List (List Nat)} {L : Ords} (g : Good y ws L) {j : Nat} {l : List (Nat × Nat)} (hl : L[j]? = some l) : l.length ≤ 48 := by
  have hj : j < (bsOf y).length := by rw [← g.lk.1]; exact (List.getElem?_eq_some_iff.mp hl).1
  rw [(g.lk.2 j l _ hl (List.getElem?_eq_getElem hj)).length_eq]
  have h2 := strAll_len (bsOf y)[j] (fun w hw => (g.wk.all w hw).2) ws.length (Nat.le_refl _)
  have := g.wk.few
  omega
theorem Good.small {y : List Nat} {ws : List (List Nat)} {L : Ords} (g : Good y ws L) {j : Nat} {l : List (Nat × Nat)} (hl : L[j]? = some l) : ∀ p ∈ l, p.1 < 1000 ∧ p.2 < 1000 := fun p hp => by
  have hj : j < (bsOf y).length := by rw [← g.lk.1]; exact (List.getElem?_eq_some_iff.mp hl).1
  have hp2 := (g.lk.2 j l _ hl (List.getElem?_eq_getElem hj)).mem_iff.mp hp
  obtain ⟨c, i⟩ := p
  obtain ⟨h1, h2, _⟩ := mem_str.mp hp2
  have := g.wk.few
  have := (g.wk.all _ (getD_mem h1)).2
  exact ⟨by show c < 1000; omega, by show i < 1000; omega⟩
theorem Al.at {R : Nat → Nat × Nat → Prop} : ∀ {o : List Nat} {l : List (Nat × Nat)} {k n : Nat} {p : Nat × Nat}, Al R o l → o[k]? = some n → l[k]? = some p → R n p
  | _, _, 0, _, _, .cons a _, h1, h2 => by cases h1; cases h2; exact a
  | _, _, _ + 1, _, _, .cons _ b, h1, h2 => b.at (by simpa using h1) (by simpa using h2)
  | _, _, _, _, _, .nil, h1, _ => by simp at h1
theorem ivs_ln (ks : List Nat) : (ivs ks).length = ks.length := by unfold ivs; rw [List.length_map]
noncomputable def wdB (wl ol : Addr) (Ws : List Wc) (Os : List Oc) : List Addr := wl :: ol :: (Ws.map Wc.a ++ Os.map Oc.a)
noncomputable def Fr (A : List Addr) (H H' : Hp) : Prop := ∀ x u, H x = some u → x ∉ A → H' x = some u
theorem Fr.of {A : List Addr} {H H' : Hp} (s : Same H H') : Fr A H H' := fun x u e _ => s x u e
theorem Fr.after {A : List Addr} {H H1 H2 : Hp} (h : Fr A H H1) (s : Same H1 H2) : Fr A H H2 := fun x u e z => s _ _ (h x u e z)
theorem Fr.upd {A : List Addr} {H H1 : Hp} {a : Addr} {o : HO} (h : Fr A H H1) (ha : a ∈ A) : Fr A H (upd H1 a o) := fun x u e z => by rw [upd_ne fun y => z (by rw [y]; exact ha)]; exact h x u e z
theorem Fr.updN {A : List Addr} {H H1 : Hp} {a : Addr} {o : HO} (h : Fr A H H1) (ha : H a = none) : Fr A H (L2.upd H1 a o) := fun x u e z => by rw [upd_ne (ne_of_none e ha)]; exact h x u e z
section
variable {H H' : Hp} {d wl ol : Addr} {Ws : List Wc} {Os : List Oc} {m : Nat}
theorem WdAt.same (h : WdAt H d wl ol Ws Os m) (s : Same H H') : WdAt H' d wl ol Ws Os m := ⟨s _ _ h.dk, s _ _ h.wd, s _ _ h.od, fun c hc => s _ _ (h.wc c hc), fun c hc l hl => s _ _ (h.lc c hc l hl), fun o ho => s _ _ (h.oc o ho), h.nd, h.nl⟩
theorem WdAt.live (h : WdAt H d wl ol Ws Os m) {a : Addr} (ha : a ∈ wdB wl ol Ws Os) : ∃ xs, H a = some (.lst xs) := by
  unfold wdB at ha
  rcases List.mem_cons.mp ha with z | z
  · exact ⟨_, by rw [z]; exact h.wd⟩
  rcases List.mem_cons.mp z with z | z
  · exact ⟨_, by rw [z]; exact h.od⟩
  rcases List.mem_append.mp z with z | z
  · obtain ⟨c, hc, e⟩ := List.mem_map.mp z
    exact ⟨_, by rw [← e]; exact h.wc c hc⟩
  · obtain ⟨c, hc, e⟩ := List.mem_map.mp z
    exact ⟨_, by rw [← e]; exact h.oc c hc⟩
theorem WdAt.fresh (h : WdAt H d wl ol Ws Os m) {a : Addr} (ha : H a = none) : a ∉ wdB wl ol Ws Os := fun z => by obtain ⟨xs, e⟩ := h.live z; rw [ha] at e; cases e
theorem nodup_at {α : Type} {f : α → Addr} : ∀ {l : List α} {i j : Nat} {a b : α}, (l.map f).Nodup → l[i]? = some a → l[j]? = some b → f a = f b → i = j := by
  intro l i j a b nd h1 h2 e
  have e1 : (l.map f)[i]? = some (f a) := by rw [List.getElem?_map, h1]; rfl
  have e2 : (l.map f)[j]? = some (f b) := by rw [List.getElem?_map, h2]; rfl
  obtain ⟨b1, b2⟩ := List.getElem?_eq_some_iff.mp e1
  obtain ⟨c1, c2⟩ := List.getElem?_eq_some_iff.mp e2
  exact (List.getElem_inj nd).mp (b2.trans (e.trans c2.symm))
theorem mem_setX {α : Type} {l : List α} {j : Nat} {x a b : α} (h : x ∈ l.set j a) (hj : l[j]? = some b) : x = a ∨ ∃ i, i ≠ j ∧ l[i]? = some x := by
  obtain ⟨i, hi⟩ := List.mem_iff_getElem?.mp h
  rcases set_mem hi with ⟨_, e⟩ | ⟨e1, e2⟩
  · exact .inl e
  · exact .inr ⟨i, e1, e2⟩
theorem WdAt.setO (h : WdAt H d wl ol Ws Os m) {j : Nat} {o : Oc} {ns : List Nat} (ho : Os[j]? = some o) : WdAt (upd H o.a (.lst (ivs ns))) d wl ol Ws (Os.set j ⟨o.a, ns⟩) m := by
  have hom := List.mem_of_getElem? ho
  have em : (Os.set j ⟨o.a, ns⟩).map Oc.a = Os.map Oc.a := by rw [List.map_set]; exact set_same (by rw [List.getElem?_map, ho]; rfl)
  have hnd := h.nd
  obtain ⟨n1, n2⟩ := List.nodup_cons.mp h.nd
  obtain ⟨n3, n4⟩ := List.nodup_cons.mp n2
  obtain ⟨n5, n6, n7⟩ := List.nodup_append.mp n4
  have mo : o.a ∈ Os.map Oc.a := List.mem_map.mpr ⟨o, hom, rfl⟩
  have ne1 : wl ≠ o.a := fun z => n1 (by rw [z]; exact List.mem_cons_of_mem _ (List.mem_append_right _ mo))
  have ne2 : ol ≠ o.a := fun z => n3 (by rw [z]; exact List.mem_append_right _ mo)
  have ne3 : ∀ c ∈ Ws, c.a ≠ o.a := fun c hc => n7 c.a (List.mem_map.mpr ⟨c, hc, rfl⟩) o.a mo
  have ned : d ≠ o.a := fun z => by have := h.oc o hom; rw [← z, h.dk] at this; cases this
  refine ⟨by rw [upd_ne ned]; exact h.dk, by rw [upd_ne ne1]; exact h.wd, ?_, fun c hc => by rw [upd_ne (ne3 c hc)]; exact h.wc c hc, fun c hc l hl => ?_, fun x hx => ?_, by rw [em]; exact h.nd, fun c hc l hl => by rw [em]; exact h.nl c hc l hl⟩
  · rw [upd_ne ne2, h.od]
    unfold ocv
    rw [show (Os.set j ⟨o.a, ns⟩).map (fun o => V.ref o.a) = Os.map fun o => V.ref o.a from by rw [List.map_set]; exact set_same (by rw [List.getElem?_map, ho]; rfl)]
  · rw [upd_ne fun z => h.nl c hc l hl (by rw [z]; exact List.mem_cons_of_mem _ (List.mem_cons_of_mem _ (List.mem_append_right _ mo)))]; exact h.lc c hc l hl
  · rcases mem_setX hx ho with e | ⟨i, e1, e2⟩
    · rw [e]; exact upd_same
    · rw [upd_ne fun z => e1 (nodup_at n6 e2 ho z)]; exact h.oc x (List.mem_of_getElem? e2)
theorem WdAt.setW (h : WdAt H d wl ol Ws Os m) {j : Nat} {c : Wc} {ls : List Lc} (hc : Ws[j]? = some c) (hl : ∀ l ∈ ls, H l.a = some (.lst [.str (S [l.x]), .int l.n]) ∧ l.a ∉ wdB wl ol Ws Os) : WdAt (upd H c.a (.lst (lcv ls))) d wl ol (Ws.set j ⟨c.a, ls⟩) Os m := by
  have hcm := List.mem_of_getElem? hc
  have em : (Ws.set j ⟨c.a, ls⟩).map Wc.a = Ws.map Wc.a := by rw [List.map_set]; exact set_same (by rw [List.getElem?_map, hc]; rfl)
  obtain ⟨n1, n2⟩ := List.nodup_cons.mp h.nd
  obtain ⟨n3, n4⟩ := List.nodup_cons.mp n2
  obtain ⟨n5, n6, n7⟩ := List.nodup_append.mp n4
  have mc : c.a ∈ Ws.map Wc.a := List.mem_map.mpr ⟨c, hcm, rfl⟩
  have mb : c.a ∈ wdB wl ol Ws Os := List.mem_cons_of_mem _ (List.mem_cons_of_mem _ (List.mem_append_left _ mc))
  have ne1 : wl ≠ c.a := fun z => n1 (by rw [z]; exact List.mem_cons_of_mem _ (List.mem_append_left _ mc))
  have ne2 : ol ≠ c.a := fun z => n3 (by rw [z]; exact List.mem_append_left _ mc)
  have ne3 : ∀ o ∈ Os, o.a ≠ c.a := fun o ho z => n7 c.a mc o.a (List.mem_map.mpr ⟨o, ho, rfl⟩) z.symm
  have ned : d ≠ c.a := fun z => by have := h.wc c hcm; rw [← z, h.dk] at this; cases this
  refine ⟨by rw [upd_ne ned]; exact h.dk, ?_, by rw [upd_ne ne2]; exact h.od, fun x hx => ?_, fun x hx l hl' => ?_, fun o ho => by rw [upd_ne (ne3 o ho)]; exact h.oc o ho, by rw [em]; exact h.nd, fun x hx l hl' => ?_⟩
  · rw [upd_ne ne1, h.wd]
    unfold wcv
    rw [show (Ws.set j ⟨c.a, ls⟩).map (fun c => V.ref c.a) = Ws.map fun c => V.ref c.a from by rw [List.map_set]; exact set_same (by rw [List.getElem?_map, hc]; rfl)]
  · rcases mem_setX hx hc with e | ⟨i, e1, e2⟩
    · rw [e]; exact upd_same
    · rw [upd_ne fun z => e1 (nodup_at n5 e2 hc z)]; exact h.wc x (List.mem_of_getElem? e2)
  · rcases mem_setX hx hc with e | ⟨i, e1, e2⟩
    · rw [e] at hl'
      obtain ⟨g1, g2⟩ := hl l hl'
      rw [upd_ne fun z => g2 (by rw [z]; exact mb)]; exact g1
    · have hxm := List.mem_of_getElem? e2
      rw [upd_ne fun z => h.nl x hxm l hl' (by rw [z]; exact mb)]; exact h.lc x hxm l hl'
  · rw [em]
    rcases mem_setX hx hc with e | ⟨i, e1, e2⟩
    · rw [e] at hl'; exact (hl l hl').2
    · exact h.nl x (List.mem_of_getElem? e2) l hl'
theorem WdAt.newW (h : WdAt H d wl ol Ws Os m) {j : Nat} {c : Wc} {ls : List Lc} {p : Addr} (hc : Ws[j]? = some c) (hp : H p = none) (hl : ∀ l ∈ ls, H l.a = some (.lst [.str (S [l.x]), .int l.n]) ∧ l.a ∉ wdB wl ol Ws Os) :
    WdAt (upd (upd H p (.lst (lcv ls))) wl (.lst (wcv (Ws.set j ⟨p, ls⟩)))) d wl ol (Ws.set j ⟨p, ls⟩) Os m := by
  have hpB := h.fresh hp
  have h1 := h.same (Same.upd (o := HO.lst (lcv ls)) hp)
  have sp := Same.upd (o := HO.lst (lcv ls)) hp
  have hp1 : upd H p (HO.lst (lcv ls)) p = some (HO.lst (lcv ls)) := upd_same
  have hcm := List.mem_of_getElem? hc
  obtain ⟨n1, n2⟩ := List.nodup_cons.mp h.nd
  obtain ⟨n3, n4⟩ := List.nodup_cons.mp n2
  obtain ⟨n5, n6, n7⟩ := List.nodup_append.mp n4
  have mW : ∀ x ∈ Ws, x.a ∈ wdB wl ol Ws Os := fun x hx => List.mem_cons_of_mem _ (List.mem_cons_of_mem _ (List.mem_append_left _ (List.mem_map.mpr ⟨x, hx, rfl⟩)))
  have mO : ∀ x ∈ Os, x.a ∈ wdB wl ol Ws Os := fun x hx => List.mem_cons_of_mem _ (List.mem_cons_of_mem _ (List.mem_append_right _ (List.mem_map.mpr ⟨x, hx, rfl⟩)))
  have nw : ∀ x ∈ Ws, x.a ≠ wl := fun x hx z => n1 (by rw [← z]; exact List.mem_cons_of_mem _ (List.mem_append_left _ (List.mem_map.mpr ⟨x, hx, rfl⟩)))
  have no : ∀ x ∈ Os, x.a ≠ wl := fun x hx z => n1 (by rw [← z]; exact List.mem_cons_of_mem _ (List.mem_append_right _ (List.mem_map.mpr ⟨x, hx, rfl⟩)))
  have nol : ol ≠ wl := fun z => n1 (by rw [← z]; exact List.mem_cons_self)
  have npw : p ≠ wl := fun z => hpB (by rw [z]; exact List.mem_cons_self)
  have ned : d ≠ wl := fun z => by have := h.wd; rw [← z, h.dk] at this; cases this
  have sub : ∀ {a : Addr}, a ∈ wl :: ol :: ((Ws.set j ⟨p, ls⟩).map Wc.a ++ Os.map Oc.a) → a = p ∨ a ∈ wdB wl ol Ws Os := fun {a} ha => by
    rcases List.mem_cons.mp ha with z | z
    · exact .inr (by rw [z]; exact List.mem_cons_self)
    rcases List.mem_cons.mp z with z | z
    · exact .inr (by rw [z]; exact List.mem_cons_of_mem _ List.mem_cons_self)
    rcases List.mem_append.mp z with z | z
    · obtain ⟨x, hx, e⟩ := List.mem_map.mp z
      rcases mem_setX hx hc with g | ⟨i, g1, g2⟩
      · exact .inl (by rw [← e, g])
      · exact .inr (by rw [← e]; exact mW x (List.mem_of_getElem? g2))
    · obtain ⟨x, hx, e⟩ := List.mem_map.mp z
      exact .inr (by rw [← e]; exact mO x hx)
  refine ⟨by rw [upd_ne ned]; exact h1.dk, upd_same, by rw [upd_ne nol]; exact h1.od, fun x hx => ?_, fun x hx l hl' => ?_, fun o ho => by rw [upd_ne (no o ho)]; exact h1.oc o ho, ?_, fun x hx l hl' => ?_⟩
  · rcases mem_setX hx hc with e | ⟨i, e1, e2⟩
    · rw [e, upd_ne npw]; exact hp1
    · rw [upd_ne (nw x (List.mem_of_getElem? e2))]; exact h1.wc x (List.mem_of_getElem? e2)
  · rcases mem_setX hx hc with e | ⟨i, e1, e2⟩
    · rw [e] at hl'
      obtain ⟨g1, g2⟩ := hl l hl'
      rw [upd_ne fun z => g2 (by rw [z]; exact List.mem_cons_self)]; exact sp _ _ g1
    · have hxm := List.mem_of_getElem? e2
      rw [upd_ne fun z => h.nl x hxm l hl' (by rw [z]; exact List.mem_cons_self)]; exact h1.lc x hxm l hl'
  · have npW : p ∉ Ws.map Wc.a := fun z => hpB (List.mem_cons_of_mem _ (List.mem_cons_of_mem _ (List.mem_append_left _ z)))
    have es : (Ws.set j ⟨p, ls⟩).map Wc.a = (Ws.map Wc.a).set j p := by rw [List.map_set]
    have ms : ∀ {a : Addr}, a ∈ (Ws.map Wc.a).set j p → a ∈ Ws.map Wc.a ∨ a = p := fun ha => List.mem_or_eq_of_mem_set ha
    rw [es]
    refine List.nodup_cons.mpr ⟨fun z => ?_, List.nodup_cons.mpr ⟨fun z => ?_, List.nodup_append.mpr ⟨nodup_set n5 npW, n6, fun a ha b hb z => ?_⟩⟩⟩
    · rcases List.mem_cons.mp z with z | z
      · exact nol z.symm
      rcases List.mem_append.mp z with z | z
      · rcases ms z with z | z
        · exact n1 (List.mem_cons_of_mem _ (List.mem_append_left _ z))
        · exact npw z.symm
      · exact n1 (List.mem_cons_of_mem _ (List.mem_append_right _ z))
    · rcases List.mem_append.mp z with z | z
      · rcases ms z with z | z
        · exact n3 (List.mem_append_left _ z)
        · exact hpB (by rw [← z]; exact List.mem_cons_of_mem _ List.mem_cons_self)
      · exact n3 (List.mem_append_right _ z)
    · rcases ms ha with y | y
      · exact n7 a y b hb z
      · exact hpB (by rw [← y, z]; exact List.mem_cons_of_mem _ (List.mem_cons_of_mem _ (List.mem_append_right _ hb)))
  · intro z
    rcases sub z with e | e
    · rcases mem_setX hx hc with g | ⟨i, g1, g2⟩
      · rw [g] at hl'
        have := (hl l hl').1
        rw [e, hp] at this; cases this
      · have := h.lc x (List.mem_of_getElem? g2) l hl'
        rw [e, hp] at this; cases this
    · rcases mem_setX hx hc with g | ⟨i, g1, g2⟩
      · rw [g] at hl'; exact (hl l hl').2 e
      · exact h.nl x (List.mem_of_getElem? g2) l hl' e
theorem WdAt.setM (h : WdAt H d wl ol Ws Os m) (m' : Nat) : WdAt (upd H d (.dK (wdK wl ol m'))) d wl ol Ws Os m' := by
  have ne : ∀ {a : Addr} {xs : List V}, H a = some (.lst xs) → a ≠ d := fun e z => by rw [z, h.dk] at e; cases e
  exact ⟨upd_same, by rw [upd_ne (ne h.wd)]; exact h.wd, by rw [upd_ne (ne h.od)]; exact h.od, fun c hc => by rw [upd_ne (ne (h.wc c hc))]; exact h.wc c hc, fun c hc l hl => by rw [upd_ne (ne (h.lc c hc l hl))]; exact h.lc c hc l hl, fun o ho => by rw [upd_ne (ne (h.oc o ho))]; exact h.oc o ho, h.nd, h.nl⟩
end
theorem wdK_put (wl ol : Addr) (m m' : Nat) : putK (wdK wl ol m) (kS wMany) (V.int (m' : Nat)) = wdK wl ol m' := by
  have n1 : kS wWords ≠ kS wMany := fun z => absurd (kS_inj z) (by decide)
  have n2 : kS wOrders ≠ kS wMany := fun z => absurd (kS_inj z) (by decide)
  unfold putK
  rw [valV_any, if_pos (by rw [wdK_many]; rfl)]
  unfold wdK
  simp only [List.map_cons, List.map_nil, if_neg n1, if_neg n2, if_true]
theorem flat_sgs (l : List Nat) : (sgs l).all flatV = true := by unfold sgs; rw [List.all_map, List.all_eq_true]; intro x _; rfl
theorem flat_ivs (l : List Nat) : (ivs l).all flatV = true := by unfold ivs; rw [List.all_map, List.all_eq_true]; intro x _; rfl
theorem inV_ivs (e : Nat) (l : List Nat) : inV (.int (e : Nat)) (ivs l) = decide (e ∈ l) := by
  have key : ∀ c : Nat, eqV (.int (c : Nat)) (.int (e : Nat)) = decide (c = e) := fun c => by
    show decide ((c : Int) = (e : Int)) = _
    by_cases z : c = e
    · rw [decide_eq_true z, decide_eq_true (by rw [z])]
    · rw [decide_eq_false z, decide_eq_false (by omega)]
  unfold inV ivs
  rw [List.any_map]
  induction l with
  | nil => rfl
  | cons c l ih =>
    rw [List.any_cons, ih]
    show (eqV (.int (c : Nat)) (.int (e : Nat)) || _) = _
    rw [key]
    by_cases z : c = e
    · rw [decide_eq_true z, Bool.true_or, decide_eq_true (show e ∈ c :: l by rw [z]; exact List.mem_cons_self)]
    · rw [decide_eq_false z, Bool.false_or]
      by_cases y : e ∈ l
      · rw [decide_eq_true y, decide_eq_true (List.mem_cons_of_mem _ y)]
      · rw [decide_eq_false y, decide_eq_false fun g => (List.mem_cons.mp g).elim (fun g => z g.symm) y]
theorem erase_map {α β : Type} (f : α → β) : ∀ (l : List α) (i : Nat), (l.map f).eraseIdx i = (l.eraseIdx i).map f
  | [], _ => rfl
  | _ :: _, 0 => rfl
  | x :: l, i + 1 => by show f x :: (l.map f).eraseIdx i = f x :: (l.eraseIdx i).map f; rw [erase_map f l i]
theorem ivs_swap (k : Nat) (o : List Nat) (h : k + 1 < o.length) : ((ivs o).eraseIdx (k + 1)).take k ++ V.int (o[k + 1] : Nat) :: ((ivs o).eraseIdx (k + 1)).drop k = ivs (swapN k o) := by
  unfold swapN ivs
  have e : o.getD (k + 1) 0 = o[k + 1] := getD_of (List.getElem?_eq_getElem h)
  rw [e, List.map_append, List.map_cons, List.map_take, List.map_drop, erase_map]
theorem lcv_drop (ls : List Lc) (k : Nat) : (lcv ls).drop k = lcv (ls.drop k) := by unfold lcv; rw [List.map_drop]
theorem lcv_take (ls : List Lc) (k : Nat) : (lcv ls).take k = lcv (ls.take k) := by unfold lcv; rw [List.map_take]
theorem lcv_app (a b : List Lc) : lcv a ++ lcv b = lcv (a ++ b) := by unfold lcv; rw [List.map_append]
theorem cutV_one (xs : List V) : cutV xs (some 1) none = xs.drop 1 := cut_from xs 1
theorem cutV_one' (xs : List V) : cutV xs none (some 1) = xs.take 1 := cut_to xs 1
theorem rem_at : ∀ {ns : List Nat} {n : Nat}, n ∈ ns → ns.Nodup → ∃ j, ns[j]? = some n ∧ (∀ m e, m < j → ns[m]? = some e → e ≠ n) ∧ ns.eraseIdx j = ns.filter fun x => decide (x ≠ n)
  | a :: ns, n, h, nd => by
    obtain ⟨h1, h2⟩ := List.nodup_cons.mp nd
    by_cases z : a = n
    · refine ⟨0, by rw [z]; rfl, fun m e hm => by omega, ?_⟩
      rw [List.filter_cons_of_neg (by rw [z]; simp)]
      show ns = _
      refine (List.filter_eq_self.mpr fun x hx => ?_).symm
      simp only [ne_eq, decide_not, Bool.not_eq_true', decide_eq_false_iff_not]
      exact fun g => h1 (by rw [z, ← g]; exact hx)
    · obtain ⟨j, g1, g2, g3⟩ := rem_at ((List.mem_cons.mp h).resolve_left fun g => z g.symm) h2
      refine ⟨j + 1, by simpa using g1, fun m e hm he => ?_, ?_⟩
      · cases m with
        | zero => have : a = e := by simpa using he
                  rw [← this]; exact z
        | succ m => exact g2 m e (by omega) (by simpa using he)
      · rw [List.filter_cons_of_pos (by simpa using z), ← g3]; rfl
theorem ids_at {ns : List Nat} {i : Nat} {e : PyData} (h : (ids ns)[i]? = some e) : ∃ n, ns[i]? = some n ∧ e = PyData.int n := by
  unfold ids at h
  rw [List.getElem?_map] at h
  cases g : ns[i]? with
  | none => rw [g] at h; cases h
  | some n => rw [g] at h; cases h; exact ⟨n, rfl, rfl⟩
theorem filt_none {ns : List Nat} {n : Nat} (h : n ∉ ns) : (ns.filter fun x => decide (x ≠ n)) = ns := List.filter_eq_self.mpr fun x hx => by
  simp only [ne_eq, decide_not, Bool.not_eq_true', decide_eq_false_iff_not]
  exact fun g => h (by rw [← g]; exact hx)
noncomputable def oF (P : Nat → Bool) (Os : List Oc) : List Oc := Os.map fun o => ⟨o.a, o.ns.filter P⟩
theorem oF_at {P : Nat → Bool} {Os : List Oc} {j : Nat} {o : Oc} (h : Os[j]? = some o) : (oF P Os)[j]? = some ⟨o.a, o.ns.filter P⟩ := by unfold oF; rw [List.getElem?_map, h]; rfl
theorem oF_len (P : Nat → Bool) (Os : List Oc) : (oF P Os).length = Os.length := by unfold oF; rw [List.length_map]
theorem oF_a (P : Nat → Bool) (Os : List Oc) : (oF P Os).map Oc.a = Os.map Oc.a := by unfold oF; rw [List.map_map]; rfl
theorem oF_v (P : Nat → Bool) (Os : List Oc) : ocv (oF P Os) = ocv Os := by unfold oF ocv; rw [List.map_map]; rfl
theorem oF_true (Os : List Oc) : oF (fun _ => true) Os = Os := by
  unfold oF
  have : ∀ o : Oc, (⟨o.a, o.ns.filter fun _ => true⟩ : Oc) = o := fun o => by rw [List.filter_eq_self.mpr fun _ _ => rfl]
  rw [List.map_congr_left fun o _ => this o, List.map_id']
theorem take_drop_set {α : Type} {a b : List α} {j : Nat} {x : α} (hb : j < b.length) (ha : a[j]? = some x) : (a.take j ++ b.drop j).set j x = a.take (j + 1) ++ b.drop (j + 1) := by
  have hj := (List.getElem?_eq_some_iff.mp ha).1
  have hl : (a.take j).length = j := by rw [List.length_take]; omega
  rw [List.set_append_right _ _ (by omega), hl, Nat.sub_self, List.drop_eq_getElem_cons hb, List.set_cons_zero, List.take_succ, ha]
  simp
theorem mix_at {α : Type} {a b : List α} {j : Nat} {x : α} (ha : j ≤ a.length) (hb : b[j]? = some x) : (a.take j ++ b.drop j)[j]? = some x := by
  have hl : (a.take j).length = j := by rw [List.length_take]; omega
  rw [List.getElem?_append_right (by omega), hl, Nat.sub_self, List.getElem?_drop, Nat.add_zero]
  exact hb
theorem mix_v {P P' : Nat → Bool} (Os : List Oc) (j : Nat) : ocv ((oF P Os).take j ++ (oF P' Os).drop j) = ocv Os := by
  have e : ∀ a b : List Oc, ocv (a ++ b) = ocv a ++ ocv b := fun a b => by unfold ocv; rw [List.map_append]
  have e1 : ∀ a : List Oc, ocv (a.take j) = (ocv a).take j := fun a => by unfold ocv; rw [List.map_take]
  have e2 : ∀ a : List Oc, ocv (a.drop j) = (ocv a).drop j := fun a => by unfold ocv; rw [List.map_drop]
  rw [e, e1, e2, oF_v, oF_v, List.take_append_drop]
noncomputable def keepN (ls : List Lc) (k i n : Nat) : Bool := decide (n ∉ ((ls.drop k).take i).map Lc.n)
theorem keepN_zero (ls : List Lc) (k : Nat) : keepN ls k 0 = fun _ => true := by funext n; unfold keepN; simp
theorem keepN_succ {ls : List Lc} {k i : Nat} {l : Lc} (h : ls[k + i]? = some l) (n : Nat) : keepN ls k (i + 1) n = (keepN ls k i n && decide (n ≠ l.n)) := by
  have e : (ls.drop k).take (i + 1) = (ls.drop k).take i ++ [l] := by rw [List.take_succ, List.getElem?_drop, h]; rfl
  unfold keepN
  rw [e, List.map_append]
  by_cases z : n ∈ ((ls.drop k).take i).map Lc.n
  · simp [z]
  · by_cases y : n = l.n
    · simp [y]
    · simp [z, y]
theorem set_set {α : Type} (l : List α) (i : Nat) (a b : α) : (l.set i a).set i b = l.set i b := by
  induction l generalizing i with
  | nil => rfl
  | cons x l ih => cases i with
    | zero => rfl
    | succ i => show x :: (l.set i a).set i b = x :: l.set i b; rw [ih]
theorem pop_out {ls : List Lc} {k i : Nat} {l : Lc} (h : ls[k + i]? = some l) : (ls.take k ++ ls.drop (k + i))[k]? = some l ∧ (ls.take k ++ ls.drop (k + i)).eraseIdx k = ls.take k ++ ls.drop (k + (i + 1)) := by
  have hk := (List.getElem?_eq_some_iff.mp h).1
  have hl : (ls.take k).length = k := by rw [List.length_take]; omega
  constructor
  · rw [List.getElem?_append_right (by omega), hl, Nat.sub_self, List.getElem?_drop, Nat.add_zero]; exact h
  · rw [List.eraseIdx_append_of_length_le (by omega), hl, Nat.sub_self, List.drop_eq_getElem_cons hk]
    rfl
theorem eqv_int_self (n : Nat) : PyData.eqv (.int (n : Nat)) (.int (n : Nat)) = true := by
  show decide ((n : Int) = (n : Int)) = true
  exact decide_eq_true rfl
theorem eqv_int_ne {a b : Nat} (h : a ≠ b) : PyData.eqv (.int (a : Nat)) (.int (b : Nat)) = false := by
  show decide ((a : Int) = (b : Int)) = false
  exact decide_eq_false (by omega)
theorem ins_mid {α : Type} (A N B : List α) (x : α) {p : Nat} (h : A.length + N.length = p) : (A ++ N ++ B).take p ++ x :: (A ++ N ++ B).drop p = A ++ (N ++ [x]) ++ B := by
  have hl : (A ++ N).length = p := by rw [List.length_append]; exact h
  rw [List.take_append_of_le_length (by omega), List.take_of_length_le (by omega), List.drop_append_of_le_length (by omega), List.drop_of_length_le (by omega)]
  simp
theorem lcv_ins (A N B : List Lc) (l : Lc) {p : Nat} (h : A.length + N.length = p) : (lcv (A ++ N ++ B)).take p ++ V.ref l.a :: (lcv (A ++ N ++ B)).drop p = lcv (A ++ (N ++ [l]) ++ B) := by
  rw [← ins_mid A N B l h]
  unfold lcv
  generalize A ++ N ++ B = Z
  rw [List.map_append, List.map_cons, List.map_take, List.map_drop]
theorem ivs_ins (A N B : List Nat) (l : Nat) {p : Nat} (h : A.length + N.length = p) : (ivs (A ++ N ++ B)).take p ++ V.int (l : Nat) :: (ivs (A ++ N ++ B)).drop p = ivs (A ++ (N ++ [l]) ++ B) := by
  rw [← ins_mid A N B l h]
  unfold ivs
  generalize A ++ N ++ B = Z
  rw [List.map_append, List.map_cons, List.map_take, List.map_drop]
noncomputable def drD (ws : List (List Nat)) (L : Ords) : PyData := .tuple [.tuple (tds ws), .tuple (L.map fun l => .tuple (l.map prD))]
theorem od_data (os : List Od) : os.map odD = (os.map prs).map fun l => PyData.tuple (l.map prD) := by rw [List.map_map]; rfl
theorem rd_dr {K : PySem.W.Frag} {H : Hp} {dr : Addr} {ws : List (List Nat)} {os : List Od} (h : DrAt H dr ws os) : RdD K H (.ref dr) (drD ws (os.map prs)) := by
  obtain ⟨⟨wt, ot, h1, h2, h3⟩, hO⟩ := h
  unfold drD
  rw [← od_data]
  exact .tup (SqT.of h1) (.cons (.tup (SqT.of h2) (rdds_txs _)) (.cons (.tup (SqT.of h3) (rdds_ods hO)) .nil))
theorem sm_dr2 {y : List Nat} {H : Hp} {dr : Addr} {ws : List (List Nat)} {os : List Od} (hy : Yd y) (hz : y.length ≤ 8) (h : DrAt H dr ws os) (g : Good y ws (os.map prs)) : SmD 40 100000 (drD ws (os.map prs)) := by
  unfold drD
  rw [← od_data]
  have hbl := bsOf_len hy
  have hl := g.ln
  rw [List.length_map] at hl
  exact sm_dr (fun w hw => ⟨fun c hc => (hy.lt c ((g.all12 w hw).1 c hc)).lt, (g.all12 w hw).2⟩) g.few h.od (by omega)
theorem dict_ls : ∀ L : Ords, PyData.hasDictAll (L.map fun l => PyData.tuple (l.map prD)) = false
  | [] => rfl
  | l :: L => by show (PyData.hasDictAll (l.map prD) || PyData.hasDictAll (L.map _)) = false; rw [dict_prs l, dict_ls L]; rfl
theorem dict_tds : ∀ ws : List (List Nat), PyData.hasDictAll (tds ws) = false
  | [] => rfl
  | w :: ws => by show (PyData.hasDict (.str _) || PyData.hasDictAll (tds ws)) = false; rw [dict_tds ws]; rfl
theorem dict_dr (ws : List (List Nat)) (L : Ords) : (drD ws L).hasDict = false := by
  show (PyData.hasDictAll (tds ws) || (PyData.hasDictAll (L.map _) || false)) = false
  rw [dict_tds, dict_ls]; rfl
theorem DrAt.ts2 {H H' : Hp} {dr : Addr} {ws : List (List Nat)} {os : List Od} (h : DrAt H dr ws os) (s : TSame H H') : DrAt H' dr ws os := by
  obtain ⟨⟨wt, ot, h1, h2, h3⟩, g⟩ := h
  exact ⟨⟨wt, ot, s _ _ h1, s _ _ h2, s _ _ h3⟩, fun o ho => (g o ho).ts s⟩
noncomputable def deD : Deed → PyData
  | .swap b n => .tuple [.str (S wSwap), .str (S [b]), .int n]
  | .out c k => .tuple [.str (S wOut), .int c, .int k]
  | .turn c => .tuple [.str (S wTurn), .int c]
  | .ins c k x n => .tuple [.str (S wIn), .int c, .int k, .str (S [x]), .int n]
noncomputable def DeLt : Deed → Prop
  | .swap b _ => b < 128
  | .ins _ _ x _ => x < 128
  | _ => True
theorem Dok.lt {y : List Nat} {ws : List (List Nat)} {L : Ords} {e : Deed} (hy : Yd y) (h : Dok y (bsOf y) ws L e) : DeLt e := by
  cases e with
  | swap b n => exact Lt.lt (Or.inl (bs_small hy h.1))
  | out c k => trivial
  | turn c => trivial
  | ins c k x n => exact (hy.lt x h.2.2.2.1).lt
theorem rd_de {K : PySem.W.Frag} {H : Hp} {a : Addr} {e : Deed} (h : DeedAt H a e) : RdD K H (.ref a) (deD e) := by
  cases e with
  | swap b n => exact .tup (SqT.of h) (.cons (.str _) (.cons (.str _) (.cons (.int _) .nil)))
  | out c k => exact .tup (SqT.of h) (.cons (.str _) (.cons (.int _) (.cons (.int _) .nil)))
  | turn c => exact .tup (SqT.of h) (.cons (.str _) (.cons (.int _) .nil))
  | ins c k x n => exact .tup (SqT.of h) (.cons (.str _) (.cons (.int _) (.cons (.int _) (.cons (.str _) (.cons (.int _) .nil)))))
theorem rdds_de {K : PySem.W.Frag} {H : Hp} : ∀ {ds : List Dd}, (∀ x ∈ ds, DeedAt H x.a x.e) → RdDs K H (ddv ds) (ds.map fun x => deD x.e)
  | [], _ => .nil
  | x :: ds, h => .cons (rd_de (h x List.mem_cons_self)) (rdds_de fun q hq => h q (List.mem_cons_of_mem _ hq))
theorem lay_de : ∀ {ds : List Dd}, (∀ x ∈ ds, DeLt x.e) → PyData.canLayAll0 (ds.map fun x => deD x.e) = true
  | [], _ => rfl
  | x :: ds, h => by
    show (PyData.canLay0 (deD x.e) && PyData.canLayAll0 (ds.map fun x => deD x.e)) = true
    rw [lay_de fun q hq => h q (List.mem_cons_of_mem _ hq), Bool.and_true]
    have hx := h x List.mem_cons_self
    have ls : ∀ {l : List Nat}, (∀ c ∈ l, c < 128) → PyData.canLay0 (.str (S l)) = true := fun {l} hc => by
      have := lay_txs (ws := [l]) fun l' hl z hz => by rw [List.mem_singleton.mp hl] at hz; exact hc z hz
      exact (Bool.and_eq_true_iff.mp this).1
    have one : ∀ {c : Nat}, c < 128 → ∀ z ∈ [c], z < 128 := fun hc z hz => by rw [List.mem_singleton.mp hz]; exact hc
    cases e : x.e with
    | swap b n =>
      rw [e] at hx
      show (PyData.canLay0 (.str (S wSwap)) && (PyData.canLay0 (.str (S [b])) && (PyData.canLay0 (.int n) && true))) = true
      rw [ls (one hx), ls (l := wSwap) (by decide)]; rfl
    | out c k =>
      show (PyData.canLay0 (.str (S wOut)) && (PyData.canLay0 (.int c) && (PyData.canLay0 (.int k) && true))) = true
      rw [ls (l := wOut) (by decide)]; rfl
    | turn c =>
      show (PyData.canLay0 (.str (S wTurn)) && (PyData.canLay0 (.int c) && true)) = true
      rw [ls (l := wTurn) (by decide)]; rfl
    | ins c k x n =>
      rw [e] at hx
      show (PyData.canLay0 (.str (S wIn)) && (PyData.canLay0 (.int c) && (PyData.canLay0 (.int k) && (PyData.canLay0 (.str (S [x])) && (PyData.canLay0 (.int n) && true))))) = true
      rw [ls (one hx), ls (l := wIn) (by decide)]; rfl
theorem dep_de : ∀ ds : List Dd, PyData.depthAll (ds.map fun x => deD x.e) ≤ 1
  | [] => Nat.zero_le _
  | x :: ds => by
    show max (PyData.depth (deD x.e)) (PyData.depthAll (ds.map fun x => deD x.e)) ≤ 1
    have h1 := dep_de ds
    have h2 : PyData.depth (deD x.e) ≤ 1 := by cases x.e <;> exact Nat.le_of_ble_eq_true rfl
    exact Nat.max_le.mpr ⟨h2, h1⟩
theorem dict_de : ∀ ds : List Dd, PyData.hasDictAll (ds.map fun x => deD x.e) = false
  | [] => rfl
  | x :: ds => by
    show (PyData.hasDict (deD x.e) || PyData.hasDictAll (ds.map fun x => deD x.e)) = false
    rw [dict_de ds]
    cases x.e <;> rfl
theorem path_snoc {y : List Nat} {e : Deed} : ∀ {es : List Deed} {ws : List (List Nat)} {L : Ords}, Path y ws L es → Dok y (bsOf y) (runD y ws L es).1 (runD y ws L es).2 e → Path y ws L (es ++ [e])
  | [], _, _, _, h => ⟨h, trivial⟩
  | _ :: _, _, _, ⟨h1, h2⟩, h => ⟨h1, path_snoc h2 h⟩
theorem run_snoc {y : List Nat} {e : Deed} : ∀ {es : List Deed} {ws : List (List Nat)} {L : Ords}, runD y ws L (es ++ [e]) = (dW (runD y ws L es).1 e, dO (bsOf y) (runD y ws L es).1 (runD y ws L es).2 e)
  | [], _, _ => rfl
  | _ :: es, _, _ => run_snoc (es := es)
theorem ddv_snoc (ds : List Dd) (x : Dd) : ddv ds ++ [V.ref x.a] = ddv (ds ++ [x]) := by unfold ddv; rw [List.map_append]; rfl
theorem WdAt.ne_dd {H : Hp} {d wl ol : Addr} {Ws : List Wc} {Os : List Oc} {m : Nat} {p : Addr} {ds : List Dd} (h : WdAt H d wl ol Ws Os m) (hp : H p = some (.lst (ddv ds))) : ∀ c ∈ Ws, ∀ l ∈ c.ls, l.a ≠ p := fun c hc l hl z => by
  have := h.lc c hc l hl
  rw [z, hp] at this
  cases ds with
  | nil => cases this
  | cons x t => cases this
theorem WdAt.other {H : Hp} {d wl ol : Addr} {Ws : List Wc} {Os : List Oc} {m : Nat} {p : Addr} {o : HO} (h : WdAt H d wl ol Ws Os m) (hp : p ∉ wdA d wl ol Ws Os) (hl : ∀ c ∈ Ws, ∀ l ∈ c.ls, l.a ≠ p) : WdAt (upd H p o) d wl ol Ws Os m := by
  have ne : ∀ {a : Addr}, a ∈ wdA d wl ol Ws Os → a ≠ p := fun ha z => hp (by rw [← z]; exact ha)
  have mW : ∀ c ∈ Ws, c.a ∈ wdA d wl ol Ws Os := fun c hc => List.mem_cons_of_mem _ (List.mem_cons_of_mem _ (List.mem_cons_of_mem _ (List.mem_append_left _ (List.mem_map.mpr ⟨c, hc, rfl⟩))))
  have mO : ∀ c ∈ Os, c.a ∈ wdA d wl ol Ws Os := fun c hc => List.mem_cons_of_mem _ (List.mem_cons_of_mem _ (List.mem_cons_of_mem _ (List.mem_append_right _ (List.mem_map.mpr ⟨c, hc, rfl⟩))))
  exact ⟨by rw [upd_ne (ne List.mem_cons_self)]; exact h.dk, by rw [upd_ne (ne (List.mem_cons_of_mem _ List.mem_cons_self))]; exact h.wd, by rw [upd_ne (ne (List.mem_cons_of_mem _ (List.mem_cons_of_mem _ List.mem_cons_self)))]; exact h.od, fun c hc => by rw [upd_ne (ne (mW c hc))]; exact h.wc c hc, fun c hc l hl' => by rw [upd_ne (hl c hc l hl')]; exact h.lc c hc l hl', fun c hc => by rw [upd_ne (ne (mO c hc))]; exact h.oc c hc, h.nd, h.nl⟩
theorem WdAt.tup {H : Hp} {d wl ol : Addr} {Ws : List Wc} {Os : List Oc} {m : Nat} {p : Addr} {xs : List V} (h : WdAt H d wl ol Ws Os m) (hp : H p = some (.tup xs)) : p ∉ wdA d wl ol Ws Os := fun z => by
  rcases List.mem_cons.mp z with e | e
  · rw [e, h.dk] at hp; cases hp
  · obtain ⟨ys, g⟩ := h.live (show p ∈ wdB wl ol Ws Os from e)
    rw [hp] at g; cases g
noncomputable def top (i : Nat) : Stmt := PySem.Challenge.pw_mustmeet_k20_deeds_done.main.body.getD i (.Pass ⟨0, 0, 0, 0⟩)
noncomputable abbrev s_contrary : Stmt := top 4
noncomputable abbrev s_bands : Stmt := top 6
noncomputable abbrev s_renumber : Stmt := top 8
noncomputable abbrev s_do_swap : Stmt := top 9
noncomputable abbrev s_do_out : Stmt := top 10
noncomputable abbrev s_do_in : Stmt := top 11
noncomputable abbrev s_do_turn : Stmt := top 12
noncomputable abbrev s_do_deed : Stmt := top 13
noncomputable abbrev s_done : Stmt := top 14
noncomputable abbrev s_Lbox : Stmt := top 16
noncomputable abbrev s_Ltake : Stmt := top 17
noncomputable abbrev s_Lother : Stmt := top 18
noncomputable abbrev s_Lyard : Stmt := top 19
noncomputable abbrev s_Lword : Stmt := top 20
noncomputable abbrev s_Lorder : Stmt := top 21
noncomputable abbrev s_Lbands : Stmt := top 22
noncomputable abbrev s_Ldrawing : Stmt := top 23
noncomputable abbrev s_Lwords : Stmt := top 24
noncomputable abbrev s_Lopened : Stmt := top 25
noncomputable abbrev s_Lshut : Stmt := top 26
noncomputable abbrev s_Ldoes : Stmt := top 27
noncomputable abbrev s_Ldeed : Stmt := top 28
noncomputable abbrev s_law : Stmt := top 29
structure FunAt (K : PySem.W.Frag) (mg : Str → Option Value) (x : Str) (st : Stmt) (ps : List Str) (f : Addr) (fd : FuncData) : Prop where
  fn : Fun K x x st f fd
  mg : mg x = some (.ref f)
  bd : Binds K fd ps []
structure Txt (K : PySem.W.Frag) (mg : Str → Option Value) (f0 f1 f2 f3 f4 f5 f6 f7 f8 f9 f10 f11 f12 f13 f14 f15 f16 f17 f18 f19 f20 f21 f22 : Addr) (d0 d1 d2 d3 d4 d5 d6 d7 d8 d9 d10 d11 d12 d13 d14 d15 d16 d17 d18 d19 d20 d21 d22 : FuncData) : Prop where
  F0 : FunAt K mg "contrary" s_contrary ["letter"] f0 d0
  F1 : FunAt K mg "bands" s_bands ["yard"] f1 d1
  F2 : FunAt K mg "renumber" s_renumber ["orders", "cord", "places"] f2 d2
  F3 : FunAt K mg "do_swap" s_do_swap ["orders", "band", "number"] f3 d3
  F4 : FunAt K mg "do_out" s_do_out ["words", "orders", "cord", "place"] f4 d4
  F5 : FunAt K mg "do_in" s_do_in ["words", "orders", "cord", "place", "letter", "number"] f5 d5
  F6 : FunAt K mg "do_turn" s_do_turn ["words", "orders", "cord"] f6 d6
  F7 : FunAt K mg "do_deed" s_do_deed ["yard", "words", "orders", "deed"] f7 d7
  F8 : FunAt K mg "done" s_done ["yard", "drawing", "deeds"] f8 d8
  F9 : FunAt K mg "_law_box" s_Lbox ["_law_script", "_law_k"] f9 d9
  F10 : FunAt K mg "_law_take" s_Ltake ["_law_box_here", "_law_many"] f10 d10
  F11 : FunAt K mg "_law_other" s_Lother ["_law_letter"] f11 d11
  F12 : FunAt K mg "_law_yard" s_Lyard ["_law_box_here", "_law_few", "_law_top"] f12 d12
  F13 : FunAt K mg "_law_word" s_Lword ["_law_box_here", "_law_yard_here", "_law_top"] f13 d13
  F14 : FunAt K mg "_law_order" s_Lorder ["_law_box_here", "_law_things"] f14 d14
  F15 : FunAt K mg "_law_bands" s_Lbands ["_law_yard_here"] f15 d15
  F16 : FunAt K mg "_law_drawing" s_Ldrawing ["_law_box_here", "_law_yard_here", "_law_words_here"] f16 d16
  F17 : FunAt K mg "_law_words" s_Lwords ["_law_box_here", "_law_yard_here"] f17 d17
  F18 : FunAt K mg "_law_opened" s_Lopened ["_law_drawing_here"] f18 d18
  F19 : FunAt K mg "_law_shut" s_Lshut ["_law_world"] f19 d19
  F20 : FunAt K mg "_law_does" s_Ldoes ["_law_yard_here", "_law_world", "_law_deed_here"] f20 d20
  F21 : FunAt K mg "_law_deed" s_Ldeed ["_law_box_here", "_law_yard_here", "_law_drawing_here"] f21 d21
  F22 : FunAt K mg "law" s_law ["_law_script"] f22 d22
  z_enumerate : mg "enumerate" = none
  z_int : mg "int" = none
  z_len : mg "len" = none
  z_list : mg "list" = none
  z_max : mg "max" = none
  z_min : mg "min" = none
  z_range : mg "range" = none
  z_repr : mg "repr" = none
  z_sorted : mg "sorted" = none
  z_tuple : mg "tuple" = none
  z_zip : mg "zip" = none
theorem sc_contrary : FnScope ["letter"] ["letter"] (defScope s_contrary) := ⟨rfl, rfl, rfl, by decide +kernel, rfl, by decide +kernel, by decide +kernel⟩
theorem sc_bands : FnScope ["yard"] ["yard"] (defScope s_bands) := ⟨rfl, rfl, rfl, by decide +kernel, rfl, by decide +kernel, by decide +kernel⟩
theorem sc_renumber : FnScope ["orders", "cord", "places", "band", "kept", "strand"] ["orders", "cord", "places"] (defScope s_renumber) := ⟨rfl, rfl, rfl, by decide +kernel, rfl, by decide +kernel, by decide +kernel⟩
theorem sc_do_swap : FnScope ["orders", "band", "number", "order", "strand"] ["orders", "band", "number"] (defScope s_do_swap) := ⟨rfl, rfl, rfl, by decide +kernel, rfl, by decide +kernel, by decide +kernel⟩
theorem sc_do_out : FnScope ["words", "orders", "cord", "place", "word"] ["words", "orders", "cord", "place"] (defScope s_do_out) := ⟨rfl, rfl, rfl, by decide +kernel, rfl, by decide +kernel, by decide +kernel⟩
theorem sc_do_in : FnScope ["words", "orders", "cord", "place", "letter", "number", "word", "order"] ["words", "orders", "cord", "place", "letter", "number"] (defScope s_do_in) := ⟨rfl, rfl, rfl, by decide +kernel, rfl, by decide +kernel, by decide +kernel⟩
theorem sc_do_turn : FnScope ["words", "orders", "cord", "word"] ["words", "orders", "cord"] (defScope s_do_turn) := ⟨rfl, rfl, rfl, by decide +kernel, rfl, by decide +kernel, by decide +kernel⟩
theorem sc_do_deed : FnScope ["yard", "words", "orders", "deed"] ["yard", "words", "orders", "deed"] (defScope s_do_deed) := ⟨rfl, rfl, rfl, by decide +kernel, rfl, by decide +kernel, by decide +kernel⟩
theorem sc_done : FnScope ["yard", "drawing", "deeds", "words", "orders", "band", "order", "number", "deed"] ["yard", "drawing", "deeds"] (defScope s_done) := ⟨rfl, rfl, rfl, by decide +kernel, rfl, by decide +kernel, by decide +kernel⟩
theorem sc_Lbox : FnScope ["_law_script", "_law_k", "_law_cell", "_law_seed"] ["_law_script", "_law_k"] (defScope s_Lbox) := ⟨rfl, rfl, rfl, by decide +kernel, rfl, by decide +kernel, by decide +kernel⟩
theorem sc_Ltake : FnScope ["_law_box_here", "_law_many", "_law_digit", "_law_one"] ["_law_box_here", "_law_many"] (defScope s_Ltake) := ⟨rfl, rfl, rfl, by decide +kernel, rfl, by decide +kernel, by decide +kernel⟩
theorem sc_Lother : FnScope ["_law_letter", "_law_small", "_law_capital"] ["_law_letter"] (defScope s_Lother) := ⟨rfl, rfl, rfl, by decide +kernel, rfl, by decide +kernel, by decide +kernel⟩
theorem sc_Lyard : FnScope ["_law_box_here", "_law_few", "_law_top", "_law_left", "_law_ends", "_law_k", "_law_letter", "_law_found"] ["_law_box_here", "_law_few", "_law_top"] (defScope s_Lyard) := ⟨rfl, rfl, rfl, by decide +kernel, rfl, by decide +kernel, by decide +kernel⟩
theorem sc_Lword : FnScope ["_law_box_here", "_law_yard_here", "_law_top"] ["_law_box_here", "_law_yard_here", "_law_top"] (defScope s_Lword) := ⟨rfl, rfl, rfl, by decide +kernel, rfl, by decide +kernel, by decide +kernel⟩
theorem sc_Lorder : FnScope ["_law_box_here", "_law_things", "_law_left", "_law_found"] ["_law_box_here", "_law_things"] (defScope s_Lorder) := ⟨rfl, rfl, rfl, by decide +kernel, rfl, by decide +kernel, by decide +kernel⟩
theorem sc_Lbands : FnScope ["_law_yard_here"] ["_law_yard_here"] (defScope s_Lbands) := ⟨rfl, rfl, rfl, by decide +kernel, rfl, by decide +kernel, by decide +kernel⟩
theorem sc_Ldrawing : FnScope ["_law_box_here", "_law_yard_here", "_law_words_here", "_law_orders", "_law_band", "_law_some", "_law_c", "_law_word_here"] ["_law_box_here", "_law_yard_here", "_law_words_here"] (defScope s_Ldrawing) := ⟨rfl, rfl, rfl, by decide +kernel, rfl, by decide +kernel, by decide +kernel⟩
theorem sc_Lwords : FnScope ["_law_box_here", "_law_yard_here", "_law_left", "_law_found", "_law_k", "_law_word_here"] ["_law_box_here", "_law_yard_here"] (defScope s_Lwords) := ⟨rfl, rfl, rfl, by decide +kernel, rfl, by decide +kernel, by decide +kernel⟩
theorem sc_Lopened : FnScope ["_law_drawing_here", "_law_number", "_law_words_here", "_law_c", "_law_word_here", "_law_i", "_law_letter"] ["_law_drawing_here"] (defScope s_Lopened) := ⟨rfl, rfl, rfl, by decide +kernel, rfl, by decide +kernel, by decide +kernel⟩
theorem sc_Lshut : FnScope ["_law_world", "_law_strand", "_law_c", "_law_word_here", "_law_i", "_law_letter", "_law_number", "_law_words_here"] ["_law_world"] (defScope s_Lshut) := ⟨rfl, rfl, rfl, by decide +kernel, rfl, by decide +kernel, by decide +kernel⟩
theorem sc_Ldoes : FnScope ["_law_yard_here", "_law_world", "_law_deed_here", "_law_names", "_law_words_here", "_law_orders", "_law_order_here", "_law_word_here", "_law_turn", "_law_number", "_law_step", "_law_letter"] ["_law_yard_here", "_law_world", "_law_deed_here"] (defScope s_Ldoes) := ⟨rfl, rfl, rfl, by decide +kernel, rfl, by decide +kernel, by decide +kernel⟩
theorem sc_Ldeed : FnScope ["_law_box_here", "_law_yard_here", "_law_drawing_here", "_law_words_here", "_law_orders", "_law_form", "_law_names", "_law_c", "_law_some", "_law_d", "_law_word_here", "_law_x", "_law_k", "_law_wide"] ["_law_box_here", "_law_yard_here", "_law_drawing_here"] (defScope s_Ldeed) := ⟨rfl, rfl, rfl, by decide +kernel, rfl, by decide +kernel, by decide +kernel⟩
theorem sc_law : FnScope ["_law_script", "_law_box_here", "_law_yard_here", "_law_first", "_law_world", "_law_here", "_law_deeds", "_law_k", "_law_deed_here", "_law_due", "_law_kept"] ["_law_script"] (defScope s_law) := ⟨rfl, rfl, rfl, by decide +kernel, rfl, by decide +kernel, by decide +kernel⟩
section
variable {P : Program} {w : World} {K : PySem.W.Frag} {mg : Str → Option Value} {base : Heap} {f0 f1 f2 f3 f4 f5 f6 f7 f8 f9 f10 f11 f12 f13 f14 f15 f16 f17 f18 f19 f20 f21 f22 : Addr} {d0 d1 d2 d3 d4 d5 d6 d7 d8 d9 d10 d11 d12 d13 d14 d15 d16 d17 d18 d19 d20 d21 d22 : FuncData}
theorem ok_Ltake (T : Txt K mg f0 f1 f2 f3 f4 f5 f6 f7 f8 f9 f10 f11 f12 f13 f14 f15 f16 f17 f18 f19 f20 f21 f22 d0 d1 d2 d3 d4 d5 d6 d7 d8 d9 d10 d11 d12 d13 d14 d15 d16 d17 d18 d19 d20 d21 d22) : FnOk P w K mg base CX0 1 f10 d10 ["_law_box_here", "_law_many"] (sp_Ltake K) := by
  refine T.F10.fn.ok sc_Ltake (fun vs H Q E h => len_Ltake h) (fun cdv A outer s H vs Q E hr h => ?_)
  refine ⟨_, (pss_cons (ps_if (pt_cmpR op_gt (pe_ix (ix_listK K rfl) (pv 0) pe_int (fun _ _ => rfl)) pe_int (nomark _)) (pss_cons (ps_set (i := 2) sc_Ltake.nd rfl (Or.inl rfl) (pe_op op_mod (pe_ix (ix_listK K rfl) (pv 0) pe_int (fun _ _ => rfl)) (pv 1)))
      (pss_cons (ps_asg (pe_op op_fdiv (pe_ix (ix_listK K rfl) (pv 0) pe_int (fun _ _ => rfl)) (pv 1)) (pg_sub (pv 0) pe_int set_list))
      (pss_one (ps_ret (pv 2))))) pss_nil)
      (pss_cons (ps_set (i := 3) sc_Ltake.nd rfl (Or.inl rfl) (pe_op op_mod (pe_op op_mul (pe_ix (ix_listK K rfl) (pv 0) pe_int (fun _ _ => rfl)) pe_int) pe_int))
      (pss_cons (ps_asg (pe_op op_add (pe_op op_mod (pe_op op_add (pe_op op_mul (pv 3) pe_int) pe_int) pe_int) pe_int) (pg_sub (pv 0) pe_int set_list))
      (pss_one (ps_ret (pe_op op_mod (pe_op op_fdiv (pe_op op_add (pe_op op_mul (pv 3) pe_int) (pe_ix (ix_listK K rfl) (pv 0) pe_int (fun _ _ => rfl))) pe_int) (pv 1))))))), ?_⟩
  obtain ⟨b, m, rfl, ⟨x, y, hb⟩, h1, h2, q⟩ := h
  have fin : ∀ (r x' y' : Int), 0 ≤ r → r < m → Q (.int r) (upd H b (.lst [.int x', .int y'])) := fun r x' y' h3 h4 => by
    have e : r = ((r.toNat : Nat) : Int) := by omega
    rw [e]
    exact q r.toNat _ (by omega) ⟨x', y', upd_same⟩ (SameB.upd b H _)
  refine ⟨_, rfl, b, _, 0, _, rfl, rfl, SqL.of hb, rfl, _, _, rfl, rfl, _, rfl, ite2 (fun e => ?_) (fun e => ?_)⟩
  · refine ⟨_, rfl, b, _, 0, _, rfl, rfl, SqL.of hb, rfl, _, rfl, _, _, rfl, rfl, (by omega : 0 < m), ?_⟩
    refine ⟨_, rfl, b, _, 0, _, rfl, rfl, SqL.of hb, rfl, _, rfl, _, _, rfl, rfl, ⟨by omega, by omega⟩, _, rfl, b, _, 0, 0, rfl, rfl, hb, rfl, _, rfl, ?_⟩
    exact fin (x % m) (x / m) y (Int.emod_nonneg _ (by omega)) (Int.emod_lt_of_pos _ (by omega))
  · refine ⟨_, rfl, b, _, 1, _, rfl, rfl, SqL.of hb, rfl, _, _, rfl, rfl, .inr ⟨by decide, by decide⟩, _, _, rfl, rfl, (by decide : (0 : Int) < 2147483647), ?_⟩
    refine ⟨_, rfl, _, _, rfl, rfl, .inr ⟨by decide, by decide⟩, _, _, rfl, rfl, _, _, rfl, rfl, (by decide : (0 : Int) < 2147483629), _, _, rfl, rfl, _, rfl, b, _, 1, 1, rfl, rfl, hb, rfl, ?_⟩
    refine ⟨_, rfl, _, _, rfl, rfl, .inr ⟨by decide, by decide⟩, _, rfl, b, _, 1, _, rfl, rfl, SqL.of upd_same, rfl, _, _, rfl, rfl, _, _, rfl, rfl, ⟨by decide, by decide⟩, _, rfl, _, _, rfl, rfl, (by omega : 0 < m), ?_⟩
    exact fin _ _ _ (Int.emod_nonneg _ (by omega)) (Int.emod_lt_of_pos _ (by omega))
theorem ok_Lopened (T : Txt K mg f0 f1 f2 f3 f4 f5 f6 f7 f8 f9 f10 f11 f12 f13 f14 f15 f16 f17 f18 f19 f20 f21 f22 d0 d1 d2 d3 d4 d5 d6 d7 d8 d9 d10 d11 d12 d13 d14 d15 d16 d17 d18 d19 d20 d21 d22) : FnOk P w K mg base CX0 1 f18 d18 ["_law_drawing_here"] (sp_Lopened K) := by
  refine T.F18.fn.ok sc_Lopened (fun vs H Q E h => len_Lopened h) (fun cdv A outer s H vs Q E hr h => ?_)
  refine ⟨_, (pss_cons (ps_set (i := 1) sc_Lopened.nd rfl (Or.inr rfl) pe_dnewT)
      (pss_cons (ps_set (i := 2) sc_Lopened.nd rfl (Or.inl rfl) (pe_lst pa_nil))
      (pss_cons (ps_for PassesOwn.never rfl (pi_enumT K rfl rfl T.z_enumerate (pa_cons (pe_ix (ix_tupK K rfl) (pv 0) pe_int (fun _ _ => rfl)) pa_nil)) (pg_tupK (n := 2) K rfl rfl (pgs_cons (pg_name (i := 3) sc_Lopened.nd rfl (Or.inl rfl)) (pgs_cons (pg_name (i := 4) sc_Lopened.nd rfl (Or.inl rfl)) pgs_nil))) (pss_cons (ps_expr (pe_bmK K rfl PySem.F.plainAttrs_list PySem.F.slot_list_append PySem.F.type_list_append mt_append (pv 2) (pa_cons (pe_lst pa_nil) pa_nil)))
      (pss_one (ps_for PassesOwn.never rfl (pi_enumS rfl T.z_enumerate (pa_cons (pv 4) pa_nil)) (pg_tupK (n := 2) K rfl rfl (pgs_cons (pg_name (i := 5) sc_Lopened.nd rfl (Or.inl rfl)) (pgs_cons (pg_name (i := 6) sc_Lopened.nd rfl (Or.inl rfl)) pgs_nil))) (pss_cons (ps_dput (hu_of hr) (pv 1) (pe_tup (pa_cons (pv 3) (pa_cons (pv 5) pa_nil))) (pe_callB call_lenT rfl T.z_len PySem.boot_len (pa_cons (pv 1) pa_nil)) rfl)
      (pss_one (ps_expr (pe_bmK K rfl PySem.F.plainAttrs_list PySem.F.slot_list_append PySem.F.type_list_append mt_append (pe_ix (ix_listK K rfl) (pv 2) (pv 3) (fun _ _ => rfl)) (pa_cons (pe_lst (pa_cons (pv 6) (pa_cons (pe_dget (hu_of hr) (pv 1) (pe_tup (pa_cons (pv 3) (pa_cons (pv 5) pa_nil))) (fun _ _ => rfl)) pa_nil))) pa_nil)))))))))
      (pss_one (ps_ret (pe_disp (pps_cons (pe_S [119, 111, 114, 100, 115] (by decide +kernel)) (pv 2) (pps_cons (pe_S [111, 114, 100, 101, 114, 115] (by decide +kernel)) (pe_compB ["_law_order_here", "_law_number"] [none, some 1] (pi_tupK K rfl (pe_ix (ix_tupK K rfl) (pv 0) pe_int (fun _ _ => rfl))) ⟨⟨rfl, rfl, by first | exact .inl rfl | exact .inr rfl⟩, trivial⟩ (fun _ _ _ _ => (pg_name (i := 0) (by decide +kernel : List.Nodup (["_law_order_here", "_law_number"] : List Str)) rfl (Or.inl rfl))) (fun _ _ _ _ => pf_nil) (fun _ _ _ _ => (pe_compB ["_law_one", "_law_number"] [none, some 1] (pi_tupK K rfl (pv 0)) ⟨⟨rfl, rfl, by first | exact .inl rfl | exact .inr rfl⟩, trivial⟩ (fun _ _ _ _ => (pg_name (i := 0) (by decide +kernel : List.Nodup (["_law_one", "_law_number"] : List Str)) rfl (Or.inl rfl))) (fun _ _ _ _ => pf_nil) (fun _ _ _ _ => (pe_dget (hu_of hr) (pv 1) (pv 0) (fun _ _ => rfl)))))) (pps_cons (pe_S [109, 97, 110, 121] (by decide +kernel)) (pe_callB call_lenT rfl T.z_len PySem.boot_len (pa_cons (pv 1) pa_nil)) pps_nil))) rfl rfl (by simp) (by decide))))))), ?_⟩
  obtain ⟨y, dr, ws, os, rfl, hy, hy8, hg, hd, q⟩ := h
  have hs : (100000 : Nat) < sizeLine := by decide
  obtain ⟨⟨wt, ot, d1, d2, d3⟩, dO⟩ := id hd
  have hwf := hg.few
  have hall := hg.all12
  (repeat (first | refine ⟨_, rfl, ?_⟩ | refine ⟨_, _, rfl, rfl, ?_⟩ | refine ⟨_, _, _, rfl, rfl, by first | assumption | omega, by assumption, ?_⟩ | refine ⟨rfl, ?_⟩ | refine And.intro (by first | decide | omega | assumption | exact Nat.le_of_ble_eq_true rfl | exact .inl ⟨by decide, by decide⟩ | exact .inr ⟨by decide, by decide⟩ | exact ⟨by decide, by decide⟩ | exact ⟨by omega, by omega⟩) ?_))
  intro d nd
  have sd := Same.upd (o := HO.dT []) nd
  have hd0 : upd H d (HO.dT []) d = some (HO.dT []) := upd_same
  generalize upd H d (HO.dT []) = H1 at sd hd0 ⊢
  (repeat (first | refine ⟨_, rfl, ?_⟩ | refine ⟨_, _, rfl, rfl, ?_⟩ | refine ⟨_, _, _, rfl, rfl, by first | assumption | omega, by assumption, ?_⟩ | refine ⟨rfl, ?_⟩ | refine And.intro (by first | decide | omega | assumption | exact Nat.le_of_ble_eq_true rfl | exact .inl ⟨by decide, by decide⟩ | exact .inr ⟨by decide, by decide⟩ | exact ⟨by decide, by decide⟩ | exact ⟨by omega, by omega⟩) ?_))
  intro wl nwl
  have n0 : H wl = none := Same.free sd nwl
  have s1 := sd.trans (Same.upd (o := HO.lst []) nwl)
  have hd1 := (Same.upd (o := HO.lst []) nwl) _ _ hd0
  have hwl1 : WsAt (upd H1 wl (HO.lst [])) wl [] := ⟨upd_same, fun c h => absurd h List.not_mem_nil, fun c h => absurd h List.not_mem_nil, by simp, fun c h => absurd h List.not_mem_nil⟩
  have hne : d ≠ wl := fun z => by rw [z] at hd0; rw [hd0] at nwl; cases nwl
  generalize upd H1 wl (HO.lst []) = H2 at s1 hd1 hwl1 ⊢
  clear sd hd0 nwl
  refine ⟨_, rfl, dr, _, 0, _, rfl, rfl, SqT.of (s1 _ _ d1), rfl, ?_⟩
  refine ⟨wt, rfl, ⟨_, SqT.of (s1 _ _ d2)⟩, ?_⟩
  refine for_enumT (K := K) (a := wt) (xs := txs ws) (fun j σ H' => ∃ (Ws : List Wc) (kvs : List (List Key × V)) (m : Nat) (cv wv iv lv : Option V), σ = [some (.ref dr), some (.ref d), some (.ref wl), cv, wv, iv, lv] ∧ H' d = some (.dT kvs) ∧ WsAt H' wl Ws ∧ NumAt (oW Ws) kvs m ∧ lets (oW Ws) = ws.take j ∧ m ≤ 12 * j ∧ (∀ c ∈ Ws, H c.a = none) ∧ Same H H')
    ⟨[], [], 0, none, none, none, none, rfl, hd1, hwl1, ⟨rfl, rfl, fun n p ⟨_, _, h, _⟩ => by simp [oW] at h, fun p _ => rfl⟩, rfl, Nat.zero_le _, fun c h => absurd h List.not_mem_nil, s1⟩ (fun j σ H' _ ⟨_, _, _, _, _, _, _, _, _, _, _, _, _, _, h⟩ => SqT.of (h _ _ d2)) ?_ ?_
  · rintro j x σ H3 T hx ⟨Ws, kvs, m, cv, wv, iv, lv, rfl, hd3, hws3, hn3, hl3, hm3, hf3, s3⟩ nT
    have hj : j < ws.length := by
      have := (List.getElem?_eq_some_iff.mp hx).1
      rwa [txs_len] at this
    rw [txs_at hj] at hx
    cases hx
    have hjw : ws[j]? = some ws[j] := List.getElem?_eq_getElem hj
    obtain ⟨hwy, hwz⟩ := hall _ (List.getElem_mem hj)
    generalize ws[j] = w at hjw hwy hwz ⊢
    have hWl : Ws.length = j := by
      have := congrArg List.length hl3
      rw [lets_len, oW_len, List.length_take] at this
      omega
    refine ⟨T, _, rfl, SqT.of upd_same, rfl, _, _, rfl, _, _, rfl, rfl, ?_⟩
    have sT := Same.upd (o := HO.tup [.int j, .str (S w)]) nT
    have hd4 := sT _ _ hd3
    have hws4 := hws3.same sT
    have s4 := s3.trans sT
    generalize upd H3 T (HO.tup [.int j, .str (S w)]) = H4 at hd4 hws4 s4 ⊢
    clear sT nT hd3 hws3 s3
    refine ⟨_, rfl, .inl ⟨rfl, _, SqL.of hws4.wd⟩, Nat.zero_le _, fun t nt => ?_⟩
    have hws5 := hws4.new nt
    have nt0 : H t = none := Same.free s4 nt
    refine ⟨wl, _, _, rfl, rfl, (Same.upd (o := HO.lst []) nt) _ _ hws4.wd, by rw [wcv_len]; omega, ?_⟩
    rw [show wcv Ws ++ [V.ref t] = wcv (Ws ++ [⟨t, []⟩]) from wcv_snoc Ws ⟨t, []⟩]
    have hd5 : upd (upd H4 t (HO.lst [])) wl (HO.lst (wcv (Ws ++ [⟨t, []⟩]))) d = some (HO.dT kvs) := by rw [upd_ne hne]; exact (Same.upd nt) _ _ hd4
    have s5 : Same H (upd (upd H4 t (HO.lst [])) wl (HO.lst (wcv (Ws ++ [⟨t, []⟩])))) := same_upd (same_upd s4 nt0) n0
    generalize upd (upd H4 t (HO.lst [])) wl (HO.lst (wcv (Ws ++ [⟨t, []⟩]))) = H5 at hd5 hws5 s5 ⊢
    clear hd4 hws4 s4 nt
    have hn5 := hn3.new
    refine ⟨_, rfl, w, rfl, ?_⟩
    refine for_enum (l := w) (fun k σ H' => ∃ (ls : List Lc) (kvs : List (List Key × V)) (m : Nat) (iv lv : Option V), σ = [some (.ref dr), some (.ref d), some (.ref wl), some (.int j), some (.str (S w)), iv, lv] ∧ H' d = some (.dT kvs) ∧ WsAt H' wl (Ws ++ [⟨t, ls⟩]) ∧ NumAt (oW Ws ++ [(⟨t, ls⟩ : Wc).w]) kvs m ∧ ls.map Lc.x = w.take k ∧ m ≤ 12 * j + k ∧ Same H H')
      ⟨[], kvs, m, iv, lv, rfl, hd5, hws5, hn5, rfl, by omega, s5⟩ ?_ ?_
    · rintro k l σ H6 T2 hk ⟨ls, kvs6, m6, iv6, lv6, rfl, hd6, hws6, hn6, hl6, hm6, s6⟩ nT2
      have hkw : k < w.length := (List.getElem?_eq_some_iff.mp hk).1
      have hll : ls.length = k := by
        have := congrArg List.length hl6
        rw [List.length_map, List.length_take] at this
        omega
      refine ⟨T2, _, rfl, SqT.of upd_same, rfl, _, _, rfl, _, _, rfl, rfl, ?_⟩
      have sT := Same.upd (o := HO.tup [.int k, .str (S [l])]) nT2
      have hd7 := sT _ _ hd6
      have hws7 := hws6.same sT
      have s7 := s6.trans sT
      generalize upd H6 T2 (HO.tup [.int k, .str (S [l])]) = H7 at hd7 hws7 s7 ⊢
      clear sT nT2 hd6 hws6 s6
      have hmz : kvs6.length = m6 := hn6.kl
      have hWj : (oW Ws).length = j := by rw [oW_len]; exact hWl
      have hlk : (⟨t, ls⟩ : Wc).w.length = k := by rw [Wc.w_len]; exact hll
      obtain ⟨hno, hn8⟩ := hn6.push (x := l)
      rw [hWj, hlk] at hno hn8
      refine ⟨_, rfl, d, kvs6, rfl, hd7, ?_⟩
      rw [hmz]
      refine ⟨_, rfl, _, rfl, _, rfl, by show 2 ≤ sizeLine; decide, fun t1 nt1 => ?_⟩
      have st1 := Same.upd (o := HO.tup [V.int j, V.int k]) nt1
      refine ⟨d, _, rfl, DPut.t (k := key2 (j, k)) (st1 _ _ hd7) upd_same (by omega), ?_⟩
      have hws8 := (hws7.same st1).dict (k' := putK kvs6 (key2 (j, k)) (.int (m6 : Nat))) (st1 _ _ hd7)
      have s8 : Same H (upd (upd H7 t1 (HO.tup [V.int j, V.int k])) d (.dT (putK kvs6 (key2 (j, k)) (.int (m6 : Nat))))) := same_upd (s7.trans st1) nd
      have hd8 : upd (upd H7 t1 (HO.tup [V.int j, V.int k])) d (.dT (putK kvs6 (key2 (j, k)) (.int (m6 : Nat)))) d = _ := upd_same
      generalize upd (upd H7 t1 (HO.tup [V.int j, V.int k])) d (.dT (putK kvs6 (key2 (j, k)) (.int (m6 : Nat)))) = H8 at hd8 hws8 s8 ⊢
      clear st1 nt1 hd7 hws7 s7
      have hmt : (⟨t, ls⟩ : Wc) ∈ Ws ++ [(⟨t, ls⟩ : Wc)] := List.mem_append.mpr (.inr (List.mem_singleton.mpr rfl))
      have htj : (wcv (Ws ++ [⟨t, ls⟩]))[j]? = some (V.ref t) := by
        unfold wcv
        rw [List.map_append, List.getElem?_append_right (by rw [List.length_map]; omega), List.length_map, hWl, Nat.sub_self]
        rfl
      refine ⟨_, rfl, _, rfl, wl, _, _, _, rfl, rfl, SqL.of hws8.wd, atI_nat htj, ?_⟩
      refine ⟨.inl ⟨rfl, _, SqL.of (hws8.wc _ hmt)⟩, ?_⟩
      refine ⟨_, rfl, _, rfl, _, rfl, _, rfl, by show 2 ≤ sizeLine; decide, fun t2 nt2 => ?_⟩
      have st2 := Same.upd (o := HO.tup [V.int j, V.int k]) nt2
      have ev : valV (putK kvs6 (key2 (j, k)) (.int (m6 : Nat))) (key2 (j, k)) = some (.int (m6 : Nat)) := by rw [valV_put, if_pos rfl]
      refine ⟨d, _, rfl, by rw [← ev]; exact DGet.t (k := key2 (j, k)) (st2 _ _ hd8) upd_same, by show 2 ≤ sizeLine; decide, fun p np => ?_⟩
      have hws9 := (hws8.same st2).push (x := l) (n := m6) np
      have st3 := st2.trans (Same.upd (o := HO.lst [V.str (S [l]), V.int (m6 : Nat)]) np)
      refine ⟨t, lcv ls, _, rfl, rfl, st3 _ _ (hws8.wc _ hmt), by rw [lcv_len, hll]; omega, ?_⟩
      rw [show lcv ls ++ [V.ref p] = lcv (ls ++ [⟨p, l, m6⟩]) from lcv_snoc ls ⟨p, l, m6⟩]
      refine ⟨ls ++ [⟨p, l, m6⟩], _, m6 + 1, _, _, rfl, ?_, hws9, by rw [Wc.w_snoc]; exact hn8, ?_, by omega, same_upd (s8.trans st3) nt0⟩
      · rw [upd_ne fun z => by have := hws8.wc _ hmt; rw [show (⟨t, ls⟩ : Wc).a = d from z.symm, hd8] at this; cases this]
        exact st3 _ _ hd8
      · rw [List.map_append, hl6, List.take_succ, hk]; rfl
    · rintro σ H6 ⟨ls, kvs6, m6, iv6, lv6, rfl, hd6, hws6, hn6, hl6, hm6, s6⟩
      refine ⟨Ws ++ [⟨t, ls⟩], kvs6, m6, _, _, _, _, rfl, hd6, hws6, by rw [oW_app]; exact hn6, ?_, by omega, fun c hc => ?_, s6⟩
      · rw [oW_app, lets_app, hl3, Wc.w_fst, hl6, List.take_length, List.take_succ, hjw]; rfl
      · rcases List.mem_append.mp hc with g | g
        · exact hf3 c g
        · rw [List.mem_singleton.mp g]; exact nt0
  · rintro σ H3 ⟨Ws, kvs, m, cv, wv, iv, lv, rfl, hd3, hws3, hn3, hl3, hm3, hf3, s3⟩
    rw [txs_len, List.take_length] at hl3
    rw [txs_len] at hm3
    intro pd npd
    have spd := Same.upd (o := HO.dK []) npd
    have hpd : upd H3 pd (HO.dK []) pd = some (HO.dK []) := upd_same
    have hd4 := spd _ _ hd3
    have hws4 := hws3.same spd
    have s4 := s3.trans spd
    have npd0 : H pd = none := Same.free s3 npd
    generalize upd H3 pd (HO.dK []) = H4 at hpd hd4 hws4 s4 ⊢
    clear spd npd hd3 hws3 s3
    refine ⟨_, rfl, ?_⟩
    refine ⟨_, rfl, dr, _, 1, _, rfl, rfl, SqT.of (s4 _ _ d1), rfl, ?_⟩
    have hol : os.length = (os.map prs).length := by rw [List.length_map]
    have hbl : os.length ≤ 4 := by have := bsOf_len hy; have := hg.lk.1; rw [List.length_map] at this; omega
    have own : Own (oW Ws) := own_of (by rw [hn3.nm]; exact List.nodup_range)
    refine ⟨ot, rfl, ⟨_, SqT.of (s4 _ _ d3)⟩, ?_⟩
    refine comp_tup (K := K) (a := ot) (xs := odv os) (fun i acc H' => ∃ Os : List Oc, acc = ocv Os ∧ Os.length = i ∧ OsAt H4 H' (oW Ws) (os.map prs) Os ∧ Same H4 H') (by rw [odv_len]; omega) (fun i acc H' ⟨_, _, _, _, s⟩ => SqT.of (s _ _ (s4 _ _ d3))) ⟨[], rfl, rfl, ⟨fun _ h => absurd h List.not_mem_nil, fun j o l h => by simp at h, List.nodup_nil, fun _ h => absurd h List.not_mem_nil⟩, Same.refl _⟩ ?_ ?_
    · rintro i x acc H5 Nx hi hx hal ⟨Os, rfl, hOl, hO5, s5⟩ nx
      obtain ⟨o, ho, rfl⟩ := odv_at2 hx
      have hoO := (dO o (List.mem_of_getElem? ho)).same (s4.trans s5)
      have hLi : (os.map prs)[i]? = some (prs o) := by rw [List.getElem?_map, ho]; rfl
      obtain ⟨hat, hpn⟩ := hg.has hl3 hLi
      have hd5 := s5 _ _ hd4
      refine ⟨⟨rfl, trivial⟩, yes_ite ?_⟩
      refine ⟨_, rfl, o.o, rfl, ⟨_, SqT.of hoO.tp⟩, ?_⟩
      refine comp_tup (K := K) (a := o.o) (xs := prv o.ps) (fun k acc H' => ∃ ns : List Nat, acc = ivs ns ∧ Al (AtN (oW Ws)) ns ((prs o).take k) ∧ H' = H5) (by rw [prv_len]; have := hoO.fw; omega) (fun k acc H' ⟨_, _, _, e⟩ => by rw [e]; exact SqT.of hoO.tp) ⟨[], rfl, .nil, rfl⟩ ?_ ?_
      · rintro k x acc H6 Nx6 hk hx hal6 ⟨ns, rfl, hns, rfl⟩ nx6
        obtain ⟨p, hp, rfl⟩ := prv_at hx
        have hpm := List.mem_of_getElem? hp
        have hpk := hoO.pr p hpm
        have hpp : (prs o)[k]? = some p.pair := by unfold prs; rw [List.getElem?_map, hp]; rfl
        obtain ⟨n, hn⟩ := hat p.pair (List.mem_of_getElem? hpp)
        refine ⟨⟨rfl, trivial⟩, yes_ite ?_⟩
        refine ⟨_, rfl, _, rfl, d, _, rfl, by rw [← hn3.hit n _ hn]; exact DGet.t (k := key2 p.pair) hd5 hpk.tp, ?_⟩
        exact nx6 _ _ (by simpa using hal6) ⟨ns ++ [n], ivs_snoc2 ns n, by rw [List.take_succ, hpp]; exact hns.snoc hn, rfl⟩
      · rintro acc H6 D hal6 ⟨ns, rfl, hns, rfl⟩ hD
        rw [prv_len, show o.ps.length = (prs o).length from by unfold prs; rw [List.length_map], List.take_length] at hns
        refine nx _ _ (by simpa using hal) ⟨Os ++ [⟨D, ns⟩], ocv_snoc Os ⟨D, ns⟩, by rw [List.length_append, hOl]; rfl, ?_, s5.trans (Same.upd hD)⟩
        exact hO5.snoc (l := prs o) (Same.upd hD) s5 hD upd_same (by rw [hOl]; exact hLi) hns
    · rintro acc H5 D hal ⟨Os, rfl, hOl, hO5, s5⟩ hD
      rw [odv_len] at hOl
      have s6 := s5.trans (Same.upd (o := HO.lst (ocv Os)) hD)
      have hd6 := s6 _ _ hd4
      have hpd6 := s6 _ _ hpd
      have hws6 := hws4.same s6
      have hD6 : upd H5 D (HO.lst (ocv Os)) D = some (HO.lst (ocv Os)) := upd_same
      have hO6 : ∀ o ∈ Os, upd H5 D (HO.lst (ocv Os)) o.a = some (.lst (ivs o.ns)) := fun o ho => (Same.upd hD) _ _ (hO5.oc o ho)
      have nDo : ∀ o ∈ Os, o.a ≠ D := fun o ho z => by have := hO5.oc o ho; rw [z, hD] at this; cases this
      have nD4 : H4 D = none := Same.free s5 hD
      have nD0 : H D = none := Same.free s4 nD4
      have w6 := wd_made hg hl3 hn3 hO5 (by rw [hOl]; exact hol)
      generalize upd H5 D (HO.lst (ocv Os)) = H6 at s6 hd6 hpd6 hws6 hD6 hO6 ⊢
      refine ⟨_, rfl, d, kvs, rfl, hd6, hpd6, [(kS wWords, .ref wl), (kS wOrders, .ref D), (kS wMany, .int kvs.length)], rfl, by show 3 ≤ 15; decide, ?_⟩
      have em : mergeK [] [(kS wWords, V.ref wl), (kS wOrders, V.ref D), (kS wMany, V.int kvs.length)] = wdK wl D m := by rw [hn3.kl]; exact wdK_merge wl D m
      rw [em]
      have nel : ∀ {a : Addr} {xs : List V}, H6 a = some (.lst xs) → a ≠ pd := fun e z => by rw [z, hpd6] at e; cases e
      have ndl : ∀ o ∈ Os, ∀ u : HO, H4 o.a ≠ some u := fun o ho u e => by rw [hO5.fr o ho] at e; cases e
      refine q pd wl D Ws Os m _ ⟨upd_same, by rw [upd_ne (nel hws6.wd)]; exact hws6.wd, by rw [upd_ne (nel hD6)]; exact hD6, fun c hc => by rw [upd_ne (nel (hws6.wc c hc))]; exact hws6.wc c hc, fun c hc l hl => by rw [upd_ne (nel (hws6.lc c hc l hl))]; exact hws6.lc c hc l hl, fun o ho => by rw [upd_ne (nel (hO6 o ho))]; exact hO6 o ho, ?_, ?_⟩ ?_ hl3 w6 (by omega) (same_upd (s4.trans s6) npd0)
      · exact nodup_wd hws4.nd (fun a ha => hws4.live ha) nD4 hO5.nd (fun a ha => by obtain ⟨o, ho, e⟩ := List.mem_map.mp ha; rw [← e]; exact hO5.fr o ho) fun ha => by obtain ⟨o, ho, e⟩ := List.mem_map.mp ha; exact nDo o ho e
      · intro c hc l hl z
        have hla := hws4.lc c hc l hl
        rcases List.mem_cons.mp z with e | z
        · exact hws4.nl c hc l hl (by rw [e]; exact List.mem_cons_self)
        rcases List.mem_cons.mp z with e | z
        · rw [e, nD4] at hla; cases hla
        rcases List.mem_append.mp z with z | z
        · exact hws4.nl c hc l hl (List.mem_cons_of_mem _ z)
        · obtain ⟨o, ho, e⟩ := List.mem_map.mp z
          rw [← e, hO5.fr o ho] at hla; cases hla
      · intro a ha
        unfold wdA at ha
        rcases List.mem_cons.mp ha with e | ha
        · rw [e]; exact npd0
        rcases List.mem_cons.mp ha with e | ha
        · rw [e]; exact n0
        rcases List.mem_cons.mp ha with e | ha
        · rw [e]; exact nD0
        rcases List.mem_append.mp ha with ha | ha
        · obtain ⟨c, hc, e⟩ := List.mem_map.mp ha; rw [← e]; exact hf3 c hc
        · obtain ⟨o, ho, e⟩ := List.mem_map.mp ha; rw [← e]; exact Same.free s4 (hO5.fr o ho)
theorem ok_Lbands (T : Txt K mg f0 f1 f2 f3 f4 f5 f6 f7 f8 f9 f10 f11 f12 f13 f14 f15 f16 f17 f18 f19 f20 f21 f22 d0 d1 d2 d3 d4 d5 d6 d7 d8 d9 d10 d11 d12 d13 d14 d15 d16 d17 d18 d19 d20 d21 d22) : FnOk P w K mg base CX0 1 f15 d15 ["_law_yard_here"] (sp_Lbands K) := by
  refine T.F15.fn.ok sc_Lbands (fun vs H Q E h => len_Lbands h) (fun cdv A outer s H vs Q E hr h => ?_)
  refine ⟨_, (pss_one (ps_ret (pe_callB (call_sortedK K rfl) rfl T.z_sorted boot_sorted (pa_cons (pe_compB ["_law_letter"] [none] (pi_str (pv 0)) trivial (fun _ _ _ _ => (pg_name (i := 0) (by decide +kernel : List.Nodup (["_law_letter"] : List Str)) rfl (Or.inl rfl))) (fun _ _ _ _ => (pf_one (pt_cmpR op_inS (pv 0) (pe_S [97, 98, 99, 100, 101, 102, 103, 104, 105, 106, 107, 108, 109, 110, 111, 112, 113, 114, 115, 116, 117, 118, 119, 120, 121, 122] (by decide +kernel)) (by with_unfolding_all rfl)))) (fun _ _ _ _ => (pv 0))) pa_nil)))), ?_⟩
  obtain ⟨y, rfl, hz, q⟩ := h
  have hs : (1000 : Nat) < sizeLine := by decide
  refine ⟨_, rfl, y, rfl, ?_⟩
  refine comp_fix (xs := sgs y) (fun i acc H' => Same H H' ∧ acc = sgs ((y.take i).filter fun c => decide (c ∈ smalls))) (by rw [sgs_len]; omega) ⟨Same.refl H, rfl⟩ ?_ ?_
  · rintro i x acc H1 Nx hi hx hal ⟨s1, rfl⟩ nx
    obtain ⟨c, hc, rfl⟩ := sgs_get hx
    have e := filter_take (p := fun c => decide (c ∈ smalls)) hc
    refine ⟨trivial, ?_⟩
    refine ⟨_, rfl, c, smalls, rfl, rfl, _, rfl, ?_⟩
    refine ite2 (fun z => ?_) (fun z => ?_)
    · rw [if_pos z] at e
      exact ⟨_, rfl, nx _ _ (by simpa using hal) ⟨s1, by rw [e, ← sgs_snoc]⟩⟩
    · rw [if_neg z, List.append_nil] at e
      exact nx _ _ (Nat.le_succ_of_le hal) ⟨s1, by rw [e]⟩
  · rintro acc H1 D hal ⟨s1, rfl⟩ hD
    rw [sgs_take, sgs_lists]
    have hfl : (y.filter fun c => decide (c ∈ smalls)).length ≤ y.length := List.length_filter_le _ _
    refine ⟨D, (y.filter fun c => decide (c ∈ smalls)).map fun c => [c], rfl, SqL.of upd_same, by rw [List.length_map]; omega, fun p ls hp hpm hpw => ?_⟩
    obtain ⟨l', rfl, pl⟩ := ones_of hpm
    refine q p l' _ (Same.free (Same.trans s1 (Same.upd hD)) hp) (by rw [upd_same, ← sgs_lists]) pl (ones_pw hpw) ((s1.trans (Same.upd hD)).trans (Same.upd hp))
theorem ok_do_swap (T : Txt K mg f0 f1 f2 f3 f4 f5 f6 f7 f8 f9 f10 f11 f12 f13 f14 f15 f16 f17 f18 f19 f20 f21 f22 d0 d1 d2 d3 d4 d5 d6 d7 d8 d9 d10 d11 d12 d13 d14 d15 d16 d17 d18 d19 d20 d21 d22) : FnOk P w K mg base CX0 1 f3 d3 ["orders", "band", "number"] (sp_do_swap K) := by
  refine T.F3.fn.ok sc_do_swap (fun vs H Q E h => len_do_swap h) (fun cdv A outer s H vs Q E hr h => ?_)
  refine ⟨_, (pss_cons (ps_if (PW.pt (pw_or (pt_cmp (pc_dnotin (hu_of hr) (pv 1) (pv 0)) (by with_unfolding_all rfl)) (pw_or1 (pt_not (pt_chain op_le op_lt pe_int (pv 2) (pe_op op_sub (pe_callB (call_len_seqK K rfl) rfl T.z_len PySem.boot_len (pa_cons (pe_dget (hu_of hr) (pv 0) (pv 1) (fun _ _ => rfl)) pa_nil)) pe_int)))))) (pss_one (ps_ret pe_bl)) pss_nil)
      (pss_cons (ps_set (i := 3) sc_do_swap.nd rfl (Or.inl rfl) (pe_dget (hu_of hr) (pv 0) (pv 1) (fun _ _ => rfl)))
      (pss_cons (ps_set (i := 4) sc_do_swap.nd rfl (Or.inl rfl) (pe_ix (ix_listK K rfl) (pv 3) (pv 2) (fun _ _ => rfl)))
      (pss_cons (ps_asg (pe_ix (ix_listK K rfl) (pv 3) (pe_op op_add (pv 2) pe_int) (fun _ _ => rfl)) (pg_sub (pv 3) (pv 2) set_list))
      (pss_cons (ps_asg (pv 4) (pg_sub (pv 3) (pe_op op_add (pv 2) pe_int) set_list))
      (pss_one (ps_ret pe_bl))))))), ?_⟩
  obtain ⟨d, bs, os, b, j, n, o, rfl, hO, nd, hbl, hb, ho, hn, q⟩ := h
  have hs : (100000 : Nat) < sizeLine := by decide
  have hom := List.mem_of_getElem? ho
  have hoO := hO.ok o hom
  have hfw := hoO.fw
  have hget := ordK_get nd hb ho
  have dg : DGet H d (V.str (S [b])) (some (.ref o.o)) := by rw [← hget]; exact DGet.k (k := kS [b]) hO.dk
  have h0 : o.ps[n]? = some (o.ps[n]'(by omega)) := List.getElem?_eq_getElem _
  have h1 : o.ps[n + 1]? = some o.ps[n + 1] := List.getElem?_eq_getElem hn
  generalize hp0 : (o.ps[n]'(by omega)) = p0 at h0
  generalize hp1 : o.ps[n + 1] = p1 at h1
  have g0 : (prv o.ps)[n]? = some (V.ref p0.t) := by unfold prv; rw [List.getElem?_map, h0]; rfl
  have g1 : (prv o.ps)[n + 1]? = some (V.ref p1.t) := by unfold prv; rw [List.getElem?_map, h1]; rfl
  have esw : swapAt n o.ps = (o.ps.set n p1).set (n + 1) p0 := by unfold swapAt; rw [h0, h1]
  have en : (n : Int) + 1 = ((n + 1 : Nat) : Int) := by omega
  refine ⟨_, rfl, _, rfl, d, _, rfl, dg, _, rfl, iteN rfl ?_⟩
  refine ⟨_, rfl, _, _, rfl, rfl, _, rfl, iteY (decide_eq_true (by omega)) ?_⟩
  refine ⟨_, rfl, _, rfl, d, _, rfl, dg, o.o, _, rfl, .inl (SqL.of hoO.tp), _, _, rfl, rfl, _, _, rfl, rfl, _, rfl, iteN ?_ ?_⟩
  · rw [prv_len, decide_eq_true (by omega)]; rfl
  refine ⟨_, rfl, _, rfl, d, _, rfl, dg, ?_⟩
  refine ⟨_, rfl, _, rfl, o.o, _, _, _, rfl, rfl, SqL.of hoO.tp, atI_nat g0, ?_⟩
  refine ⟨_, rfl, _, rfl, _, _, rfl, rfl, o.o, _, _, _, rfl, rfl, SqL.of hoO.tp, by rw [en]; exact atI_nat g1, ?_⟩
  refine ⟨_, rfl, _, rfl, o.o, _, _, n, rfl, rfl, hoO.tp, ?_, ?_⟩
  · rw [prv_len]; exact ixN_nat (by omega)
  rw [prv_set]
  refine ⟨_, rfl, _, rfl, _, rfl, _, _, rfl, rfl, o.o, _, _, n + 1, rfl, rfl, upd_same, ?_, ?_⟩
  · rw [en, prv_len, List.length_set]; exact ixN_nat (by omega)
  rw [prv_set, upd_upd, ← esw]
  have hsw := swap_perm n o.ps
  refine q _ (hO.mut ho (fun p hp => hoO.pr p (hsw.mem_iff.mp hp)) (by rw [hsw.length_eq]; exact hfw)) fun a u ea z => by rw [upd_ne z]; exact ea
theorem ok_contrary (T : Txt K mg f0 f1 f2 f3 f4 f5 f6 f7 f8 f9 f10 f11 f12 f13 f14 f15 f16 f17 f18 f19 f20 f21 f22 d0 d1 d2 d3 d4 d5 d6 d7 d8 d9 d10 d11 d12 d13 d14 d15 d16 d17 d18 d19 d20 d21 d22) : FnOk P w K mg base CX0 1 f0 d0 ["letter"] (sp_contrary K) := by
  refine T.F0.fn.ok sc_contrary (fun vs H Q E h => len_contrary h) (fun cdv A outer s H vs Q E hr h => ?_)
  refine ⟨_, (pss_cons (ps_if (pt_val (pe_bm0K K rfl PySem.F.plainAttrs_str PySem.F.slot_str_islower PySem.F.type_str_islower mt_islower (pv 0))) (pss_one (ps_ret (pe_bm0K K rfl PySem.F.plainAttrs_str PySem.F.slot_str_upper PySem.F.type_str_upper mt_upper (pv 0)))) pss_nil)
      (pss_one (ps_ret (pe_bm0K K rfl PySem.F.plainAttrs_str PySem.F.slot_str_lower PySem.F.type_str_lower mt_lower (pv 0))))), ?_⟩
  obtain ⟨c, rfl, hc, q⟩ := h
  refine ⟨_, rfl, rfl, c, rfl, rfl, hc, _, rfl, ite2 (fun e => ?_) (fun e => ?_)⟩
  · refine ⟨_, rfl, rfl, c, rfl, rfl, hc, ?_⟩
    have z : ctr c = PyProof.Rows.up1 c := if_pos e
    rw [← z]
    exact q
  · refine ⟨_, rfl, rfl, c, rfl, rfl, hc, ?_⟩
    have z : ctr c = PyProof.Rows.lo1 c := if_neg e
    rw [← z]
    exact q
theorem ok_renumber (T : Txt K mg f0 f1 f2 f3 f4 f5 f6 f7 f8 f9 f10 f11 f12 f13 f14 f15 f16 f17 f18 f19 f20 f21 f22 d0 d1 d2 d3 d4 d5 d6 d7 d8 d9 d10 d11 d12 d13 d14 d15 d16 d17 d18 d19 d20 d21 d22) : FnOk P w K mg base CX0 1 f2 d2 ["orders", "cord", "places"] (sp_renumber K) := by
  refine T.F2.fn.ok sc_renumber (fun vs H Q E h => len_renumber h) (fun cdv A outer s H vs Q E hr h => ?_)
  refine ⟨_, (pss_one (ps_for PassesOwn.never rfl (pi_listK K rfl (pe_callTy (call_listD rfl) rfl T.z_list boot_list (pa_cons (pv 0) pa_nil))) (pg_name (i := 3) sc_renumber.nd rfl (Or.inl rfl)) (pss_cons (ps_set (i := 4) sc_renumber.nd rfl (Or.inl rfl) (pe_lst pa_nil))
      (pss_cons (ps_for PassesOwn.never rfl (pi_listK K rfl (pe_dget (hu_of hr) (pv 0) (pv 3) (fun _ _ => rfl))) (pg_name (i := 5) sc_renumber.nd rfl (Or.inl rfl)) (pss_one (ps_if (pt_cmpR op_neI (pe_ix (ix_tupK K rfl) (pv 5) pe_int (fun _ _ => rfl)) (pv 1) (nomark _)) (pss_one (ps_expr (pe_bmK K rfl PySem.F.plainAttrs_list PySem.F.slot_list_append PySem.F.type_list_append mt_append (pv 4) (pa_cons (pv 5) pa_nil)))) (pss_one (ps_if (pt_cmpR op_notN (pe_ix (ix_listK K rfl) (pv 2) (pe_ix (ix_tupK K rfl) (pv 5) pe_int (fun _ _ => rfl)) (fun _ _ => rfl)) pe_non (nomark _)) (pss_one (ps_expr (pe_bmK K rfl PySem.F.plainAttrs_list PySem.F.slot_list_append PySem.F.type_list_append mt_append (pv 4) (pa_cons (pe_tup (pa_cons (pv 1) (pa_cons (pe_ix (ix_listK K rfl) (pv 2) (pe_ix (ix_tupK K rfl) (pv 5) pe_int (fun _ _ => rfl)) (fun _ _ => rfl)) pa_nil))) pa_nil)))) pss_nil)))))
      (pss_one (ps_dput (hu_of hr) (pv 0) (pv 3) (pv 4) rfl)))))), ?_⟩
  obtain ⟨d, c, pp, bs, os, xs, f, rfl, hO, nd, hbl, hc, hpp, hx, hf, q⟩ := h
  have hs : (100000 : Nat) < sizeLine := by decide
  have hln := hO.ln
  refine ⟨_, rfl, d, _, rfl, hO.dk, by rw [ordK_len hln]; omega, fun lp nl => ?_⟩
  rw [ordK_keys hln]
  have sL := Same.upd (o := HO.lst (sgs bs)) nl
  have hlp : upd H lp (HO.lst (sgs bs)) lp = some (HO.lst (sgs bs)) := upd_same
  have hO1 := hO.same sL
  have hpp1 := sL _ _ hpp
  have hlpd : lp ≠ d := Ne.symm (ne_of_none hO.dk nl)
  generalize upd H lp (HO.lst (sgs bs)) = H1 at sL hlp hO1 hpp1 ⊢
  have hppd : pp ≠ d := fun z => by rw [z, hO1.dk] at hpp1; cases hpp1
  refine ⟨lp, rfl, ⟨_, SqL.of hlp⟩, ?_⟩
  refine for_list (K := K) (a := lp) (xs := sgs bs) (fun i σ H' => ∃ (bv kv sv : Option V) (cur : List Od), σ = [some (.ref d), some (.int c), some (.ref pp), bv, kv, sv] ∧ cur.length = os.length ∧ OrdAt H' d bs cur ∧ cur.drop i = os.drop i ∧ (cur.take i).map prs = (os.take i).map (fun o => renM c f (prs o)) ∧ (∀ o ∈ cur.take i, H1 o.o = none) ∧ SameB d H1 H')
    ⟨none, none, none, os, rfl, rfl, hO1, rfl, rfl, by simp, SameB.refl _ _⟩ (fun i σ H' _ ⟨_, _, _, _, _, _, _, _, _, _, s⟩ => SqL.of (s _ _ hlp hlpd)) ?_ ?_
  · rintro i x σ H2 hxi ⟨bv, kv, sv, cur, rfl, hcl, hO2, hdr, htk, hfr, s2⟩
    obtain ⟨b, hb, rfl⟩ := sgs_get hxi
    have hi : i < bs.length := (List.getElem?_eq_some_iff.mp hb).1
    have hic : i < cur.length := by omega
    have hio : i < os.length := by omega
    have hcur : cur[i]? = some os[i] := by
      have e := congrArg (fun l => l[0]?) hdr
      simp only [List.getElem?_drop, Nat.add_zero] at e
      rw [e, List.getElem?_eq_getElem hio]
    have hom : os[i] ∈ os := List.getElem_mem hio
    have hocm : os[i] ∈ cur := List.mem_of_getElem? hcur
    generalize hoi : os[i] = o at hcur hom hocm
    have hoO := hO2.ok o hocm
    have hod := hO2.ne hocm
    have hpp2 := s2 _ _ hpp1 hppd
    refine ⟨by show 0 ≤ sizeLine; decide, fun p5 n5 => ?_⟩
    have s5 := Same.upd (o := HO.lst []) n5
    have h5 : upd H2 p5 (HO.lst []) p5 = some (HO.lst []) := upd_same
    have hO5 := hO2.same s5
    have hoO5 := hoO.same s5
    have hpp5 := s5 _ _ hpp2
    have h5o : o.o ≠ p5 := ne_of_none hoO.tp n5
    have h5p : pp ≠ p5 := ne_of_none hpp2 n5
    generalize upd H2 p5 (HO.lst []) = H5 at s5 h5 hO5 hoO5 hpp5 ⊢
    refine ⟨_, rfl, _, rfl, d, .ref o.o, rfl, by rw [← ordK_get nd hb hcur]; exact DGet.k (k := kS [b]) hO5.dk, o.o, rfl, ⟨_, SqL.of hoO5.tp⟩, ?_⟩
    refine for_list (K := K) (a := o.o) (xs := prv o.ps) (fun j σ H' => ∃ (sv : Option V) (us : List Pr), σ = [some (.ref d), some (.int c), some (.ref pp), some (.str (S [b])), some (.ref p5), sv] ∧ H' p5 = some (.lst (prv us)) ∧ (∀ u ∈ us, PrOk H' u) ∧ us.map Pr.pair = renM c f ((o.ps.take j).map Pr.pair) ∧ us.length ≤ j ∧ SameB p5 H5 H')
      ⟨sv, [], rfl, h5, by simp, rfl, Nat.zero_le _, SameB.refl _ _⟩ (fun j σ H' _ ⟨_, _, _, _, _, _, _, s⟩ => SqL.of (s _ _ hoO5.tp h5o)) ?_ ?_
    · rintro j x σ H6 hxj ⟨sv, us, rfl, hp6, hus, hue, hul, s6⟩
      obtain ⟨p, hpj, rfl⟩ := prv_at hxj
      have hpm := List.mem_of_getElem? hpj
      have hj : j < o.ps.length := (List.getElem?_eq_some_iff.mp hpj).1
      have hfw := hoO.fw
      have hp5' := hoO5.pr p hpm
      have htne : p.t ≠ p5 := fun z => by have := hp5'.tp; rw [z, h5] at this; cases this
      have tp6 := s6 _ _ hp5'.tp htne
      have es : renM c f ((o.ps.take (j + 1)).map Pr.pair) = renM c f ((o.ps.take j).map Pr.pair) ++ (ren1 c f p.pair).toList := by
        rw [← take_snoc hpj, List.map_append]
        exact renM_snoc _ _ _ _
      have tU : ∀ {y : List V}, TSame H6 (upd H6 p5 (.lst y)) := fun {y} => TSame.updL hp6
      have sU : ∀ {y : List V}, SameB p5 H5 (upd H6 p5 (.lst y)) := fun {y} a u ea z => by rw [upd_ne z]; exact s6 a u ea z
      refine ⟨_, rfl, p.t, _, 0, _, rfl, rfl, SqT.of tp6, rfl, _, rfl, _, _, rfl, rfl, _, rfl, ite2 (fun z => ?_) (fun z => ?_)⟩
      · have z' : ¬ p.c = c := fun e => by
          have z2 : (!decide ((p.c : Int) = (c : Int))) = true := z
          rw [decide_eq_true (by omega)] at z2; cases z2
        have er : ren1 c f p.pair = some p.pair := if_neg z'
        refine ⟨_, rfl, .inl ⟨rfl, _, SqL.of hp6⟩, _, rfl, p5, _, _, rfl, rfl, hp6, by rw [prv_len]; omega, ?_⟩
        refine ⟨_, us ++ [p], rfl, by rw [upd_same, prv_snoc], fun u hu => ?_, by rw [List.map_append, hue, es, er]; rfl, by rw [List.length_append, List.length_singleton]; omega, sU⟩
        rcases List.mem_append.mp hu with g | g
        · exact (hus u g).ts tU
        · rw [List.mem_singleton.mp g]; exact (⟨tp6, hp5'.cz, hp5'.iz⟩ : PrOk H6 p).ts tU
      · have z' : p.c = c := by
          have z2 : ¬ (!decide ((p.c : Int) = (c : Int))) = true := z
          by_cases e : p.c = c
          · exact e
          · rw [decide_eq_false (by omega)] at z2; exact absurd rfl z2
        have hxp := hx o hom p hpm z'
        have hpp6 := s6 _ _ hpp5 h5p
        have er : ren1 c f p.pair = (f p.i).map fun j => (c, j) := if_pos z'
        refine ⟨_, rfl, _, rfl, p.t, _, 1, _, rfl, rfl, SqT.of tp6, rfl, pp, _, _, _, rfl, rfl, SqL.of hpp6, atI_nat hxp, rfl, _, rfl, ?_⟩
        cases hfi : f p.i with
        | none =>
          refine iteN (by rfl) ?_
          refine ⟨_, us, rfl, hp6, hus, by rw [es, er, hfi, hue]; simp, by omega, s6⟩
        | some k =>
          rw [hfi] at hxp
          have hk := hf o hom p hpm z' k hfi
          refine iteY (by rfl) ?_
          refine ⟨_, rfl, .inl ⟨rfl, _, SqL.of hp6⟩, _, rfl, _, rfl, _, rfl, p.t, _, 1, _, rfl, rfl, SqT.of tp6, rfl, pp, _, _, _, rfl, rfl, SqL.of hpp6, atI_nat hxp, by show 2 ≤ sizeLine; decide, fun t nt => ?_⟩
          have st := Same.upd (o := HO.tup [V.int c, V.int (k : Nat)]) nt
          have hp7 := st _ _ hp6
          refine ⟨p5, _, _, rfl, rfl, hp7, by rw [prv_len]; omega, ?_⟩
          have tU7 := TSame.updL (o := HO.lst (prv us ++ [V.ref t])) hp7
          refine ⟨_, us ++ [⟨t, c, k⟩], rfl, by rw [upd_same]; exact congrArg (fun x => some (HO.lst x)) (prv_snoc us ⟨t, c, k⟩), fun u hu => ?_, by rw [List.map_append, hue, es, er, hfi]; rfl, by rw [List.length_append, List.length_singleton]; omega, fun a u ea z => by rw [upd_ne z]; exact st _ _ (s6 a u ea z)⟩
          rcases List.mem_append.mp hu with g | g
          · exact (hus u g).ts ((TSame.of st).trans tU7)
          · rw [List.mem_singleton.mp g]; exact ⟨tU7 _ _ upd_same, hc, hk⟩
    · rintro σ H6 ⟨sv, us, rfl, hp6, hus, hue, hul, s6⟩
      rw [prv_len, List.take_length] at hue
      rw [prv_len] at hul
      have hfw := hoO.fw
      have hd5 : p5 ≠ d := Ne.symm (ne_of_none hO2.dk n5)
      have t56 : TSame H5 H6 := fun a ys e => s6 a _ e fun z => by rw [z, h5] at e; cases e
      have hne : ∀ o' ∈ cur, o'.o ≠ p5 := fun o' ho' => ne_of_none (hO2.ok o' ho').tp n5
      have hO6 : OrdAt H6 d bs cur := ⟨s6 _ _ hO5.dk (Ne.symm hd5), hO5.ln, hO5.nd, fun o' ho' => (hO5.ok o' ho').sameB s6 (hne o' ho') t56⟩
      have new := hO6.put nd hb (o' := ⟨p5, us⟩) ⟨hp6, hus, by show us.length ≤ 100; omega⟩ hd5 hne
      refine ⟨_, rfl, _, rfl, _, rfl, d, _, rfl, DPut.k (k := kS [b]) hO6.dk (by rw [ordK_len hO6.ln]; omega), ?_⟩
      have hos : os[i]? = some o := by rw [List.getElem?_eq_getElem hio, hoi]
      refine ⟨_, _, _, cur.set i ⟨p5, us⟩, rfl, by rw [List.length_set]; exact hcl, new, ?_, ?_, fun o' ho' => ?_, fun a u ea z => ?_⟩
      · rw [set_drop]
        have := congrArg (List.drop 1) hdr
        rw [List.drop_drop, List.drop_drop] at this
        exact this
      · rw [set_take _ _ _ hic, List.map_append, htk, ← take_snoc hos, List.map_append]
        show _ ++ [us.map Pr.pair] = _ ++ [renM c f (prs o)]
        rw [hue]
        rfl
      · rw [set_take _ _ _ hic] at ho'
        rcases List.mem_append.mp ho' with g | g
        · exact hfr o' g
        · rw [List.mem_singleton.mp g]; exact s2.none n5 hd5
      · rw [upd_ne z]
        have ez := s2 a u ea z
        exact s6 _ _ (s5 _ _ ez) (ne_of_none ez n5)
  · rintro σ H2 ⟨bv, kv, sv, cur, rfl, hcl, hO2, hdr, htk, hfr, s2⟩
    rw [sgs_len, ← hln] at htk hfr
    rw [← hcl, List.take_length] at hfr
    rw [List.take_length, ← hcl, List.take_length] at htk
    exact q cur H2 hO2 htk (fun o ho => Same.free sL (hfr o ho)) (fun a u ea z => s2 a u (sL a u ea) z)
theorem ok_do_out (T : Txt K mg f0 f1 f2 f3 f4 f5 f6 f7 f8 f9 f10 f11 f12 f13 f14 f15 f16 f17 f18 f19 f20 f21 f22 d0 d1 d2 d3 d4 d5 d6 d7 d8 d9 d10 d11 d12 d13 d14 d15 d16 d17 d18 d19 d20 d21 d22) : FnOk P w K mg base CX0 2 f4 d4 ["words", "orders", "cord", "place"] (sp_do_out K) := by
  have G_contrary := ok_contrary (P := P) (w := w) (base := base) T
  have G_renumber := ok_renumber (P := P) (w := w) (base := base) T
  refine T.F4.fn.ok sc_do_out (fun vs H Q E h => len_do_out h) (fun cdv A outer s H vs Q E hr h => ?_)
  refine ⟨_, (pss_cons (ps_set (i := 4) sc_do_out.nd rfl (Or.inl rfl) (pe_ix (ix_listK K rfl) (pv 0) (pv 2) (fun _ _ => rfl)))
      (pss_cons (ps_if (PW.pt (pw_or (pt_not (pt_chain op_le op_lt pe_int (pv 3) (pe_op op_sub (pe_callB call_lenS rfl T.z_len PySem.boot_len (pa_cons (pv 4) pa_nil)) pe_int))) (pw_or1 (pt_cmpR op_neS (pe_ix ix_S (pv 4) (pe_op op_add (pv 3) pe_int) (fun _ _ => rfl)) (pe_call G_contrary (hr.mono (by decide)) rfl T.F0.mg T.F0.fn.kp T.F0.bd .nil pass0 (pa_cons (pe_ix ix_S (pv 4) (pv 3) (fun _ _ => rfl)) pa_nil)) (nomark _))))) (pss_one (ps_ret pe_bl)) pss_nil)
      (pss_cons (ps_asg (pe_op op_addS (pe_slice sl_S (pv 4) po_none (po_some (pv 3))) (pe_slice sl_S (pv 4) (po_some (pe_op op_add (pv 3) pe_int)) po_none)) (pg_sub (pv 0) (pv 2) set_list))
      (pss_cons (ps_expr (pe_call G_renumber (hr.mono (by decide)) rfl T.F2.mg T.F2.fn.kp T.F2.bd .nil pass0 (pa_cons (pv 1) (pa_cons (pv 2) (pa_cons (pe_op op_cat (pe_op op_cat (pe_listRng1 rfl rfl T.z_list rfl T.z_range (pa_cons (pv 3) pa_nil)) (pe_lst (pa_cons pe_non (pa_cons pe_non pa_nil)))) (pe_listRng2 rfl rfl T.z_list rfl T.z_range (pa_cons (pv 3) (pa_cons (pe_op op_sub (pe_callB call_lenS rfl T.z_len PySem.boot_len (pa_cons (pv 4) pa_nil)) pe_int) pa_nil)))) pa_nil)))))
      (pss_one (ps_ret pe_bl)))))), ?_⟩
  obtain ⟨d, wl, bs, os, ws, c, k, w, x, rfl, hH, hw, hk0, hk1, q⟩ := h
  have hs : (100000 : Nat) < sizeLine := by decide
  have hwc : (txs ws)[c]? = some (.str (S w)) := by unfold txs; rw [List.getElem?_map, hw]; rfl
  obtain ⟨hwo, hwz⟩ := hH.wo w (List.mem_of_getElem? hw)
  have hcw : c < ws.length := (List.getElem?_eq_some_iff.mp hw).1
  have hz4 := hH.wz
  have hkl : k + 1 < w.length := (List.getElem?_eq_some_iff.mp hk1).1
  have hxl := hwo x (List.mem_of_getElem? hk0)
  have ek : (k : Int) + 1 = ((k + 1 : Nat) : Int) := by omega
  have ek2 : (k : Int) + 2 = ((k + 2 : Nat) : Int) := by omega
  refine ⟨_, rfl, _, rfl, wl, _, _, _, rfl, rfl, SqL.of hH.wd, atI_nat hwc, ?_⟩
  refine ⟨_, rfl, _, _, rfl, rfl, _, rfl, iteY (decide_eq_true (by omega)) ⟨_, rfl, w, rfl, by omega, _, _, rfl, rfl, _, _, rfl, rfl, _, rfl, iteN (by rw [decide_eq_true (by omega)]; rfl) ?_⟩⟩
  refine ⟨_, rfl, _, rfl, _, _, rfl, rfl, w, _, ctr x, rfl, rfl, by omega, by rw [ek]; exact atI_nat hk1, ?_⟩
  refine ⟨_, rfl, _, rfl, w, _, x, rfl, rfl, by omega, atI_nat hk0, x, rfl, hxl.lt, _, _, rfl, rfl, _, rfl, iteN (by rw [decide_eq_true rfl]; rfl) ?_⟩
  refine ⟨_, rfl, _, rfl, _, rfl, w, rfl, by omega, ?_⟩
  refine ⟨_, rfl, _, rfl, _, _, rfl, rfl, _, rfl, w, rfl, by omega, _, _, rfl, rfl, by rw [ek2, cut_k, cut_from]; simp; omega, _, rfl, _, rfl, wl, _, _, c, rfl, rfl, hH.wd, by rw [txs_len]; exact ixN_nat hcw, ?_⟩
  rw [ek2, cut_k, cut_from, txs_set]
  have hO1 : OrdAt (upd H wl (.lst (txs (ws.set c (w.take k ++ w.drop (k + 2)))))) d bs os := hH.od.updW hH.ne hH.wd
  have fin : ∀ H3, Same (upd H wl (.lst (txs (ws.set c (w.take k ++ w.drop (k + 2)))))) H3 → _ := fun H3 s3 => left_end hH q s3
  generalize upd H wl (.lst (txs (ws.set c (w.take k ++ w.drop (k + 2))))) = H1 at hO1 fin ⊢
  refine ⟨_, rfl, _, rfl, _, rfl, _, rfl, by omega, by omega, fun p1 n1 => ?_⟩
  have s1 := Same.upd (o := HO.lst ((List.range ((k : Int)).toNat).map fun (j : Nat) => V.int (0 + (j : Int)))) n1
  have h1 : upd H1 p1 (HO.lst ((List.range ((k : Int)).toNat).map fun (j : Nat) => V.int (0 + (j : Int)))) p1 = _ := upd_same
  generalize upd H1 p1 (HO.lst ((List.range ((k : Int)).toNat).map fun (j : Nat) => V.int (0 + (j : Int)))) = H2 at s1 h1 ⊢
  refine ⟨by show 2 ≤ sizeLine; decide, fun p2 n2 => ?_⟩
  have s2 := Same.upd (o := HO.lst [V.non, V.non]) n2
  refine ⟨p1, p2, _, _, rfl, rfl, s2 _ _ h1, upd_same, by simp; omega, fun p3 n3 => ?_⟩
  have s3 := Same.upd (o := HO.lst (((List.range ((k : Int)).toNat).map fun (j : Nat) => V.int (0 + (j : Int))) ++ [V.non, V.non])) n3
  have s13 := (s1.trans s2).trans s3
  have h3 : upd (upd H2 p2 (HO.lst [V.non, V.non])) p3 (HO.lst (((List.range ((k : Int)).toNat).map fun (j : Nat) => V.int (0 + (j : Int))) ++ [V.non, V.non])) p3 = _ := upd_same
  generalize upd (upd H2 p2 (HO.lst [V.non, V.non])) p3 (HO.lst (((List.range ((k : Int)).toNat).map fun (j : Nat) => V.int (0 + (j : Int))) ++ [V.non, V.non])) = H3 at s13 h3 ⊢
  refine ⟨_, rfl, _, rfl, w, rfl, by omega, _, _, rfl, rfl, _, _, rfl, by omega, by omega, fun p4 n4 => ?_⟩
  have s4 := Same.upd (o := HO.lst ((List.range ((w.length : Int) - 2 - (k : Int)).toNat).map fun (j : Nat) => V.int ((k : Int) + (j : Int)))) n4
  refine ⟨p3, p4, _, _, rfl, rfl, s4 _ _ h3, upd_same, by simp; omega, fun p5 n5 => ?_⟩
  have s5 := Same.upd (o := HO.lst (((List.range ((k : Int)).toNat).map fun (j : Nat) => V.int (0 + (j : Int))) ++ [V.non, V.non] ++ (List.range ((w.length : Int) - 2 - (k : Int)).toNat).map fun (j : Nat) => V.int ((k : Int) + (j : Int)))) n5
  have s15 := (s13.trans s4).trans s5
  refine ⟨d, c, p5, bs, os, _, outF k, rfl, hO1.same s15, hH.nd, hH.bl, by omega, upd_same, hH.pl hw fun i hi => out_at hkl hi, hH.pb hw fun i j hi e => ?_, fin _ s15⟩
  unfold outF at e
  split at e
  · cases e; omega
  · split at e
    · cases e
    · cases e; omega
theorem ok_do_turn (T : Txt K mg f0 f1 f2 f3 f4 f5 f6 f7 f8 f9 f10 f11 f12 f13 f14 f15 f16 f17 f18 f19 f20 f21 f22 d0 d1 d2 d3 d4 d5 d6 d7 d8 d9 d10 d11 d12 d13 d14 d15 d16 d17 d18 d19 d20 d21 d22) : FnOk P w K mg base CX0 2 f6 d6 ["words", "orders", "cord"] (sp_do_turn K) := by
  have G_renumber := ok_renumber (P := P) (w := w) (base := base) T
  refine T.F6.fn.ok sc_do_turn (fun vs H Q E h => len_do_turn h) (fun cdv A outer s H vs Q E hr h => ?_)
  refine ⟨_, (pss_cons (ps_set (i := 3) sc_do_turn.nd rfl (Or.inl rfl) (pe_ix (ix_listK K rfl) (pv 0) (pv 2) (fun _ _ => rfl)))
      (pss_cons (ps_asg (pe_op op_addS (pe_slice sl_S (pv 3) (po_some pe_int) po_none) (pe_slice sl_S (pv 3) po_none (po_some pe_int))) (pg_sub (pv 0) (pv 2) set_list))
      (pss_cons (ps_expr (pe_call G_renumber (hr.mono (by decide)) rfl T.F2.mg T.F2.fn.kp T.F2.bd .nil pass0 (pa_cons (pv 1) (pa_cons (pv 2) (pa_cons (pe_op op_cat (pe_lst (pa_cons (pe_op op_sub (pe_callB call_lenS rfl T.z_len PySem.boot_len (pa_cons (pv 3) pa_nil)) pe_int) pa_nil)) (pe_listRng1 rfl rfl T.z_list rfl T.z_range (pa_cons (pe_op op_sub (pe_callB call_lenS rfl T.z_len PySem.boot_len (pa_cons (pv 3) pa_nil)) pe_int) pa_nil))) pa_nil)))))
      (pss_one (ps_ret pe_bl))))), ?_⟩
  obtain ⟨d, wl, bs, os, ws, c, w, rfl, hH, hw, q⟩ := h
  have hs : (100000 : Nat) < sizeLine := by decide
  have hwc : (txs ws)[c]? = some (.str (S w)) := by unfold txs; rw [List.getElem?_map, hw]; rfl
  refine ⟨_, rfl, _, rfl, wl, _, _, _, rfl, rfl, SqL.of hH.wd, atI_nat hwc, ?_⟩
  obtain ⟨hwo, hwz⟩ := hH.wo w (List.mem_of_getElem? hw)
  have hcw : c < ws.length := (List.getElem?_eq_some_iff.mp hw).1
  have hz4 := hH.wz
  refine ⟨_, rfl, _, rfl, w, rfl, by omega, _, rfl, _, rfl, w, rfl, by omega, _, _, rfl, rfl, by rw [cut_one, cut_one']; simp; omega, _, rfl, _, rfl, wl, _, _, c, rfl, rfl, hH.wd, by rw [txs_len]; exact ixN_nat hcw, ?_⟩
  rw [cut_one, cut_one', txs_set]
  have hO1 : OrdAt (upd H wl (.lst (txs (ws.set c (w.drop 1 ++ w.take 1))))) d bs os := hH.od.updW hH.ne hH.wd
  have fin : ∀ H3, Same (upd H wl (.lst (txs (ws.set c (w.drop 1 ++ w.take 1))))) H3 → _ := fun H3 s3 => left_end hH q s3
  generalize upd H wl (.lst (txs (ws.set c (w.drop 1 ++ w.take 1)))) = H1 at hO1 fin ⊢
  refine ⟨_, rfl, _, rfl, _, rfl, w, rfl, by omega, _, _, rfl, rfl, by show 1 ≤ sizeLine; decide, fun p1 n1 => ?_⟩
  have s1 := Same.upd (o := HO.lst [V.int ((w.length : Int) - 1)]) n1
  have h1 : upd H1 p1 (HO.lst [V.int ((w.length : Int) - 1)]) p1 = some (HO.lst [V.int ((w.length : Int) - 1)]) := upd_same
  generalize upd H1 p1 (HO.lst [V.int ((w.length : Int) - 1)]) = H2 at s1 h1 ⊢
  refine ⟨_, rfl, w, rfl, by omega, _, _, rfl, rfl, _, rfl, by omega, by omega, fun p2 n2 => ?_⟩
  have s2 := Same.upd (o := HO.lst ((List.range ((w.length : Int) - 1).toNat).map fun (k : Nat) => V.int (0 + (k : Int)))) n2
  refine ⟨p1, p2, _, _, rfl, rfl, s2 _ _ h1, upd_same, by simp; omega, fun p3 n3 => ?_⟩
  have s3 := Same.upd (o := HO.lst ([V.int ((w.length : Int) - 1)] ++ (List.range ((w.length : Int) - 1).toNat).map fun (k : Nat) => V.int (0 + (k : Int)))) n3
  have s13 := (s1.trans s2).trans s3
  refine ⟨d, c, p3, bs, os, _, turnF w.length, rfl, hO1.same s13, hH.nd, hH.bl, by omega, upd_same, hH.pl hw fun i hi => turn_at hi, hH.pb hw fun i j hi e => ?_, fin _ s13⟩
  unfold turnF at e
  split at e <;> (cases e; omega)
theorem ok_do_in (T : Txt K mg f0 f1 f2 f3 f4 f5 f6 f7 f8 f9 f10 f11 f12 f13 f14 f15 f16 f17 f18 f19 f20 f21 f22 d0 d1 d2 d3 d4 d5 d6 d7 d8 d9 d10 d11 d12 d13 d14 d15 d16 d17 d18 d19 d20 d21 d22) : FnOk P w K mg base CX0 2 f5 d5 ["words", "orders", "cord", "place", "letter", "number"] (sp_do_in K) := by
  have G_contrary := ok_contrary (P := P) (w := w) (base := base) T
  have G_renumber := ok_renumber (P := P) (w := w) (base := base) T
  refine T.F5.fn.ok sc_do_in (fun vs H Q E h => len_do_in h) (fun cdv A outer s H vs Q E hr h => ?_)
  refine ⟨_, (pss_cons (ps_set (i := 6) sc_do_in.nd rfl (Or.inl rfl) (pe_ix (ix_listK K rfl) (pv 0) (pv 2) (fun _ _ => rfl)))
      (pss_cons (ps_set (i := 7) sc_do_in.nd rfl (Or.inl rfl) (pe_dget (hu_of hr) (pv 1) (pe_bm0K K rfl PySem.F.plainAttrs_str PySem.F.slot_str_lower PySem.F.type_str_lower mt_lower (pv 4)) (fun _ _ => rfl)))
      (pss_cons (ps_if (PW.pt (pw_or (pt_not (pt_chain op_le op_le pe_int (pv 3) (pe_callB call_lenS rfl T.z_len PySem.boot_len (pa_cons (pv 6) pa_nil)))) (pw_or1 (pt_not (pt_chain op_le op_le pe_int (pv 5) (pe_callB (call_len_seqK K rfl) rfl T.z_len PySem.boot_len (pa_cons (pv 7) pa_nil))))))) (pss_one (ps_ret pe_bl)) pss_nil)
      (pss_cons (ps_asg (pe_op op_addS (pe_op op_addS (pe_op op_addS (pe_slice sl_S (pv 6) po_none (po_some (pv 3))) (pv 4)) (pe_call G_contrary (hr.mono (by decide)) rfl T.F0.mg T.F0.fn.kp T.F0.bd .nil pass0 (pa_cons (pv 4) pa_nil))) (pe_slice sl_S (pv 6) (po_some (pv 3)) po_none)) (pg_sub (pv 0) (pv 2) set_list))
      (pss_cons (ps_expr (pe_call G_renumber (hr.mono (by decide)) rfl T.F2.mg T.F2.fn.kp T.F2.bd .nil pass0 (pa_cons (pv 1) (pa_cons (pv 2) (pa_cons (pe_op op_cat (pe_listRng1 rfl rfl T.z_list rfl T.z_range (pa_cons (pv 3) pa_nil)) (pe_listRng2 rfl rfl T.z_list rfl T.z_range (pa_cons (pe_op op_add (pv 3) pe_int) (pa_cons (pe_op op_add (pe_callB call_lenS rfl T.z_len PySem.boot_len (pa_cons (pv 6) pa_nil)) pe_int) pa_nil)))) pa_nil)))))
      (pss_cons (ps_expr (pe_bmK K rfl PySem.F.plainAttrs_list PySem.F.slot_list_insert PySem.F.type_list_insert mt_insert (pe_dget (hu_of hr) (pv 1) (pe_bm0K K rfl PySem.F.plainAttrs_str PySem.F.slot_str_lower PySem.F.type_str_lower mt_lower (pv 4)) (fun _ _ => rfl)) (pa_cons (pv 5) (pa_cons (pe_tup (pa_cons (pv 2) (pa_cons (pe_op op_add (pv 3) pe_int) pa_nil))) pa_nil))))
      (pss_cons (ps_expr (pe_bmK K rfl PySem.F.plainAttrs_list PySem.F.slot_list_insert PySem.F.type_list_insert mt_insert (pe_dget (hu_of hr) (pv 1) (pe_bm0K K rfl PySem.F.plainAttrs_str PySem.F.slot_str_lower PySem.F.type_str_lower mt_lower (pv 4)) (fun _ _ => rfl)) (pa_cons (pv 5) (pa_cons (pe_tup (pa_cons (pv 2) (pa_cons (pv 3) pa_nil))) pa_nil))))
      (pss_one (ps_ret pe_bl))))))))), ?_⟩
  obtain ⟨d, wl, bs, os, ws, c, k, n, j, w, x, o, rfl, hH, hw, hk, hx, hb, ho, hn, hol, q⟩ := h
  have hs : (100000 : Nat) < sizeLine := by decide
  have hwc : (txs ws)[c]? = some (.str (S w)) := by unfold txs; rw [List.getElem?_map, hw]; rfl
  obtain ⟨hwo, hwz⟩ := hH.wo w (List.mem_of_getElem? hw)
  have hcw : c < ws.length := (List.getElem?_eq_some_iff.mp hw).1
  have hz4 := hH.wz
  have hoO := hH.od.ok o (List.mem_of_getElem? ho)
  have dg : DGet H d (V.str (S [PyProof.Rows.lo1 x])) (some (.ref o.o)) := by rw [← ordK_get hH.nd hb ho]; exact DGet.k (k := kS [PyProof.Rows.lo1 x]) hH.od.dk
  refine ⟨_, rfl, _, rfl, wl, _, _, _, rfl, rfl, SqL.of hH.wd, atI_nat hwc, ?_⟩
  refine ⟨_, rfl, _, rfl, rfl, ?_⟩
  refine ⟨x, rfl, rfl, hx.lt, d, _, rfl, dg, ?_⟩
  refine ⟨_, rfl, _, _, rfl, rfl, _, rfl, iteY (decide_eq_true (by omega)) ⟨_, rfl, w, rfl, by omega, _, _, rfl, rfl, _, rfl, iteN (by rw [decide_eq_true (by omega)]; rfl) ?_⟩⟩
  refine ⟨_, rfl, _, _, rfl, rfl, _, rfl, iteY (decide_eq_true (by omega)) ⟨_, rfl, o.o, _, rfl, .inl (SqL.of hoO.tp), _, _, rfl, rfl, _, rfl, iteN (by rw [prv_len, decide_eq_true (by omega)]; rfl) ?_⟩⟩
  refine ⟨_, rfl, _, rfl, _, rfl, w, rfl, by omega, _, rfl, _, [x], rfl, rfl, by rw [cut_k]; simp; omega, ?_⟩
  refine ⟨_, rfl, x, rfl, hx.lt, _, [ctr x], rfl, rfl, by rw [cut_k]; simp; omega, ?_⟩
  refine ⟨_, rfl, _, rfl, _, rfl, w, rfl, by omega, _, _, rfl, rfl, by rw [cut_k, cut_from]; simp; omega, _, rfl, _, rfl, wl, _, _, c, rfl, rfl, hH.wd, by rw [txs_len]; exact ixN_nat hcw, ?_⟩
  rw [cut_k, cut_from, txs_set]
  have hO1 : OrdAt (upd H wl (.lst (txs (ws.set c (w.take k ++ [x] ++ [ctr x] ++ w.drop k))))) d bs os := hH.od.updW hH.ne hH.wd
  have fac : ∀ H3, Same (upd H wl (.lst (txs (ws.set c (w.take k ++ [x] ++ [ctr x] ++ w.drop k))))) H3 → ∀ (os' : List Od) (H' : Hp), _ → _ → _ := fun H3 s3 os' H' => left_facts (os' := os') (H' := H') hH s3
  generalize upd H wl (.lst (txs (ws.set c (w.take k ++ [x] ++ [ctr x] ++ w.drop k)))) = H1 at hO1 fac ⊢
  refine ⟨_, rfl, _, rfl, _, rfl, _, rfl, by omega, by omega, fun p1 n1 => ?_⟩
  have s1 := Same.upd (o := HO.lst ((List.range ((k : Int)).toNat).map fun (j : Nat) => V.int (0 + (j : Int)))) n1
  have h1 : upd H1 p1 (HO.lst ((List.range ((k : Int)).toNat).map fun (j : Nat) => V.int (0 + (j : Int)))) p1 = _ := upd_same
  generalize upd H1 p1 (HO.lst ((List.range ((k : Int)).toNat).map fun (j : Nat) => V.int (0 + (j : Int)))) = H2 at s1 h1 ⊢
  refine ⟨_, rfl, _, _, rfl, rfl, _, rfl, w, rfl, by omega, _, _, rfl, rfl, _, _, rfl, by omega, by omega, fun p4 n4 => ?_⟩
  have s4 := Same.upd (o := HO.lst ((List.range ((w.length : Int) + 2 - ((k : Int) + 2)).toNat).map fun (j : Nat) => V.int ((k : Int) + 2 + (j : Int)))) n4
  refine ⟨p1, p4, _, _, rfl, rfl, s4 _ _ h1, upd_same, by simp; omega, fun p5 n5 => ?_⟩
  have s5 := Same.upd (o := HO.lst (((List.range ((k : Int)).toNat).map fun (j : Nat) => V.int (0 + (j : Int))) ++ (List.range ((w.length : Int) + 2 - ((k : Int) + 2)).toNat).map fun (j : Nat) => V.int ((k : Int) + 2 + (j : Int)))) n5
  have s15 := (s1.trans s4).trans s5
  refine ⟨d, c, p5, bs, os, _, inF k, rfl, hO1.same s15, hH.nd, hH.bl, by omega, upd_same, hH.pl hw fun i hi => in_at hk hi, hH.pb hw fun i j hi e => ?_, fun os1 H6 hO6 hmap hfr s6 => ?_⟩
  · unfold inF at e
    split at e <;> (cases e; omega)
  obtain ⟨f1, f2, f3⟩ := fac _ s15 os1 H6 hfr s6
  have hjl : j < os1.length := by
    have := congrArg List.length hmap
    rw [List.length_map, List.length_map] at this
    rw [this]
    exact (List.getElem?_eq_some_iff.mp ho).1
  have ho1 : os1[j]? = some os1[j] := List.getElem?_eq_getElem hjl
  generalize hoj : os1[j] = o1 at ho1
  have hp1 : prs o1 = renM c (inF k) (prs o) := by
    have := congrArg (fun l => l[j]?) hmap
    simp only [List.getElem?_map, ho1, ho] at this
    exact Option.some.inj this
  have hl1 : o1.ps.length = o.ps.length := by
    have := congrArg List.length hp1
    rw [renM_len_in] at this
    unfold prs at this
    rwa [List.length_map, List.length_map] at this
  have ho1m := List.mem_of_getElem? ho1
  have ho1O := hO6.ok o1 ho1m
  have dg1 : DGet H6 d (V.str (S [PyProof.Rows.lo1 x])) (some (.ref o1.o)) := by rw [← ordK_get hH.nd hb ho1]; exact DGet.k (k := kS [PyProof.Rows.lo1 x]) hO6.dk
  refine ⟨_, rfl, _, rfl, rfl, x, rfl, rfl, hx.lt, d, _, rfl, dg1, .inl ⟨rfl, _, SqL.of ho1O.tp⟩, ?_⟩
  refine ⟨_, rfl, _, rfl, _, rfl, _, _, rfl, rfl, by show 2 ≤ sizeLine; decide, fun t1 nt1 => ?_⟩
  have ek : (k : Int) + 1 = ((k + 1 : Nat) : Int) := by omega
  rw [show (fun i j : Int => V.int (i + j)) (k : Int) 1 = V.int ((k + 1 : Nat) : Int) from congrArg V.int ek]
  have st1 := Same.upd (o := HO.tup [V.int c, V.int ((k + 1 : Nat) : Int)]) nt1
  have ht1 : upd H6 t1 (HO.tup [V.int c, V.int ((k + 1 : Nat) : Int)]) t1 = some (HO.tup [V.int c, V.int ((k + 1 : Nat) : Int)]) := upd_same
  have hO7 := hO6.same st1
  have tp7 := st1 _ _ ho1O.tp
  generalize upd H6 t1 (HO.tup [V.int c, V.int ((k + 1 : Nat) : Int)]) = H7 at st1 ht1 hO7 tp7 ⊢
  refine ⟨o1.o, _, n, _, rfl, rfl, tp7, by rw [prv_len]; omega, by rw [prv_len]; omega, ?_⟩
  rw [show (prv o1.ps).take n ++ V.ref t1 :: (prv o1.ps).drop n = prv (o1.ps.take n ++ (⟨t1, c, k + 1⟩ : Pr) :: o1.ps.drop n) from prv_ins o1.ps n ⟨t1, c, k + 1⟩]
  generalize hps1 : o1.ps.take n ++ (⟨t1, c, k + 1⟩ : Pr) :: o1.ps.drop n = ps1
  have hln1 : ps1.length = o1.ps.length + 1 := by rw [← hps1]; simp; omega
  have hmem1 : ∀ p ∈ ps1, p ∈ o1.ps ∨ p = ⟨t1, c, k + 1⟩ := fun p hp => by
    rw [← hps1] at hp
    rcases List.mem_append.mp hp with g | g
    · exact .inl (List.mem_of_mem_take g)
    · rcases List.mem_cons.mp g with g | g
      · exact .inr g
      · exact .inl (List.mem_of_mem_drop g)
  have hok1 : ∀ p ∈ ps1, PrOk H7 p := fun p hp => by
    rcases hmem1 p hp with g | g
    · exact (hO7.ok o1 ho1m).pr p g
    · rw [g]; exact ⟨ht1, by show c < 1000; omega, by show k + 1 < 1000; omega⟩
  have hO8 := hO7.mut ho1 hok1 (by omega)
  have h8 : upd H7 o1.o (HO.lst (prv ps1)) o1.o = some (HO.lst (prv ps1)) := upd_same
  have s78 : SameB o1.o H7 (upd H7 o1.o (HO.lst (prv ps1))) := fun a u ea z => by rw [upd_ne z]; exact ea
  generalize upd H7 o1.o (HO.lst (prv ps1)) = H8 at hO8 h8 s78 ⊢
  have hset : (os1.set j ⟨o1.o, ps1⟩)[j]? = some ⟨o1.o, ps1⟩ := List.getElem?_set_self hjl
  have dg2 : DGet H8 d (V.str (S [PyProof.Rows.lo1 x])) (some (.ref o1.o)) := by rw [← ordK_get hH.nd hb hset]; exact DGet.k (k := kS [PyProof.Rows.lo1 x]) hO8.dk
  refine ⟨_, rfl, _, rfl, rfl, x, rfl, rfl, hx.lt, d, _, rfl, dg2, .inl ⟨rfl, _, SqL.of h8⟩, ?_⟩
  refine ⟨_, rfl, _, rfl, _, rfl, by show 2 ≤ sizeLine; decide, fun t2 nt2 => ?_⟩
  have st2 := Same.upd (o := HO.tup [V.int c, V.int k]) nt2
  have ht2 : upd H8 t2 (HO.tup [V.int c, V.int k]) t2 = some (HO.tup [V.int c, V.int k]) := upd_same
  have hO9 := hO8.same st2
  have h9 := st2 _ _ h8
  generalize upd H8 t2 (HO.tup [V.int c, V.int k]) = H9 at st2 ht2 hO9 h9 ⊢
  refine ⟨o1.o, _, n, _, rfl, rfl, h9, by rw [prv_len]; omega, by rw [prv_len]; omega, ?_⟩
  rw [show (prv ps1).take n ++ V.ref t2 :: (prv ps1).drop n = prv (ps1.take n ++ (⟨t2, c, k⟩ : Pr) :: ps1.drop n) from prv_ins ps1 n ⟨t2, c, k⟩]
  have hok2 : ∀ p ∈ ps1.take n ++ (⟨t2, c, k⟩ : Pr) :: ps1.drop n, PrOk H9 p := fun p hp => by
    have old : ∀ p ∈ ps1, PrOk H9 p := fun p hp => (hO9.ok ⟨o1.o, ps1⟩ (List.mem_of_getElem? hset)).pr p hp
    rcases List.mem_append.mp hp with g | g
    · exact old p (List.mem_of_mem_take g)
    · rcases List.mem_cons.mp g with g | g
      · rw [g]; exact ⟨ht2, by show c < 1000; omega, by show k < 1000; omega⟩
      · exact old p (List.mem_of_mem_drop g)
  have hOA := hO9.mut hset hok2 (by simp; omega)
  rw [List.set_set] at hOA
  have e1 : ps1.take n = o1.ps.take n := by rw [← hps1, List.take_append_of_le_length (by rw [List.length_take]; omega), List.take_take, Nat.min_self]
  have e2 : ps1.drop n = (⟨t1, c, k + 1⟩ : Pr) :: o1.ps.drop n := by
    rw [← hps1, List.drop_append_of_le_length (by rw [List.length_take]; omega), List.drop_of_length_le (by rw [List.length_take]; omega)]
    rfl
  have hwo1 : wl ≠ o1.o := fun z => by have := f2 o1 ho1m; rw [← z, hH.wd] at this; cases this
  refine q _ _ hOA ?_ ?_ (fun o' ho' => ?_) fun a u ea za zb => ?_
  · rw [List.map_set, hmap]
    congr 1
    unfold prs
    show (ps1.take n ++ (⟨t2, c, k⟩ : Pr) :: ps1.drop n).map Pr.pair = put2 n (c, k) (c, k + 1) (renM c (inF k) (prs o))
    rw [← hp1, e1, e2]
    unfold put2 prs
    rw [List.map_append, List.map_cons, List.map_cons, List.map_take, List.map_drop]
    rfl
  · rw [upd_ne hwo1]; exact st2 _ _ (s78 _ _ (st1 _ _ f1) hwo1)
  · rcases List.mem_or_eq_of_mem_set ho' with g | g
    · exact f2 o' g
    · rw [g]; exact f2 o1 ho1m
  · have hne : a ≠ o1.o := ne_of_none ea (f2 o1 ho1m)
    rw [upd_ne hne]
    exact st2 _ _ (s78 _ _ (st1 _ _ (f3 a u ea za zb)) hne)
theorem ok_do_deed (T : Txt K mg f0 f1 f2 f3 f4 f5 f6 f7 f8 f9 f10 f11 f12 f13 f14 f15 f16 f17 f18 f19 f20 f21 f22 d0 d1 d2 d3 d4 d5 d6 d7 d8 d9 d10 d11 d12 d13 d14 d15 d16 d17 d18 d19 d20 d21 d22) : FnOk P w K mg base CX0 3 f7 d7 ["yard", "words", "orders", "deed"] (sp_do_deed K) := by
  have G_do_swap := ok_do_swap (P := P) (w := w) (base := base) T
  have G_do_out := ok_do_out (P := P) (w := w) (base := base) T
  have G_do_turn := ok_do_turn (P := P) (w := w) (base := base) T
  have G_do_in := ok_do_in (P := P) (w := w) (base := base) T
  refine T.F7.fn.ok sc_do_deed (fun vs H Q E h => len_do_deed h) (fun cdv A outer s H vs Q E hr h => ?_)
  refine ⟨_, (pss_cons (ps_if (pt_cmpR op_eqS (pe_ix (ix_tupK K rfl) (pv 3) pe_int (fun _ _ => rfl)) (pe_S [115, 119, 97, 112] (by decide +kernel)) (nomark _)) (pss_one (ps_ret (pe_call G_do_swap (hr.mono (by decide)) rfl T.F3.mg T.F3.fn.kp T.F3.bd .nil pass0 (pa_cons (pv 2) (pa_cons (pe_ix (ix_tupK K rfl) (pv 3) pe_int (fun _ _ => rfl)) (pa_cons (pe_ix (ix_tupK K rfl) (pv 3) pe_int (fun _ _ => rfl)) pa_nil)))))) pss_nil)
      (pss_cons (ps_if (pt_not (pt_chain op_le op_lt pe_int (pe_ix (ix_tupK K rfl) (pv 3) pe_int (fun _ _ => rfl)) (pe_callB (call_len_seqK K rfl) rfl T.z_len PySem.boot_len (pa_cons (pv 1) pa_nil)))) (pss_one (ps_ret pe_bl)) pss_nil)
      (pss_cons (ps_if (pt_cmpR op_eqS (pe_ix (ix_tupK K rfl) (pv 3) pe_int (fun _ _ => rfl)) (pe_S [111, 117, 116] (by decide +kernel)) (nomark _)) (pss_one (ps_ret (pe_call G_do_out (hr.mono (by decide)) rfl T.F4.mg T.F4.fn.kp T.F4.bd .nil pass0 (pa_cons (pv 1) (pa_cons (pv 2) (pa_cons (pe_ix (ix_tupK K rfl) (pv 3) pe_int (fun _ _ => rfl)) (pa_cons (pe_ix (ix_tupK K rfl) (pv 3) pe_int (fun _ _ => rfl)) pa_nil))))))) pss_nil)
      (pss_cons (ps_if (pt_cmpR op_eqS (pe_ix (ix_tupK K rfl) (pv 3) pe_int (fun _ _ => rfl)) (pe_S [116, 117, 114, 110] (by decide +kernel)) (nomark _)) (pss_one (ps_ret (pe_call G_do_turn (hr.mono (by decide)) rfl T.F6.mg T.F6.fn.kp T.F6.bd .nil pass0 (pa_cons (pv 1) (pa_cons (pv 2) (pa_cons (pe_ix (ix_tupK K rfl) (pv 3) pe_int (fun _ _ => rfl)) pa_nil)))))) pss_nil)
      (pss_cons (ps_if (PW.pt (pw_and (pt_cmpR op_eqS (pe_ix (ix_tupK K rfl) (pv 3) pe_int (fun _ _ => rfl)) (pe_S [105, 110] (by decide +kernel)) (nomark _)) (pw_and1 (pt_cmpR (op_inK K rfl) (pe_ix (ix_tupK K rfl) (pv 3) pe_int (fun _ _ => rfl)) (pe_callTy (call_listS rfl) rfl T.z_list boot_list (pa_cons (pv 0) pa_nil)) (by with_unfolding_all rfl))))) (pss_one (ps_ret (pe_call G_do_in (hr.mono (by decide)) rfl T.F5.mg T.F5.fn.kp T.F5.bd .nil pass0 (pa_cons (pv 1) (pa_cons (pv 2) (pa_cons (pe_ix (ix_tupK K rfl) (pv 3) pe_int (fun _ _ => rfl)) (pa_cons (pe_ix (ix_tupK K rfl) (pv 3) pe_int (fun _ _ => rfl)) (pa_cons (pe_ix (ix_tupK K rfl) (pv 3) pe_int (fun _ _ => rfl)) (pa_cons (pe_ix (ix_tupK K rfl) (pv 3) pe_int (fun _ _ => rfl)) pa_nil))))))))) pss_nil)
      (pss_one (ps_ret pe_bl))))))), ?_⟩
  obtain ⟨y, d, wl, a, os, ws, e, rfl, hy, hz, hH, hlen, ha, hok, q⟩ := h
  have hs : (100000 : Nat) < sizeLine := by decide
  have hz4 := hH.wz
  cases e with
  | swap b n =>
    have h : H a = some (.tup [.str (S wSwap), .str (S [b]), .int n]) := ha
    obtain ⟨hb, hn⟩ := hok
    have hj := List.idxOf_lt_length_of_mem hb
    have hbj : (bsOf y)[(bsOf y).idxOf b]? = some b := by rw [List.getElem?_eq_getElem hj, List.getElem_idxOf hj]
    have hjo : (bsOf y).idxOf b < os.length := by rw [hH.od.ln]; exact hj
    have ho : os[(bsOf y).idxOf b]? = some (os[(bsOf y).idxOf b]) := List.getElem?_eq_getElem hjo
    generalize os[(bsOf y).idxOf b] = o at ho
    have eL : (os.map prs).getD ((bsOf y).idxOf b) [] = prs o := getD_of (by rw [List.getElem?_map, ho]; rfl)
    rw [eL] at hn
    refine ⟨_, rfl, a, _, 0, _, rfl, rfl, SqT.of h, rfl, _, _, rfl, rfl, _, rfl, iteY (by decide) ?_⟩
    refine ⟨_, rfl, _, rfl, a, _, 1, _, rfl, rfl, SqT.of h, rfl, _, rfl, a, _, 2, _, rfl, rfl, SqT.of h, rfl, ?_⟩
    refine ⟨d, bsOf y, os, b, _, n, o, rfl, hH.od, hH.nd, hH.bl, hbj, ho, by unfold prs at hn; rwa [List.length_map] at hn, fun H' hO' s' => ?_⟩
    have hom := List.mem_of_getElem? ho
    refine q _ H' hO' ?_ (s' _ _ hH.wd (Ne.symm (hH.ne o hom))) (fun o' ho' => .inr ?_) fun x u ex _ _ zx => s' x u ex fun z => zx (by rw [z]; exact List.mem_map.mpr ⟨o, hom, rfl⟩)
    · rw [List.map_set]
      show (os.map prs).set _ ((swapAt n o.ps).map Pr.pair) = (os.map prs).set _ (swapP n ((os.map prs).getD _ []))
      rw [eL, swap_prs]
      rfl
    · rcases List.mem_or_eq_of_mem_set ho' with g | g
      · exact List.mem_map.mpr ⟨o', g, rfl⟩
      · rw [g]; exact List.mem_map.mpr ⟨o, hom, rfl⟩
  | out c k =>
    have h : H a = some (.tup [.str (S wOut), .int c, .int k]) := ha
    obtain ⟨hc, x, hx0, hx1⟩ := hok
    have hw : ws[c]? = some ws[c] := List.getElem?_eq_getElem hc
    have ew := getD_of (x := []) hw
    generalize hwe : ws[c] = w at hw ew
    rw [ew] at hx0 hx1
    refine ⟨_, rfl, a, _, 0, _, rfl, rfl, SqT.of h, rfl, _, _, rfl, rfl, _, rfl, iteN (by decide) ?_⟩
    refine ⟨_, rfl, a, _, 1, _, rfl, rfl, SqT.of h, rfl, _, _, rfl, rfl, _, rfl, iteY (decide_eq_true (by omega)) ⟨_, rfl, wl, _, rfl, .inl (SqL.of hH.wd), _, _, rfl, rfl, _, rfl, iteN (by rw [txs_len, decide_eq_true (by omega)]; rfl) ?_⟩⟩
    refine ⟨_, rfl, a, _, 0, _, rfl, rfl, SqT.of h, rfl, _, _, rfl, rfl, _, rfl, iteY (by decide) ?_⟩
    refine ⟨_, rfl, _, rfl, _, rfl, a, _, 1, _, rfl, rfl, SqT.of h, rfl, _, rfl, a, _, 2, _, rfl, rfl, SqT.of h, rfl, ?_⟩
    refine ⟨d, wl, bsOf y, os, ws, c, k, w, x, rfl, hH, hw, hx0, hx1, fun os' H' g1 g2 g3 g4 g5 => ?_⟩
    refine q os' H' g1 ?_ ?_ (fun o ho => .inl (g4 o ho)) fun x u ex z1 z2 _ => g5 x u ex z1 z2
    · rw [g2]; show _ = (os.map prs).map (renM c (outF k)); rw [List.map_map]; rfl
    · show _ = some (HO.lst (txs (ws.set c ((ws.getD c []).take k ++ (ws.getD c []).drop (k + 2))))); rw [ew]; exact g3
  | turn c =>
    have h : H a = some (.tup [.str (S wTurn), .int c]) := ha
    have hc : c < ws.length := hok
    have hw : ws[c]? = some ws[c] := List.getElem?_eq_getElem hc
    have ew := getD_of (x := []) hw
    generalize hwe : ws[c] = w at hw ew
    refine ⟨_, rfl, a, _, 0, _, rfl, rfl, SqT.of h, rfl, _, _, rfl, rfl, _, rfl, iteN (by decide) ?_⟩
    refine ⟨_, rfl, a, _, 1, _, rfl, rfl, SqT.of h, rfl, _, _, rfl, rfl, _, rfl, iteY (decide_eq_true (by omega)) ⟨_, rfl, wl, _, rfl, .inl (SqL.of hH.wd), _, _, rfl, rfl, _, rfl, iteN (by rw [txs_len, decide_eq_true (by omega)]; rfl) ?_⟩⟩
    refine ⟨_, rfl, a, _, 0, _, rfl, rfl, SqT.of h, rfl, _, _, rfl, rfl, _, rfl, iteN (by decide) ?_⟩
    refine ⟨_, rfl, a, _, 0, _, rfl, rfl, SqT.of h, rfl, _, _, rfl, rfl, _, rfl, iteY (by decide) ?_⟩
    refine ⟨_, rfl, _, rfl, _, rfl, a, _, 1, _, rfl, rfl, SqT.of h, rfl, ?_⟩
    refine ⟨d, wl, bsOf y, os, ws, c, w, rfl, hH, hw, fun os' H' g1 g2 g3 g4 g5 => ?_⟩
    refine q os' H' g1 ?_ ?_ (fun o ho => .inl (g4 o ho)) fun x u ex z1 z2 _ => g5 x u ex z1 z2
    · rw [g2]; show _ = (os.map prs).map (renM c (turnF (ws.getD c []).length)); rw [ew, List.map_map]; rfl
    · show _ = some (HO.lst (txs (ws.set c ((ws.getD c []).drop 1 ++ (ws.getD c []).take 1)))); rw [ew]; exact g3
  | ins c k x n =>
    have h : H a = some (.tup [.str (S wIn), .int c, .int k, .str (S [x]), .int n]) := ha
    obtain ⟨hc, hk, hw10, hxy, hn⟩ := hok
    have hw : ws[c]? = some ws[c] := List.getElem?_eq_getElem hc
    have ew := getD_of (x := []) hw
    generalize hwe : ws[c] = w at hw ew
    rw [ew] at hk hw10
    have hb := lo_in hy hxy
    have hj := List.idxOf_lt_length_of_mem hb
    have hbj : (bsOf y)[(bsOf y).idxOf (PyProof.Rows.lo1 x)]? = some (PyProof.Rows.lo1 x) := by rw [List.getElem?_eq_getElem hj, List.getElem_idxOf hj]
    have hjo : (bsOf y).idxOf (PyProof.Rows.lo1 x) < os.length := by rw [hH.od.ln]; exact hj
    have ho : os[(bsOf y).idxOf (PyProof.Rows.lo1 x)]? = some (os[(bsOf y).idxOf (PyProof.Rows.lo1 x)]) := List.getElem?_eq_getElem hjo
    generalize os[(bsOf y).idxOf (PyProof.Rows.lo1 x)] = o at ho
    have eL : (os.map prs).getD ((bsOf y).idxOf (PyProof.Rows.lo1 x)) [] = prs o := getD_of (by rw [List.getElem?_map, ho]; rfl)
    rw [eL] at hn
    refine ⟨_, rfl, a, _, 0, _, rfl, rfl, SqT.of h, rfl, _, _, rfl, rfl, _, rfl, iteN (by decide) ?_⟩
    refine ⟨_, rfl, a, _, 1, _, rfl, rfl, SqT.of h, rfl, _, _, rfl, rfl, _, rfl, iteY (decide_eq_true (by omega)) ⟨_, rfl, wl, _, rfl, .inl (SqL.of hH.wd), _, _, rfl, rfl, _, rfl, iteN (by rw [txs_len, decide_eq_true (by omega)]; rfl) ?_⟩⟩
    refine ⟨_, rfl, a, _, 0, _, rfl, rfl, SqT.of h, rfl, _, _, rfl, rfl, _, rfl, iteN (by decide) ?_⟩
    refine ⟨_, rfl, a, _, 0, _, rfl, rfl, SqT.of h, rfl, _, _, rfl, rfl, _, rfl, iteN (by decide) ?_⟩
    refine ⟨_, rfl, a, _, 0, _, rfl, rfl, SqT.of h, rfl, _, _, rfl, rfl, _, rfl, iteY (by decide) ?_⟩
    refine ⟨_, rfl, a, _, 3, _, rfl, rfl, SqT.of h, rfl, _, rfl, y, rfl, by omega, fun p np => ?_⟩
    refine ⟨p, _, rfl, .inl (SqL.of upd_same), rfl, flat_sgs _, _, rfl, iteY (by show inV (.str (S [x])) (sgs y) = true; rw [inV_sgs]; exact decide_eq_true hxy) ?_⟩
    have sP := Same.upd (o := HO.lst (sgs y)) np
    have h1 := sP _ _ h
    have hH1 := hH.same sP
    refine ⟨_, rfl, _, rfl, _, rfl, a, _, 1, _, rfl, rfl, SqT.of h1, rfl, _, rfl, a, _, 2, _, rfl, rfl, SqT.of h1, rfl, _, rfl, a, _, 3, _, rfl, rfl, SqT.of h1, rfl, _, rfl, a, _, 4, _, rfl, rfl, SqT.of h1, rfl, ?_⟩
    have hol := hlen o (List.mem_of_getElem? ho)
    refine ⟨d, wl, bsOf y, os, ws, c, k, n, _, w, x, o, rfl, hH1, hw, hk, hy.lt x hxy, hbj, ho, by unfold prs at hn; rwa [List.length_map] at hn, hol, fun os' H' g1 g2 g3 g4 g5 => ?_⟩
    refine q os' H' g1 ?_ ?_ (fun o ho => .inl (Same.free sP (g4 o ho))) fun x u ex z1 z2 _ => g5 x u (sP x u ex) z1 z2
    · rw [g2]
      show _ = ((os.map prs).map (renM c (inF k))).set _ (put2 n (c, k) (c, k + 1) (renM c (inF k) ((os.map prs).getD _ [])))
      rw [eL, List.map_map]
      rfl
    · show _ = some (HO.lst (txs (ws.set c ((ws.getD c []).take k ++ [x] ++ [ctr x] ++ (ws.getD c []).drop k)))); rw [ew]; exact g3
theorem ok_Lother (T : Txt K mg f0 f1 f2 f3 f4 f5 f6 f7 f8 f9 f10 f11 f12 f13 f14 f15 f16 f17 f18 f19 f20 f21 f22 d0 d1 d2 d3 d4 d5 d6 d7 d8 d9 d10 d11 d12 d13 d14 d15 d16 d17 d18 d19 d20 d21 d22) : FnOk P w K mg base CX0 1 f11 d11 ["_law_letter"] (sp_Lother K) := by
  refine T.F11.fn.ok sc_Lother (fun vs H Q E h => len_Lother h) (fun cdv A outer s H vs Q E hr h => ?_)
  refine ⟨_, (pss_cons (ps_set (i := 1) sc_Lother.nd rfl (Or.inl rfl) (pe_S [97, 98, 99, 100, 101, 102, 103, 104, 105, 106, 107, 108, 109, 110, 111, 112, 113, 114, 115, 116, 117, 118, 119, 120, 121, 122] (by decide +kernel)))
      (pss_cons (ps_set (i := 2) sc_Lother.nd rfl (Or.inl rfl) (pe_S [65, 66, 67, 68, 69, 70, 71, 72, 73, 74, 75, 76, 77, 78, 79, 80, 81, 82, 83, 84, 85, 86, 87, 88, 89, 90] (by decide +kernel)))
      (pss_cons (ps_if (pt_cmpR op_inS (pv 0) (pv 1) (by with_unfolding_all rfl)) (pss_one (ps_ret (pe_ix ix_S (pv 2) (pe_bmK K rfl PySem.F.plainAttrs_str PySem.F.slot_str_index PySem.F.type_str_index mt_indexS (pv 1) (pa_cons (pv 0) pa_nil)) (fun _ _ => rfl)))) pss_nil)
      (pss_one (ps_ret (pe_ix ix_S (pv 1) (pe_bmK K rfl PySem.F.plainAttrs_str PySem.F.slot_str_index PySem.F.type_str_index mt_indexS (pv 2) (pa_cons (pv 0) pa_nil)) (fun _ _ => rfl))))))), ?_⟩
  obtain ⟨c, rfl, hc, q⟩ := h
  refine ⟨_, rfl, _, rfl, c, smalls, rfl, rfl, _, rfl, ite2 (fun e => ?_) (fun e => ?_)⟩
  · have hm : c ∈ smalls := of_decide_eq_true e
    exact ⟨_, rfl, _, rfl, rfl, _, rfl, smalls, c, rfl, rfl, hm, caps, _, ctr c, rfl, rfl, by decide, other_small c hm, q⟩
  · have hm : c ∈ caps := hc.resolve_left fun z => e (decide_eq_true z)
    exact ⟨_, rfl, _, rfl, rfl, _, rfl, caps, c, rfl, rfl, hm, smalls, _, ctr c, rfl, rfl, by decide, other_cap c hm, q⟩
theorem ok_Ldeed (T : Txt K mg f0 f1 f2 f3 f4 f5 f6 f7 f8 f9 f10 f11 f12 f13 f14 f15 f16 f17 f18 f19 f20 f21 f22 d0 d1 d2 d3 d4 d5 d6 d7 d8 d9 d10 d11 d12 d13 d14 d15 d16 d17 d18 d19 d20 d21 d22) : FnOk P w K mg base CX0 2 f21 d21 ["_law_box_here", "_law_yard_here", "_law_drawing_here"] (sp_Ldeed K) := by
  have G_Ltake := ok_Ltake (P := P) (w := w) (base := base) T
  have G_Lbands := ok_Lbands (P := P) (w := w) (base := base) T
  have G_Lother := ok_Lother (P := P) (w := w) (base := base) T
  refine T.F21.fn.ok sc_Ldeed (fun vs H Q E h => len_Ldeed h) (fun cdv A outer s H vs Q E hr h => ?_)
  refine ⟨_, (pss_cons (ps_asg (pv 2) (pg_tupK (n := 2) K rfl rfl (pgs_cons (pg_name (i := 3) sc_Ldeed.nd rfl (Or.inl rfl)) (pgs_cons (pg_name (i := 4) sc_Ldeed.nd rfl (Or.inr rfl)) pgs_nil))))
      (pss_cons (ps_set (i := 5) sc_Ldeed.nd rfl (Or.inl rfl) (pe_call G_Ltake (hr.mono (by decide)) rfl T.F10.mg T.F10.fn.kp T.F10.bd .nil pass0 (pa_cons (pv 0) (pa_cons pe_int pa_nil))))
      (pss_cons (ps_set (i := 6) sc_Ldeed.nd rfl (Or.inl rfl) (pe_call G_Lbands (hr.mono (by decide)) rfl T.F15.mg T.F15.fn.kp T.F15.bd .nil pass0 (pa_cons (pv 1) pa_nil)))
      (pss_cons (ps_set (i := 7) sc_Ldeed.nd rfl (Or.inl rfl) (pe_call G_Ltake (hr.mono (by decide)) rfl T.F10.mg T.F10.fn.kp T.F10.bd .nil pass0 (pa_cons (pv 0) (pa_cons (pe_callB (call_max2 rfl) rfl T.z_max boot_max (pa_cons pe_int (pa_cons (pe_callB (call_len_seqK K rfl) rfl T.z_len PySem.boot_len (pa_cons (pv 3) pa_nil)) pa_nil))) pa_nil))))
      (pss_cons (ps_set (i := 8) sc_Ldeed.nd rfl (Or.inl rfl) (pe_lst pa_nil))
      (pss_cons (ps_for PassesOwn.never rfl (pi_enumT K rfl rfl T.z_enumerate (pa_cons (pv 3) pa_nil)) (pg_tupK (n := 2) K rfl rfl (pgs_cons (pg_name (i := 9) sc_Ldeed.nd rfl (Or.inr rfl)) (pgs_cons (pg_name (i := 10) sc_Ldeed.nd rfl (Or.inr rfl)) pgs_nil))) (pss_one (ps_expr (pe_bmK K rfl PySem.F.plainAttrs_list PySem.F.slot_list_extend PySem.F.type_list_extend mt_extend (pv 8) (pa_cons (pe_compB ["_law_i", "_law_d", "_law_word_here"] [none, some 9, some 10] (pi_range1 rfl T.z_range (pa_cons (pe_op op_sub (pe_callB call_lenS rfl T.z_len PySem.boot_len (pa_cons (pv 10) pa_nil)) pe_int) pa_nil)) ⟨⟨rfl, rfl, by first | exact .inl rfl | exact .inr rfl⟩, ⟨⟨rfl, rfl, by first | exact .inl rfl | exact .inr rfl⟩, trivial⟩⟩ (fun _ _ _ _ => (pg_name (i := 0) (by decide +kernel : List.Nodup (["_law_i", "_law_d", "_law_word_here"] : List Str)) rfl (Or.inl rfl))) (fun _ _ _ _ => (pf_one (pt_cmpR op_eqS (pe_ix ix_S (pv 2) (pv 0) (fun _ _ => rfl)) (pe_call G_Lother (hr.mono (by decide)) rfl T.F11.mg T.F11.fn.kp T.F11.bd .nil pass0 (pa_cons (pe_ix ix_S (pv 2) (pe_op op_add (pv 0) pe_int) (fun _ _ => rfl)) pa_nil)) (nomark _)))) (fun _ _ _ _ => (pe_tup (pa_cons (pv 1) (pa_cons (pv 0) pa_nil))))) pa_nil)))))
      (pss_cons (ps_if (PW.pt (pw_and (pt_cmpR op_eqI (pv 5) pe_int (nomark _)) (pw_and1 (pt_cmpR (op_neD K rfl hr) (pv 8) (pe_lst pa_nil) (nomark _))))) (pss_one (ps_ret (pe_op (op_catTK K rfl) (pe_tup (pa_cons (pe_S [111, 117, 116] (by decide +kernel)) pa_nil)) (pe_ix (ix_listK K rfl) (pv 8) (pe_call G_Ltake (hr.mono (by decide)) rfl T.F10.mg T.F10.fn.kp T.F10.bd .nil pass0 (pa_cons (pv 0) (pa_cons (pe_callB (call_len_seqK K rfl) rfl T.z_len PySem.boot_len (pa_cons (pv 8) pa_nil)) pa_nil))) (fun _ _ => rfl))))) pss_nil)
      (pss_cons (ps_if (PW.pt (pw_and (pt_cmpR op_eqI (pv 5) pe_int (nomark _)) (pw_and (pt_cmpR op_gt (pe_callB (call_len_seqK K rfl) rfl T.z_len PySem.boot_len (pa_cons (pv 3) pa_nil)) pe_int (nomark _)) (pw_and (pt_cmpR op_lt (pe_callB call_lenS rfl T.z_len PySem.boot_len (pa_cons (pe_ix (ix_tupK K rfl) (pv 3) (pv 7) (fun _ _ => rfl)) pa_nil)) pe_int (nomark _)) (pw_and1 (pt_cmpR op_lt (pe_callB call_lenS rfl T.z_len PySem.boot_len (pa_cons (pe_bmK K rfl PySem.F.plainAttrs_str PySem.F.slot_str_join PySem.F.type_str_join (mt_joinT K rfl) (pe_S [] (by decide +kernel)) (pa_cons (pv 3) pa_nil)) pa_nil)) pe_int (nomark _))))))) (pss_cons (ps_set (i := 11) sc_Ldeed.nd rfl (Or.inr rfl) (pe_ix ix_S (pv 1) (pe_call G_Ltake (hr.mono (by decide)) rfl T.F10.mg T.F10.fn.kp T.F10.bd .nil pass0 (pa_cons (pv 0) (pa_cons (pe_callB call_lenS rfl T.z_len PySem.boot_len (pa_cons (pv 1) pa_nil)) pa_nil))) (fun _ _ => rfl)))
      (pss_cons (ps_set (i := 12) sc_Ldeed.nd rfl (Or.inl rfl) (pe_ix (ix_listK K rfl) (pe_compB ["_law_j", "_law_name", "_law_x"] [none, none, some 11] (pi_enumL K rfl rfl T.z_enumerate (pa_cons (pv 6) pa_nil)) ⟨⟨rfl, rfl, by first | exact .inl rfl | exact .inr rfl⟩, trivial⟩ (fun _ _ _ _ => (pg_tupK (n := 2) K rfl rfl (pgs_cons (pg_name (i := 0) (by decide +kernel : List.Nodup (["_law_j", "_law_name", "_law_x"] : List Str)) rfl (Or.inl rfl)) (pgs_cons (pg_name (i := 1) (by decide +kernel : List.Nodup (["_law_j", "_law_name", "_law_x"] : List Str)) rfl (Or.inl rfl)) pgs_nil)))) (fun _ _ _ _ => (pf_one (pt_cmpR (op_inK K rfl) (pv 2) (pe_tup (pa_cons (pv 1) (pa_cons (pe_call G_Lother (hr.mono (by decide)) rfl T.F11.mg T.F11.fn.kp T.F11.bd .nil pass0 (pa_cons (pv 1) pa_nil)) pa_nil))) (by with_unfolding_all rfl)))) (fun _ _ _ _ => (pv 0))) pe_int (fun _ _ => rfl)))
      (pss_one (ps_ret (pe_tup (pa_cons (pe_S [105, 110] (by decide +kernel)) (pa_cons (pv 7) (pa_cons (pe_call G_Ltake (hr.mono (by decide)) rfl T.F10.mg T.F10.fn.kp T.F10.bd .nil pass0 (pa_cons (pv 0) (pa_cons (pe_op op_add (pe_callB call_lenS rfl T.z_len PySem.boot_len (pa_cons (pe_ix (ix_tupK K rfl) (pv 3) (pv 7) (fun _ _ => rfl)) pa_nil)) pe_int) pa_nil))) (pa_cons (pv 11) (pa_cons (pe_call G_Ltake (hr.mono (by decide)) rfl T.F10.mg T.F10.fn.kp T.F10.bd .nil pass0 (pa_cons (pv 0) (pa_cons (pe_op op_add (pe_callB (call_len_seqK K rfl) rfl T.z_len PySem.boot_len (pa_cons (pe_ix (ix_tupK K rfl) (pv 4) (pv 12) (fun _ _ => rfl)) pa_nil)) pe_int) pa_nil))) pa_nil)))))))))) pss_nil)
      (pss_cons (ps_setCB (i := 13) ["_law_k", "_law_orders"] [none, some 4] sc_Ldeed.nd rfl (Or.inl rfl) (pi_range1 rfl T.z_range (pa_cons (pe_callB (call_len_seqK K rfl) rfl T.z_len PySem.boot_len (pa_cons (pv 6) pa_nil)) pa_nil)) ⟨⟨rfl, rfl, by first | exact .inl rfl | exact .inr rfl⟩, trivial⟩ (fun _ _ _ _ => (pg_name (i := 0) (by decide +kernel : List.Nodup (["_law_k", "_law_orders"] : List Str)) rfl (Or.inl rfl))) (fun _ _ _ _ => (pf_one (pt_cmpR op_gt (pe_callB (call_len_seqK K rfl) rfl T.z_len PySem.boot_len (pa_cons (pe_ix (ix_tupK K rfl) (pv 1) (pv 0) (fun _ _ => rfl)) pa_nil)) pe_int (nomark _)))) (fun _ _ _ _ => (pv 0)))
      (pss_cons (ps_if (PW.pt (pw_or (PW.pt (pw_and (pt_cmpR op_eqI (pv 5) pe_int (nomark _)) (pw_and1 (pt_cmpR op_gt (pe_callB (call_len_seqK K rfl) rfl T.z_len PySem.boot_len (pa_cons (pv 3) pa_nil)) pe_int (nomark _))))) (pw_or1 (pt_cmpR (op_eqD K rfl hr) (pv 13) (pe_lst pa_nil) (nomark _))))) (pss_one (ps_ret (pe_tup (pa_cons (pe_S [116, 117, 114, 110] (by decide +kernel)) (pa_cons (pv 7) pa_nil))))) pss_nil)
      (pss_cons (ps_set (i := 12) sc_Ldeed.nd rfl (Or.inl rfl) (pe_ix (ix_listK K rfl) (pv 13) (pe_call G_Ltake (hr.mono (by decide)) rfl T.F10.mg T.F10.fn.kp T.F10.bd .nil pass0 (pa_cons (pv 0) (pa_cons (pe_callB (call_len_seqK K rfl) rfl T.z_len PySem.boot_len (pa_cons (pv 13) pa_nil)) pa_nil))) (fun _ _ => rfl)))
      (pss_one (ps_ret (pe_tup (pa_cons (pe_S [115, 119, 97, 112] (by decide +kernel)) (pa_cons (pe_ix (ix_listK K rfl) (pv 6) (pv 12) (fun _ _ => rfl)) (pa_cons (pe_call G_Ltake (hr.mono (by decide)) rfl T.F10.mg T.F10.fn.kp T.F10.bd .nil pass0 (pa_cons (pv 0) (pa_cons (pe_op op_sub (pe_callB (call_len_seqK K rfl) rfl T.z_len PySem.boot_len (pa_cons (pe_ix (ix_tupK K rfl) (pv 4) (pv 12) (fun _ _ => rfl)) pa_nil)) pe_int) pa_nil))) pa_nil))))))))))))))))), ?_⟩
  obtain ⟨b, y, dr, ws, os, rfl, hb, hy, hy1, hz, hwn, hg, hd, q⟩ := h
  have hs : (100000 : Nat) < sizeLine := by decide
  obtain ⟨⟨wt, ot, d1, d2, d3⟩, dO⟩ := id hd
  have hwf := hg.few
  have hall := hg.all12
  have hbl := bsOf_len hy
  have hol : os.length = (bsOf y).length := by have := hg.ln; rwa [List.length_map] at this
  have hw1 : 1 ≤ ws.length := by cases ws with | nil => exact absurd rfl hwn | cons _ _ => simp
  refine ⟨_, rfl, dr, _, rfl, SqT.of d1, rfl, _, _, rfl, _, _, rfl, rfl, ?_⟩
  refine ⟨_, rfl, b, 4, rfl, hb, by decide, by decide, fun fm H1 hfm hb1 s1 => ?_⟩
  refine ⟨_, rfl, y, rfl, by omega, fun nm l2 H2 n2 hnm hl2 hw2 s2 => ?_⟩
  rw [smalls_low hy.lt] at hl2
  have el := bsOf_eq hl2 hw2
  subst el
  have hb2 := hb1.same s2
  have s02 : SameB b H H2 := s1.after s2
  have ts2 : TSame H H2 := TSame.box hb s02
  refine ⟨_, rfl, _, rfl, wt, _, rfl, .inr (SqT.of (ts2 _ _ d2)), _, _, rfl, ?_⟩
  have hmx : (if ((txs ws).length : Int) > 1 then ((txs ws).length : Int) else 1) = ((ws.length : Nat) : Int) := by rw [txs_len]; split <;> omega
  rw [hmx]
  refine ⟨b, _, rfl, hb2, by omega, by omega, fun c H3 hc hb3 s3 => ?_⟩
  have s03 := s02.trans s3
  have hnb : nm ≠ b := hb1.ne n2
  have hnm3 := s3 _ _ hnm hnb
  (repeat (first | refine ⟨_, rfl, ?_⟩ | refine ⟨_, _, rfl, rfl, ?_⟩ | refine ⟨_, _, _, rfl, rfl, by first | assumption | omega, by assumption, ?_⟩ | refine ⟨rfl, ?_⟩ | refine And.intro (by first | decide | omega | assumption | exact Nat.le_of_ble_eq_true rfl | exact .inl ⟨by decide, by decide⟩ | exact .inr ⟨by decide, by decide⟩ | exact ⟨by decide, by decide⟩ | exact ⟨by omega, by omega⟩) ?_))
  intro p4 n4
  have b4 : p4 ≠ b := hb3.ne n4
  have hnm4 := (Same.upd (o := HO.lst []) n4) _ _ hnm3
  have hb4 := hb3.same (Same.upd (o := HO.lst []) n4)
  have s04 := s03.after (Same.upd (o := HO.lst []) n4)
  have hp4 : upd H3 p4 (HO.lst []) p4 = some (HO.lst []) := upd_same
  have hpn : p4 ≠ nm := Ne.symm (ne_of_none hnm3 n4)
  have n40 : H p4 = none := s03.none n4 b4
  generalize upd H3 p4 (HO.lst []) = H4 at hnm4 hb4 s04 hp4 ⊢
  have ts4 : TSame H H4 := TSame.box hb s04
  have d2' := ts4 _ _ d2
  have d3' := ts4 _ _ d3
  refine ⟨_, rfl, wt, rfl, ⟨_, SqT.of d2'⟩, ?_⟩
  refine for_enumT (K := K) (a := wt) (xs := txs ws) (fun j σ H' => ∃ (ps : List Pr) (dv wv : Option V), σ = [some (.ref b), some (.str (S y)), some (.ref dr), some (.ref wt), some (.ref ot), some (.int fm), some (.ref nm), some (.int c), some (.ref p4), dv, wv, none, none, none] ∧ H' p4 = some (.lst (prv ps)) ∧ (∀ p ∈ ps, PrOk H' p ∧ OutAt ws p) ∧ ps.length ≤ 12 * j ∧ SameB p4 H4 H')
    ⟨[], none, none, rfl, hp4, fun _ h => absurd h List.not_mem_nil, Nat.zero_le _, SameB.refl _ _⟩ (fun j σ H' _ ⟨_, _, _, _, _, _, _, s⟩ => SqT.of (s _ _ d2' (ne_of_none d2 n40))) ?_ ?_
  · rintro j x σ H5 T hxj ⟨ps, dv, wv, rfl, hp5, hps, hpl, s5⟩ nT
    have hj : j < ws.length := by
      have := (List.getElem?_eq_some_iff.mp hxj).1
      rwa [txs_len] at this
    rw [txs_at hj] at hxj
    cases hxj
    have hjw : ws[j]? = some ws[j] := List.getElem?_eq_getElem hj
    obtain ⟨hwy, hwz⟩ := hall _ (List.getElem_mem hj)
    generalize ws[j] = w at hjw hwy hwz ⊢
    have hwz2 : w.length ≤ sizeLine := by omega
    refine ⟨T, _, rfl, SqT.of upd_same, rfl, _, _, rfl, _, _, rfl, rfl, ?_⟩
    have sT := Same.upd (o := HO.tup [.int j, .str (S w)]) nT
    have hp5T := sT _ _ hp5
    generalize upd H5 T (HO.tup [.int j, .str (S w)]) = H6 at sT hp5T ⊢
    refine ⟨_, rfl, .inl ⟨rfl, _, SqL.of hp5T⟩, ?_⟩
    refine ⟨_, rfl, w, rfl, hwz2, _, _, rfl, rfl, _, rfl, by omega, by omega, ?_⟩
    refine comp_rng (fun m acc H' => Same H6 H' ∧ ∃ vs : List Pr, acc = prv vs ∧ (∀ p ∈ vs, PrOk H' p ∧ OutAt ws p) ∧ vs.length ≤ m) (by omega) ⟨Same.refl _, [], rfl, fun _ h => absurd h List.not_mem_nil, Nat.le_refl _⟩ ?_ ?_
    · rintro m acc H7 Nx hm hal ⟨s7, vs, rfl, hvs, hvl⟩ nx
      have hm1 : m + 1 < w.length := by omega
      rw [Int.zero_add]
      have g0 : atI w ((m : Nat) : Int) = some w[m] := atI_nat (List.getElem?_eq_getElem (by omega))
      have g1 : atI w ((m : Nat) + 1 : Int) = some w[m + 1] := by
        have : ((m : Nat) : Int) + 1 = ((m + 1 : Nat) : Int) := by omega
        rw [this]; exact atI_nat (List.getElem?_eq_getElem hm1)
      have hl1 : Lt w[m + 1] := hy.lt _ (hwy _ (List.getElem_mem hm1))
      refine ⟨⟨rfl, rfl, trivial⟩, ?_⟩
      refine ⟨_, rfl, _, rfl, w, _, _, rfl, rfl, hwz2, g0, _, rfl, _, rfl, _, _, rfl, rfl, w, _, _, rfl, rfl, hwz2, g1, _, rfl, hl1, [w[m]], [ctr w[m + 1]], rfl, rfl, _, rfl, ite2 (fun z => ?_) (fun z => ?_)⟩
      · have ez : w[m] = ctr w[m + 1] := by simpa using of_decide_eq_true z
        refine ⟨_, rfl, _, rfl, by show 2 ≤ sizeLine; decide, fun t nt => ?_⟩
        refine nx _ _ (by simpa using hal) ⟨s7.trans (Same.upd nt), vs ++ [⟨t, j, m⟩], prv_snoc vs ⟨t, j, m⟩, fun p hp => ?_, by rw [List.length_append]; show vs.length + 1 ≤ _; omega⟩
        rcases List.mem_append.mp hp with g | g
        · exact ⟨(hvs p g).1.same (Same.upd nt), (hvs p g).2⟩
        · have e2 := List.mem_singleton.mp g
          subst e2
          refine ⟨⟨upd_same, by show j < 1000; omega, by show m < 1000; omega⟩, hj, w[m], ?_, ?_⟩
          · show (ws.getD j [])[m]? = _
            rw [getD_of hjw]; exact List.getElem?_eq_getElem (by omega)
          · show (ws.getD j [])[m + 1]? = _
            rw [getD_of hjw, ez, ctr_ctr hl1]; exact List.getElem?_eq_getElem hm1
      · exact nx _ _ (Nat.le_succ_of_le hal) ⟨s7, vs, rfl, hvs, by omega⟩
    · rintro acc H7 D hal ⟨s7, vs, rfl, hvs, hvl⟩ hD
      have hp7 := s7 _ _ hp5T
      refine ⟨p4, D, _, _, rfl, rfl, (Same.upd hD) _ _ hp7, upd_same, by rw [prv_len, prv_len]; omega, ?_⟩
      rw [prv_app]
      have s57 : Same H5 (upd H7 D (.lst (prv vs))) := (sT.trans s7).trans (Same.upd hD)
      have hp7D := (Same.upd (o := .lst (prv vs)) hD) _ _ hp7
      refine ⟨ps ++ vs, _, _, rfl, upd_same, fun p hp => ?_, by rw [List.length_append]; omega, fun a o ea na => by rw [upd_ne na]; exact s57 _ _ (s5 a o ea na)⟩
      rcases List.mem_append.mp hp with g | g
      · exact ⟨((hps p g).1.same s57).ts (TSame.updL hp7D), (hps p g).2⟩
      · exact ⟨((hvs p g).1.same (Same.upd hD)).ts (TSame.updL hp7D), (hvs p g).2⟩
  · rintro σ H5 ⟨ps, dv, wv, rfl, hp5, hps, hpl, s5⟩
    rw [txs_len] at hpl
    have s05 : SameB b H H5 := fun a o ea na => s5 _ _ (s04 a o ea na) (ne_of_none ea n40)
    have hb5 : BoxAt H5 b := by obtain ⟨u, v, e⟩ := hb4; exact ⟨u, v, s5 _ _ e (Ne.symm b4)⟩
    have ts5 : TSame H H5 := TSame.box hb s05
    have hnm5 := s5 _ _ hnm4 (Ne.symm hpn)
    have d25 := ts5 _ _ d2
    have d35 := ts5 _ _ d3
    have dO5 : ∀ o ∈ os, OdOk H5 o := fun o ho => (dO o ho).ts ts5
    clear s5 hnm4 hb4 s04 hp4 ts4 d2' d3' hnm3 hnm s03 s02 ts2 hb2 s2 s3 hb3 hb1 s1 n2 n4
    apply cutX (H5 := H5)
    · intro key
      refine ⟨_, rfl, _, _, rfl, rfl, _, rfl, ite2 (fun z => ?_) (fun z => ?_)⟩
      · refine ⟨_, rfl, Nat.zero_le _, fun p6 n6 => ?_⟩
        have ly : PyData.canLayAll0 ((ps.map Pr.pair).map prD) = true := (sms_prs (k := 0) fun p hp => (hps p hp).1).ly
        have dp : (PyData.list ((ps.map Pr.pair).map prD)).depth ≤ 60 := Nat.le_trans (Nat.succ_le_succ (sms_prs (k := 0) fun p hp => (hps p hp).1).dp) (by decide)
        have s6 := Same.upd (o := HO.lst []) n6
        refine ⟨.list ((ps.map Pr.pair).map prD), .list [], .lst (SqL.of (s6 _ _ hp5)) (rdds_prs fun p hp => (hps p hp).1.same s6), .lst (SqL.of upd_same) .nil, ⟨ly, rfl⟩, dp, ?_⟩
        refine ⟨_, rfl, ?_⟩
        cases ps with
        | nil => exact iteN (by rfl) (key _ s6)
        | cons p0 pt =>
          refine iteY (by rfl) ?_
          refine ⟨by show 1 ≤ sizeLine; decide, fun t1 nt1 => ?_⟩
          have s7 := s6.trans (Same.upd (o := HO.tup [V.str (S [111, 117, 116])]) nt1)
          have ht1 : upd (upd H5 p6 (HO.lst [])) t1 (HO.tup [V.str (S [111, 117, 116])]) t1 = some (HO.tup [V.str (S [111, 117, 116])]) := upd_same
          generalize upd (upd H5 p6 (HO.lst [])) t1 (HO.tup [V.str (S [111, 117, 116])]) = H7 at s7 ht1 ⊢
          have hp7 := s7 _ _ hp5
          have hl0 : (prv (p0 :: pt)).length = pt.length + 1 := by rw [prv_len]; rfl
          refine ⟨_, rfl, _, rfl, _, rfl, p4, _, rfl, .inl (SqL.of hp7), b, _, rfl, hb5.same s7, by rw [hl0]; omega, by rw [hl0]; simp at hpl; omega, fun r H8 hr hb8 s8 => ?_⟩
          rw [hl0] at hr
          have hrl : r < (p0 :: pt).length := by simp; omega
          have hrg : (prv (p0 :: pt))[r]? = some (V.ref (p0 :: pt)[r].t) := by unfold prv; rw [List.getElem?_map, List.getElem?_eq_getElem hrl]; rfl
          have hpm := hps _ (List.getElem_mem hrl)
          generalize (p0 :: pt)[r] = pr at hrg hpm
          refine ⟨p4, _, _, _, rfl, rfl, SqL.of (s8 _ _ hp7 b4), atI_nat hrg, ?_⟩
          have ts8 := TSame.box (hb5.same s7) s8
          refine ⟨t1, pr.t, _, _, rfl, rfl, SqT.of (ts8 _ _ ht1), SqT.of (ts8 _ _ (s7 _ _ hpm.1.tp)), by simp, by show 3 ≤ sizeLine; decide, fun e => absurd e (by simp), fun _ p np => ?_⟩
          exact q p (.out pr.c pr.i) _ upd_same hpm.2 (((s05.after s7).trans s8).after (Same.upd np))
      · exact iteF (key _ (Same.refl _))
    · intro H6 s6
      have s06 := s05.after s6
      have hb6 := hb5.same s6
      have d26 := s6 _ _ d25
      have d36 := s6 _ _ d35
      have dO6 : ∀ o ∈ os, OdOk H6 o := fun o ho => (dO5 o ho).same s6
      have hnm6 := s6 _ _ hnm5
      clear s6 s05 hb5 d25 d35 dO5 hnm5 hp5 hps hpl ts5
      have hcw : c < ws.length := by omega
      have hcg : ws[c]? = some ws[c] := List.getElem?_eq_getElem hcw
      obtain ⟨hwy, hwz⟩ := hall _ (List.getElem_mem hcw)
      generalize ws[c] = w at hcg hwy hwz
      have hcv : (txs ws)[c]? = some (V.str (S w)) := by unfold txs; rw [List.getElem?_map, hcg]; rfl
      have hsum : (ws.map List.length).sum ≤ 48 := by
        have : ∀ l : List (List Nat), (∀ w ∈ l, w.length ≤ 12) → (l.map List.length).sum ≤ 12 * l.length := fun l => by
          induction l with
          | nil => intro _; simp
          | cons a l ih => intro h; rw [List.map_cons, List.sum_cons, List.length_cons]; have := ih fun w hw => h w (List.mem_cons_of_mem _ hw); have := h a List.mem_cons_self; omega
        have := this ws fun w hw => (hall w hw).2
        omega
      apply cutX (H5 := H6)
      · intro key
        refine ⟨_, rfl, _, _, rfl, rfl, _, rfl, ite2 (fun z => ?_) (fun z => ?_)⟩
        rotate_left
        · exact iteF (key _ (Same.refl _))
        refine ⟨_, rfl, wt, _, rfl, .inr (SqT.of d26), _, _, rfl, rfl, _, rfl, iteY (decide_eq_true (by rw [txs_len]; omega)) ?_⟩
        refine ⟨_, rfl, _, rfl, wt, _, _, _, rfl, rfl, SqT.of d26, atI_nat hcv, w, rfl, by omega, _, _, rfl, rfl, _, rfl, ite2 (fun z2 => ?_) (fun z2 => ?_)⟩
        rotate_left
        · exact iteF (key _ (Same.refl _))
        refine ⟨rfl, _, rfl, wt, ws, rfl, rfl, SqT.of d26, by omega, ?_⟩
        refine ⟨_, rfl, by rw [List.length_flatten]; omega, _, _, rfl, rfl, _, rfl, ite2 (fun z3 => ?_) (fun z3 => ?_)⟩
        rotate_left
        · exact key _ (Same.refl _)
        have hw11 : w.length < 11 := by have := of_decide_eq_true z2; omega
        have hsl : (100 : Nat) < sizeLine := by decide
        refine ⟨_, rfl, _, rfl, _, rfl, y, rfl, by omega, b, _, rfl, hb6, by omega, by omega, fun r H8 hr hb8 s8 => ?_⟩
        have hrl : r < y.length := by omega
        refine ⟨y, _, _, rfl, rfl, by omega, atI_nat (List.getElem?_eq_getElem hrl), ?_⟩
        have hxy : y[r] ∈ y := List.getElem_mem hrl
        generalize y[r] = x at hxy ⊢
        have hnm8 := s8 _ _ hnm6 hnb
        have ts8 := TSame.box hb6 s8
        have hlo := lo_in hy hxy
        have hid : (bsOf y).idxOf (PyProof.Rows.lo1 x) < (bsOf y).length := List.idxOf_lt_length_of_mem hlo
        have hnd := bs_nd hy
        refine ⟨_, rfl, nm, rfl, ⟨_, SqL.of hnm8⟩, ?_⟩
        refine comp_enumL (K := K) (a := nm) (xs := sgs (bsOf y)) (fun i acc H' => Same H8 H' ∧ acc = if (bsOf y).idxOf (PyProof.Rows.lo1 x) < i then [V.int ((bsOf y).idxOf (PyProof.Rows.lo1 x) : Nat)] else []) (by rw [sgs_len]; omega) (fun i acc H' h => SqL.of (h.1 _ _ hnm8)) ⟨Same.refl _, by simp⟩ ?_ ?_
        · rintro i v acc H9 T Nx hv hal ⟨s9, rfl⟩ nT nx
          obtain ⟨nb, hnb', rfl⟩ := sgs_get hv
          have hnbm := List.mem_of_getElem? hnb'
          have hnbs := bs_small hy hnbm
          have hidn := idxOf_nd hnd hnb'
          refine ⟨T, _, rfl, SqT.of upd_same, rfl, _, _, rfl, _, _, rfl, rfl, ?_⟩
          refine ⟨⟨rfl, trivial⟩, ?_⟩
          refine ⟨_, rfl, _, rfl, _, rfl, nb, rfl, .inl hnbs, by show 2 ≤ sizeLine; decide, fun t nt => ?_⟩
          refine ⟨t, _, rfl, .inr (SqT.of upd_same), rfl, rfl, _, rfl, ?_⟩
          have s9t := s9.trans ((Same.upd (o := HO.tup [.int i, .str (S [nb])]) nT).trans (Same.upd (o := HO.tup [.str (S [nb]), .str (S [ctr nb])]) nt))
          generalize upd (upd H9 T (HO.tup [.int i, .str (S [nb])])) t (HO.tup [.str (S [nb]), .str (S [ctr nb])]) = H10 at s9t ⊢
          show if inV (.str (S [x])) [.str (S [nb]), .str (S [ctr nb])] = true then _ else _
          rw [inV_two]
          have hon : (decide (x = nb) || decide (x = ctr nb)) = decide (PyProof.Rows.lo1 x = nb) := (low_on hnbs (hy.lt x hxy)).symm
          rw [hon]
          refine ite2 (fun v1 => ?_) (fun v1 => ?_)
          · have e1 : PyProof.Rows.lo1 x = nb := of_decide_eq_true v1
            have hid2 : (bsOf y).idxOf (PyProof.Rows.lo1 x) = i := by rw [e1]; exact hidn
            refine ⟨_, rfl, nx _ _ (by simpa using hal) ⟨s9t, ?_⟩⟩
            rw [hid2, if_neg (Nat.lt_irrefl _), if_pos (Nat.lt_succ_self _)]
            rfl
          · have e1 : ¬ PyProof.Rows.lo1 x = nb := fun g => v1 (decide_eq_true g)
            refine nx _ _ (Nat.le_succ_of_le hal) ⟨s9t, ?_⟩
            have e2 : (bsOf y).idxOf (PyProof.Rows.lo1 x) ≠ i := fun g => e1 (by
              have e3 := List.getElem_idxOf hid
              have e4 := (List.getElem?_eq_some_iff.mp hnb').2
              rw [← e3, ← e4]
              congr 1)
            by_cases g : (bsOf y).idxOf (PyProof.Rows.lo1 x) < i
            · rw [if_pos g, if_pos (by omega)]
            · rw [if_neg g, if_neg (by omega)]
        · rintro acc H9 D hal ⟨s9, rfl⟩ hD
          rw [sgs_len, if_pos hid]
          refine ⟨D, _, _, _, rfl, rfl, SqL.of upd_same, atI_nat (j := 0) rfl, ?_⟩
          have s89 := s9.trans (Same.upd (o := HO.lst [V.int ((bsOf y).idxOf (PyProof.Rows.lo1 x) : Nat)]) hD)
          generalize upd H9 D (HO.lst [V.int ((bsOf y).idxOf (PyProof.Rows.lo1 x) : Nat)]) = H10 at s89 ⊢
          have ts10 : TSame H6 H10 := ts8.trans (TSame.of s89)
          have hb10 := hb8.same s89
          have hio : (bsOf y).idxOf (PyProof.Rows.lo1 x) < os.length := by omega
          have hoi : os[(bsOf y).idxOf (PyProof.Rows.lo1 x)]? = some os[(bsOf y).idxOf (PyProof.Rows.lo1 x)] := List.getElem?_eq_getElem hio
          have hom := List.getElem_mem hio
          generalize os[(bsOf y).idxOf (PyProof.Rows.lo1 x)] = o at hoi hom
          refine ⟨_, rfl, _, rfl, _, rfl, _, rfl, wt, _, _, _, rfl, rfl, SqT.of (ts10 _ _ d26), atI_nat hcv, w, rfl, by omega, _, _, rfl, rfl, b, _, rfl, hb10, by omega, by omega, fun r1 H11 hr1 hb11 s11 => ?_⟩
          have ts11 := ts10.trans (TSame.box hb10 s11)
          have ok := (dO6 o hom).ts ts11
          have hlen := hg.len o hom
          refine ⟨_, rfl, _, rfl, _, rfl, _, rfl, ot, _, _, _, rfl, rfl, SqT.of (ts11 _ _ d36), atI_nat (odv_at hoi), o.o, _, rfl, .inr (SqT.of ok.tp), _, _, rfl, rfl, b, _, rfl, hb11, by omega, by rw [prv_len]; omega, fun r2 H12 hr2 hb12 s12 => ?_⟩
          rw [prv_len] at hr2
          refine ⟨by show 5 ≤ sizeLine; decide, fun p np => ?_⟩
          refine q p (.ins c r1 x r2) _ upd_same ⟨hcw, ?_, ?_, hxy, ?_⟩ (((((s06.trans s8).after s89).trans s11).trans s12).after (Same.upd np))
          · rw [getD_of hcg]; omega
          · rw [getD_of hcg]; omega
          · rw [getD_of (show (os.map prs)[(bsOf y).idxOf (PyProof.Rows.lo1 x)]? = some (prs o) by rw [List.getElem?_map, hoi]; rfl)]
            unfold prs
            rw [List.length_map]
            omega
      · intro H7 s7
        have hnm7 := s7 _ _ hnm6
        have d37 := s7 _ _ d36
        have hb7 := hb6.same s7
        have s07 := s06.after s7
        have dO7 : ∀ o ∈ os, OdOk H7 o := fun o ho => (dO6 o ho).same s7
        have hnd := bs_nd hy
        have turn : ∀ (H8 : Hp) (p : Addr), SameB b H H8 → H8 p = none → Q (.ref p) (upd H8 p (.tup [V.str (S [116, 117, 114, 110]), V.int (c : Nat)])) := fun H8 p s8 np => q p (.turn c) _ upd_same hcw (s8.after (Same.upd np))
        refine ⟨_, rfl, nm, _, rfl, .inl (SqL.of hnm7), _, rfl, ?_⟩
        rw [sgs_len]
        refine ⟨by omega, by omega, ?_⟩
        refine comp_rng (fun i acc H' => H' = H7 ∧ ∃ ks : List Nat, acc = ivs ks ∧ (∀ k ∈ ks, ∃ o, os[k]? = some o ∧ 1 < o.ps.length) ∧ ks.length ≤ i) (by omega) ⟨rfl, [], rfl, fun _ h => absurd h List.not_mem_nil, Nat.le_refl _⟩ ?_ ?_
        · rintro i acc H8 Nx hi hal ⟨rfl, ks, rfl, hks, hkl⟩ nx
          have hio : i < os.length := by omega
          have hoi : os[i]? = some os[i] := List.getElem?_eq_getElem hio
          have hom := List.getElem_mem hio
          generalize os[i] = o at hoi hom
          rw [Int.zero_add]
          refine ⟨⟨rfl, trivial⟩, ?_⟩
          refine ⟨_, rfl, _, rfl, ot, _, _, _, rfl, rfl, SqT.of d37, atI_nat (odv_at hoi), o.o, _, rfl, .inr (SqT.of (dO7 o hom).tp), _, _, rfl, rfl, _, rfl, ite2 (fun v => ?_) (fun v => ?_)⟩
          · have v1 : (1 : Int) < ((prv o.ps).length : Int) := of_decide_eq_true v
            rw [prv_len] at v1
            refine ⟨_, rfl, nx _ _ (by simpa using hal) ⟨rfl, ks ++ [i], by unfold ivs; rw [List.map_append]; rfl, fun k hk => ?_, by rw [List.length_append]; show ks.length + 1 ≤ _; omega⟩⟩
            rcases List.mem_append.mp hk with g | g
            · exact hks k g
            · rw [List.mem_singleton.mp g]; exact ⟨o, hoi, by omega⟩
          · exact nx _ _ (Nat.le_succ_of_le hal) ⟨rfl, ks, rfl, hks, by omega⟩
        · rintro acc H8 D hal ⟨rfl, ks, rfl, hks, hkl⟩ hD
          have sD := Same.upd (o := HO.lst (ivs ks)) hD
          have hD8 : upd H8 D (HO.lst (ivs ks)) D = some (HO.lst (ivs ks)) := upd_same
          generalize upd H8 D (HO.lst (ivs ks)) = H9 at sD hD8 ⊢
          have s09 := s07.after sD
          have hb9 := hb7.same sD
          refine ⟨_, rfl, _, _, rfl, rfl, _, rfl, ite2 (fun z => ?_) (fun z => ?_)⟩
          · refine ⟨_, rfl, wt, _, rfl, .inr (SqT.of (sD _ _ (s7 _ _ d26))), _, _, rfl, rfl, _, rfl, iteY (decide_eq_true (by rw [txs_len]; omega)) (iteY rfl ?_)⟩
            exact ⟨_, rfl, by show 2 ≤ sizeLine; decide, fun p np => turn _ _ s09 np⟩
          · refine iteF ⟨_, rfl, Nat.zero_le _, fun p6 n6 => ?_⟩
            have s6 := Same.upd (o := HO.lst []) n6
            refine ⟨.list (ids ks), .list [], .lst (SqL.of (s6 _ _ hD8)) (rdds_ints ks), .lst (SqL.of upd_same) .nil, ⟨lay_ints ks, rfl⟩, by show PyData.depthAll (ids ks) + 1 ≤ 60; rw [depth_ints]; decide, ?_⟩
            have hD10 := s6 _ _ hD8
            have s010 := s09.after s6
            have sD10 := sD.trans s6
            have hb10 := hb9.same s6
            generalize upd H9 p6 (HO.lst []) = H10 at s6 hD10 s010 sD10 hb10 ⊢
            refine ⟨_, rfl, ?_⟩
            cases ks with
            | nil => exact iteY (by rfl) ⟨_, rfl, by show 2 ≤ sizeLine; decide, fun p np => turn _ _ s010 np⟩
            | cons k0 kt =>
              refine iteN (by rfl) ?_
              have hl0 : (ivs (k0 :: kt)).length = kt.length + 1 := by unfold ivs; simp
              refine ⟨_, rfl, _, rfl, _, rfl, D, _, rfl, .inl (SqL.of hD10), b, _, rfl, hb10, by rw [hl0]; omega, by rw [hl0]; simp at hkl; omega, fun r H11 hr hb11 s11 => ?_⟩
              rw [hl0] at hr
              have hrl : r < (k0 :: kt).length := by simp; omega
              have hrg : (ivs (k0 :: kt))[r]? = some (V.int ((k0 :: kt)[r] : Nat)) := by unfold ivs; rw [List.getElem?_map, List.getElem?_eq_getElem hrl]; rfl
              obtain ⟨o, hok, ho2⟩ := hks _ (List.getElem_mem hrl)
              generalize (k0 :: kt)[r] = k at hrg hok
              have hDb : D ≠ b := hb7.ne hD
              refine ⟨D, _, _, _, rfl, rfl, SqL.of (s11 _ _ hD10 hDb), atI_nat hrg, ?_⟩
              have hkb : k < (bsOf y).length := by have := (List.getElem?_eq_some_iff.mp hok).1; omega
              have hkg : (bsOf y)[k]? = some (bsOf y)[k] := List.getElem?_eq_getElem hkb
              have hkm := List.getElem_mem hkb
              generalize (bsOf y)[k] = nb at hkg hkm
              have hkv : (sgs (bsOf y))[k]? = some (V.str (S [nb])) := by unfold sgs; rw [List.getElem?_map, hkg]; rfl
              have hom := List.mem_of_getElem? hok
              have ts11 := (TSame.of sD10).trans (TSame.box hb10 s11)
              have ok := (dO7 o hom).ts ts11
              have hlen := hg.len o hom
              refine ⟨_, rfl, _, rfl, nm, _, _, _, rfl, rfl, SqL.of (s11 _ _ (sD10 _ _ hnm7) hnb), atI_nat hkv, ?_⟩
              refine ⟨_, rfl, _, rfl, _, rfl, ot, _, _, _, rfl, rfl, SqT.of (ts11 _ _ d37), atI_nat (odv_at hok), o.o, _, rfl, .inr (SqT.of ok.tp), _, _, rfl, rfl, b, _, rfl, hb11, by rw [prv_len]; omega, by rw [prv_len]; omega, fun r2 H12 hr2 hb12 s12 => ?_⟩
              rw [prv_len] at hr2
              refine ⟨by show 3 ≤ sizeLine; decide, fun p np => ?_⟩
              refine q p (.swap nb r2) _ upd_same ⟨hkm, ?_⟩ (((s010.trans s11).trans s12).after (Same.upd np))
              rw [idxOf_nd hnd hkg, getD_of (show (os.map prs)[k]? = some (prs o) by rw [List.getElem?_map, hok]; rfl)]
              unfold prs
              rw [List.length_map]
              omega
theorem ok_Lyard (T : Txt K mg f0 f1 f2 f3 f4 f5 f6 f7 f8 f9 f10 f11 f12 f13 f14 f15 f16 f17 f18 f19 f20 f21 f22 d0 d1 d2 d3 d4 d5 d6 d7 d8 d9 d10 d11 d12 d13 d14 d15 d16 d17 d18 d19 d20 d21 d22) : FnOk P w K mg base CX0 2 f12 d12 ["_law_box_here", "_law_few", "_law_top"] (sp_Lyard K) := by
  have G_Ltake := ok_Ltake (P := P) (w := w) (base := base) T
  have G_Lother := ok_Lother (P := P) (w := w) (base := base) T
  refine T.F12.fn.ok sc_Lyard (fun vs H Q E h => len_Lyard h) (fun cdv A outer s H vs Q E hr h => ?_)
  refine ⟨_, (pss_cons (ps_set (i := 3) sc_Lyard.nd rfl (Or.inl rfl) (pe_callTy (call_listS rfl) rfl T.z_list boot_list (pa_cons (pe_S [97, 98, 99, 100, 101, 102, 103, 104, 105, 106, 107, 108, 109, 110, 111, 112, 113, 114, 115, 116, 117, 118, 119, 120, 121, 122] (by decide +kernel)) pa_nil)))
      (pss_cons (ps_set (i := 4) sc_Lyard.nd rfl (Or.inl rfl) (pe_lst pa_nil))
      (pss_cons (ps_for PassesOwn.never rfl (pi_range1 rfl T.z_range (pa_cons (pe_op op_add (pv 1) (pe_call G_Ltake (hr.mono (by decide)) rfl T.F10.mg T.F10.fn.kp T.F10.bd .nil pass0 (pa_cons (pv 0) (pa_cons (pe_op op_add (pe_op op_sub (pv 2) (pv 1)) pe_int) pa_nil)))) pa_nil)) (pg_name (i := 5) sc_Lyard.nd rfl (Or.inl rfl)) (pss_cons (ps_set (i := 6) sc_Lyard.nd rfl (Or.inl rfl) (pe_bmK K rfl PySem.F.plainAttrs_list PySem.F.slot_list_pop PySem.F.type_list_pop mt_popAt (pv 3) (pa_cons (pe_call G_Ltake (hr.mono (by decide)) rfl T.F10.mg T.F10.fn.kp T.F10.bd .nil pass0 (pa_cons (pv 0) (pa_cons (pe_callB (call_len_seqK K rfl) rfl T.z_len PySem.boot_len (pa_cons (pv 3) pa_nil)) pa_nil))) pa_nil)))
      (pss_one (ps_set (i := 4) sc_Lyard.nd rfl (Or.inl rfl) (pe_op op_cat (pv 4) (pe_lst (pa_cons (pv 6) (pa_cons (pe_call G_Lother (hr.mono (by decide)) rfl T.F11.mg T.F11.fn.kp T.F11.bd .nil pass0 (pa_cons (pv 6) pa_nil)) pa_nil))))))))
      (pss_cons (ps_set (i := 7) sc_Lyard.nd rfl (Or.inl rfl) (pe_S [] (by decide +kernel)))
      (pss_cons (ps_whileN PassesOwn.never (pt_cmpR op_gt (pe_callB (call_len_seqK K rfl) rfl T.z_len PySem.boot_len (pa_cons (pv 4) pa_nil)) pe_int (nomark _)) (pss_one (ps_set (i := 7) sc_Lyard.nd rfl (Or.inl rfl) (pe_op op_addS (pv 7) (pe_bmK K rfl PySem.F.plainAttrs_list PySem.F.slot_list_pop PySem.F.type_list_pop mt_popAt (pv 4) (pa_cons (pe_call G_Ltake (hr.mono (by decide)) rfl T.F10.mg T.F10.fn.kp T.F10.bd .nil pass0 (pa_cons (pv 0) (pa_cons (pe_callB (call_len_seqK K rfl) rfl T.z_len PySem.boot_len (pa_cons (pv 4) pa_nil)) pa_nil))) pa_nil))))))
      (pss_one (ps_ret (pv 7)))))))), ?_⟩
  obtain ⟨b, few, top, rfl, hb, h1, h2, h3, q⟩ := h
  have hs : (100000 : Nat) < sizeLine := by decide
  (repeat (first | refine ⟨_, rfl, ?_⟩ | refine ⟨_, _, rfl, rfl, ?_⟩ | refine ⟨rfl, ?_⟩ | refine And.intro (by first | decide | omega | assumption | exact Nat.le_of_ble_eq_true rfl | exact .inl ⟨by decide, by decide⟩ | exact .inr ⟨by decide, by decide⟩ | exact ⟨by decide, by decide⟩ | exact ⟨by omega, by omega⟩) ?_))
  intro p1 n1
  (repeat (first | refine ⟨_, rfl, ?_⟩ | refine ⟨_, _, rfl, rfl, ?_⟩ | refine ⟨rfl, ?_⟩ | refine And.intro (by first | decide | omega | assumption | exact Nat.le_of_ble_eq_true rfl | exact .inl ⟨by decide, by decide⟩ | exact .inr ⟨by decide, by decide⟩ | exact ⟨by decide, by decide⟩ | exact ⟨by omega, by omega⟩) ?_))
  intro p2 n2
  have s1 : Same H (upd (upd H p1 (.lst (sgs smalls))) p2 (.lst [])) := (Same.upd n1).trans (Same.upd n2)
  have bp1 : p1 ≠ b := hb.ne n1
  have np2 : H p2 = none := Same.free (Same.upd n1) n2
  have bp2 : p2 ≠ b := hb.ne np2
  have p12 : p1 ≠ p2 := fun z => by rw [← z, upd_same] at n2; cases n2
  (repeat (first | refine ⟨_, rfl, ?_⟩ | refine ⟨_, _, rfl, rfl, ?_⟩ | refine ⟨rfl, ?_⟩ | refine And.intro (by first | decide | omega | assumption | exact Nat.le_of_ble_eq_true rfl | exact .inl ⟨by decide, by decide⟩ | exact .inr ⟨by decide, by decide⟩ | exact ⟨by decide, by decide⟩ | exact ⟨by omega, by omega⟩) ?_))
  refine ⟨b, _, rfl, hb.same s1, by omega, by omega, fun n H1 hn hb1 s2 => ?_⟩
  (repeat (first | refine ⟨_, rfl, ?_⟩ | refine ⟨_, _, rfl, rfl, ?_⟩ | refine ⟨rfl, ?_⟩ | refine And.intro (by first | decide | omega | assumption | exact Nat.le_of_ble_eq_true rfl | exact .inl ⟨by decide, by decide⟩ | exact .inr ⟨by decide, by decide⟩ | exact ⟨by decide, by decide⟩ | exact ⟨by omega, by omega⟩) ?_))
  refine for_range (fun i σ H' => ∃ (pe : Addr) (L E : List Nat) (kv lv : Option V), σ = [some (.ref b), some (.int few), some (.int top), some (.ref p1), some (.ref pe), kv, lv, none] ∧ YdW i L E ∧ H' p1 = some (.lst (sgs L)) ∧ H' pe = some (.lst (sgs E)) ∧ p1 ≠ pe ∧ H pe = none ∧ BoxAt H' b ∧ SameB b H H')
    ⟨p2, smalls, [], none, none, rfl, YdW.start, s2 _ _ (by rw [upd_ne p12, upd_same]; rfl) bp1, s2 _ _ upd_same bp2, p12, np2, hb1, (SameB.of s1).trans s2⟩ ?_ ?_
  · rintro i σ H2 hi ⟨pe, L, E, kv, lv, rfl, yw, hp1, hpe, n1e, npe, hb2, s3⟩
    have hi2 : i < 26 := by simp at hi; omega
    have hll := yw.ll
    have hel := yw.el
    refine ⟨_, rfl, .inl ⟨rfl, _, SqL.of hp1⟩, ?_⟩
    (repeat (first | refine ⟨_, rfl, ?_⟩ | refine ⟨_, _, rfl, rfl, ?_⟩ | refine ⟨rfl, ?_⟩ | refine And.intro (by first | decide | omega | assumption | exact Nat.le_of_ble_eq_true rfl | exact .inl ⟨by decide, by decide⟩ | exact .inr ⟨by decide, by decide⟩ | exact ⟨by decide, by decide⟩ | exact ⟨by omega, by omega⟩) ?_))
    refine ⟨p1, _, rfl, .inl (SqL.of hp1), b, _, rfl, hb2, by rw [sgs_len]; omega, by rw [sgs_len]; omega, fun r H3 hr3 hb3 s4 => ?_⟩
    rw [sgs_len] at hr3
    have hr4 : r < L.length := by omega
    have hp1' := s4 _ _ hp1 bp1
    have hpe' := s4 _ _ hpe (hb.ne npe)
    refine ⟨p1, _, _, r, _, rfl, rfl, hp1', by omega, by omega, by rw [sgs_len, seqIndex_of (by omega) (by omega), Int.toNat_natCast], sgs_at hr4, ?_⟩
    rw [sgs_erase]
    have hlt : Lt L[r] := .inl (yw.sm _ (List.getElem_mem hr4))
    have hpe2 : (upd H3 p1 (.lst (sgs (L.eraseIdx r)))) pe = some (.lst (sgs E)) := by rw [upd_ne (Ne.symm n1e)]; exact hpe'
    (repeat (first | refine ⟨_, rfl, ?_⟩ | refine ⟨_, _, rfl, rfl, ?_⟩ | refine ⟨rfl, ?_⟩ | refine And.intro (by first | decide | omega | assumption | exact Nat.le_of_ble_eq_true rfl | exact .inl ⟨by decide, by decide⟩ | exact .inr ⟨by decide, by decide⟩ | exact ⟨by decide, by decide⟩ | exact ⟨by omega, by omega⟩) ?_))
    intro p3 n3
    have e3 : pe ≠ p3 := ne_of_none hpe2 n3
    refine ⟨pe, p3, _, _, rfl, rfl, by rw [upd_ne e3]; exact hpe2, upd_same, by rw [sgs_len]; show E.length + 2 ≤ _; omega, fun p4 n4 => ?_⟩
    have n3' : H p3 = none := ((s3.trans s4).updN n1).none n3 (hb3.updN bp1 |>.ne n3)
    have bx3 := (hb3.updN (o := .lst (sgs (L.eraseIdx r))) bp1).updN (o := .lst [V.str (S [L[r]]), V.str (S [ctr L[r]])]) (hb.ne n3')
    have sx3 := ((s3.trans s4).updN (o := .lst (sgs (L.eraseIdx r))) n1).updN (o := .lst [V.str (S [L[r]]), V.str (S [ctr L[r]])]) n3'
    have n4' : H p4 = none := sx3.none n4 (bx3.ne n4)
    have h14 : p1 ≠ p4 := fun z => by rw [← z] at n4; by_cases z3 : p1 = p3 <;> simp [upd, z3] at n4
    have h13 : p1 ≠ p3 := fun z => by rw [← z, upd_same] at n3; cases n3
    refine ⟨p4, L.eraseIdx r, E ++ [L[r], ctr L[r]], _, _, rfl, yw.turn hi2 hr4, by rw [upd_ne h14, upd_ne h13, upd_same], ?_, h14, n4', bx3.updN (hb.ne n4'), sx3.updN n4'⟩
    rw [upd_same, ← sgs_app]
    rfl
  · rintro σ H2 ⟨pe, L, E, kv, lv, rfl, yw, hp1, hpe, n1e, npe, hb2, s3⟩
    have hel := yw.el
    have hbe := hb.ne npe
    (repeat (first | refine ⟨_, rfl, ?_⟩ | refine ⟨_, _, rfl, rfl, ?_⟩ | refine ⟨rfl, ?_⟩ | refine And.intro (by first | decide | omega | assumption | exact Nat.le_of_ble_eq_true rfl | exact .inl ⟨by decide, by decide⟩ | exact .inr ⟨by decide, by decide⟩ | exact ⟨by decide, by decide⟩ | exact ⟨by omega, by omega⟩) ?_))
    refine ⟨fun m σ H' => ∃ F E' : List Nat, σ = [some (.ref b), some (.int few), some (.int top), some (.ref p1), some (.ref pe), kv, lv, some (.str (S F))] ∧ m = E'.length ∧ (F ++ E').Perm E ∧ H' pe = some (.lst (sgs E')) ∧ BoxAt H' b ∧ SameB b H H', ⟨_, [], E, rfl, rfl, List.Perm.refl _, hpe, hb2, s3⟩, ?_⟩
    rintro m σ H3 ⟨F, E', rfl, rfl, hpm, hpe3, hb3, s4⟩
    have hlen := hpm.length_eq
    rw [List.length_append] at hlen
    have hn2 : (few : Int) + n ≤ 9 := by omega
    have hE26 : E.length ≤ 100 := by rw [hel]; omega
    (repeat (first | refine ⟨_, rfl, ?_⟩ | refine ⟨_, _, rfl, rfl, ?_⟩ | refine ⟨rfl, ?_⟩ | refine And.intro (by first | decide | omega | assumption | exact Nat.le_of_ble_eq_true rfl | exact .inl ⟨by decide, by decide⟩ | exact .inr ⟨by decide, by decide⟩ | exact ⟨by decide, by decide⟩ | exact ⟨by omega, by omega⟩) ?_))
    refine ⟨pe, _, rfl, .inl (SqL.of hpe3), _, _, rfl, rfl, _, rfl, ite2 (fun e => ?_) (fun e => ?_)⟩
    · have e' : (0 : Int) < ((sgs E').length : Nat) := of_decide_eq_true e
      rw [sgs_len] at e'
      refine ⟨_, rfl, _, rfl, .inl ⟨rfl, _, SqL.of hpe3⟩, ?_⟩
      (repeat (first | refine ⟨_, rfl, ?_⟩ | refine ⟨_, _, rfl, rfl, ?_⟩ | refine ⟨rfl, ?_⟩ | refine And.intro (by first | decide | omega | assumption | exact Nat.le_of_ble_eq_true rfl | exact .inl ⟨by decide, by decide⟩ | exact .inr ⟨by decide, by decide⟩ | exact ⟨by decide, by decide⟩ | exact ⟨by omega, by omega⟩) ?_))
      refine ⟨pe, _, rfl, .inl (SqL.of hpe3), b, _, rfl, hb3, by rw [sgs_len]; omega, by rw [sgs_len]; omega, fun r H4 hr4 hb4 s5 => ?_⟩
      rw [sgs_len] at hr4
      have hr5 : r < E'.length := by omega
      refine ⟨pe, _, _, r, _, rfl, rfl, s5 _ _ hpe3 hbe, by omega, by omega, by rw [sgs_len, seqIndex_of (by omega) (by omega), Int.toNat_natCast], sgs_at hr5, ?_⟩
      rw [sgs_erase]
      have hp := erase_perm (List.getElem?_eq_getElem hr5)
      have hpl := hp.length_eq
      rw [List.length_cons] at hpl
      refine ⟨F, _, rfl, rfl, by show F.length + 1 ≤ _; omega, (E'.eraseIdx r).length, by omega, F ++ [E'[r]], E'.eraseIdx r, rfl, rfl, ?_, upd_same, hb4.updN hbe, (s4.trans s5).updN npe⟩
      rw [List.append_assoc]
      exact (List.Perm.append_left F hp).trans hpm
    · have e' : E' = [] := by
        cases E' with
        | nil => rfl
        | cons c r => exact absurd (decide_eq_true (by rw [sgs_len]; show (0 : Int) < ((r.length + 1 : Nat) : Int); omega)) e
      subst e'
      rw [List.append_nil] at hpm
      have hl2 := hpm.length_eq
      refine ⟨_, rfl, q F H3 (yw.yd.perm hpm.symm) ?_ ?_ hb3 s4⟩
      · rw [hl2, hel]; omega
      · rw [hl2, hel]; omega
theorem ok_Lbox (T : Txt K mg f0 f1 f2 f3 f4 f5 f6 f7 f8 f9 f10 f11 f12 f13 f14 f15 f16 f17 f18 f19 f20 f21 f22 d0 d1 d2 d3 d4 d5 d6 d7 d8 d9 d10 d11 d12 d13 d14 d15 d16 d17 d18 d19 d20 d21 d22) : FnOk P w K mg base CX0 1 f9 d9 ["_law_script", "_law_k"] (sp_Lbox K) := by
  refine T.F9.fn.ok sc_Lbox (fun vs H Q E h => len_Lbox h) (fun cdv A outer s H vs Q E hr h => ?_)
  refine ⟨_, (pss_cons (ps_set (i := 2) sc_Lbox.nd rfl (Or.inl rfl) (pe_op op_add (pe_op op_mul pe_int (pv 1)) pe_int))
      (pss_cons (ps_if (pt_cmpR op_lt (pv 1) (pe_callB (call_len_seqK K rfl) rfl T.z_len PySem.boot_len (pa_cons (pv 0) pa_nil)) (nomark _)) (pss_one (ps_set (i := 2) sc_Lbox.nd rfl (Or.inl rfl) (pe_ix (ix_listK K rfl) (pv 0) (pv 1) (fun _ _ => rfl)))) (pss_one (ps_if (pt_cmpR op_gt (pe_callB (call_len_seqK K rfl) rfl T.z_len PySem.boot_len (pa_cons (pv 0) pa_nil)) pe_int (nomark _)) (pss_one (ps_set (i := 2) sc_Lbox.nd rfl (Or.inl rfl) (pe_op op_add (pv 2) (pe_op op_mul (pe_op op_mod (pe_ix (ix_listK K rfl) (pv 0) (pe_op op_mod (pv 1) (pe_callB (call_len_seqK K rfl) rfl T.z_len PySem.boot_len (pa_cons (pv 0) pa_nil))) (fun _ _ => rfl)) pe_int) pe_int)))) pss_nil)))
      (pss_cons (ps_set (i := 3) sc_Lbox.nd rfl (Or.inl rfl) (pe_op op_mod (pe_op op_pow (pe_op op_add (pe_op op_add (pe_op op_mod (pv 2) pe_int) (pe_op op_mul pe_int (pv 1))) pe_int) pe_int) pe_int))
      (pss_one (ps_ret (pe_lst (pa_cons (pe_ix (ix_listK K rfl) (pe_lst (pa_cons pe_int (pa_cons (pv 2) pa_nil))) (pe_callTy call_int1 rfl T.z_int boot_int (pa_cons (pe_cmpR op_ge (pv 2) (pe_op op_pow pe_int pe_int) (nomark _)) pa_nil)) (fun _ _ => rfl)) (pa_cons (pe_op op_add (pe_op op_mod (pv 3) pe_int) pe_int) pa_nil)))))))), ?_⟩
  obtain ⟨a, ns, k, rfl, hS, hk, q⟩ := h
  have hp : (0 : Int) < 2147483629 := by decide
  (repeat (first | refine ⟨_, rfl, ?_⟩ | refine ⟨_, _, rfl, rfl, ?_⟩ | refine ⟨rfl, ?_⟩ | refine And.intro (by first | decide | omega | assumption | exact Nat.le_of_ble_eq_true rfl | exact .inl ⟨by decide, by decide⟩ | exact .inr ⟨by decide, by decide⟩ | exact ⟨by decide, by decide⟩ | exact ⟨by omega, by omega⟩) ?_))
  refine ⟨a, _, rfl, .inl hS, ?_⟩
  (repeat (first | refine ⟨_, rfl, ?_⟩ | refine ⟨_, _, rfl, rfl, ?_⟩ | refine ⟨rfl, ?_⟩ | refine And.intro (by first | decide | omega | assumption | exact Nat.le_of_ble_eq_true rfl | exact .inl ⟨by decide, by decide⟩ | exact .inr ⟨by decide, by decide⟩ | exact ⟨by decide, by decide⟩ | exact ⟨by omega, by omega⟩) ?_))
  refine ite2 (fun e => ?_) (fun e => ?_)
  · have e' : (k : Int) < ((ns.map V.int).length : Nat) := of_decide_eq_true e
    rw [List.length_map] at e'
    obtain ⟨z, hz⟩ := ints_at (ns := ns) (i := k) (by omega)
    (repeat (first | refine ⟨_, rfl, ?_⟩ | refine ⟨_, _, rfl, rfl, ?_⟩ | refine ⟨rfl, ?_⟩ | refine And.intro (by first | decide | omega | assumption | exact Nat.le_of_ble_eq_true rfl | exact .inl ⟨by decide, by decide⟩ | exact .inr ⟨by decide, by decide⟩ | exact ⟨by decide, by decide⟩ | exact ⟨by omega, by omega⟩) ?_))
    refine ⟨a, _, k, _, rfl, rfl, hS, atI_nat hz, ?_⟩
    (repeat (first | refine ⟨_, rfl, ?_⟩ | refine ⟨_, _, rfl, rfl, ?_⟩ | refine ⟨rfl, ?_⟩ | refine And.intro (by first | decide | omega | assumption | exact Nat.le_of_ble_eq_true rfl | exact .inl ⟨by decide, by decide⟩ | exact .inr ⟨by decide, by decide⟩ | exact ⟨by decide, by decide⟩ | exact ⟨by omega, by omega⟩) ?_))
    refine fun p1 n1 => ?_
    (repeat (first | refine ⟨_, rfl, ?_⟩ | refine ⟨_, _, rfl, rfl, ?_⟩ | refine ⟨rfl, ?_⟩ | refine And.intro (by first | decide | omega | assumption | exact Nat.le_of_ble_eq_true rfl | exact .inl ⟨by decide, by decide⟩ | exact .inr ⟨by decide, by decide⟩ | exact ⟨by decide, by decide⟩ | exact ⟨by omega, by omega⟩) ?_))
    refine .inr ⟨_, rfl, ?_⟩
    obtain ⟨y, hy⟩ := box_at _ z
    refine ⟨p1, _, _, _, rfl, rfl, SqL.of upd_same, hy, ?_⟩
    (repeat (first | refine ⟨_, rfl, ?_⟩ | refine ⟨_, _, rfl, rfl, ?_⟩ | refine ⟨rfl, ?_⟩ | refine And.intro (by first | decide | omega | assumption | exact Nat.le_of_ble_eq_true rfl | exact .inl ⟨by decide, by decide⟩ | exact .inr ⟨by decide, by decide⟩ | exact ⟨by decide, by decide⟩ | exact ⟨by omega, by omega⟩) ?_))
    exact fun p2 n2 => q p2 _ (Same.free (Same.upd n1) n2) ⟨_, _, upd_same⟩ ((Same.upd n1).trans (Same.upd n2))
  · (repeat (first | refine ⟨_, rfl, ?_⟩ | refine ⟨_, _, rfl, rfl, ?_⟩ | refine ⟨rfl, ?_⟩ | refine And.intro (by first | decide | omega | assumption | exact Nat.le_of_ble_eq_true rfl | exact .inl ⟨by decide, by decide⟩ | exact .inr ⟨by decide, by decide⟩ | exact ⟨by decide, by decide⟩ | exact ⟨by omega, by omega⟩) ?_))
    refine ⟨a, _, rfl, .inl hS, ?_⟩
    (repeat (first | refine ⟨_, rfl, ?_⟩ | refine ⟨_, _, rfl, rfl, ?_⟩ | refine ⟨rfl, ?_⟩ | refine And.intro (by first | decide | omega | assumption | exact Nat.le_of_ble_eq_true rfl | exact .inl ⟨by decide, by decide⟩ | exact .inr ⟨by decide, by decide⟩ | exact ⟨by decide, by decide⟩ | exact ⟨by omega, by omega⟩) ?_))
    refine ite2 (fun e2 => ?_) (fun e2 => ?_)
    · have e' : (0 : Int) < ((ns.map V.int).length : Nat) := of_decide_eq_true e2
      have hl : (0 : Int) < (ns.length : Int) := by rw [List.length_map] at e'; exact e'
      have m1 : 0 ≤ (k : Int) % (ns.length : Int) := Int.emod_nonneg _ (by omega)
      have m2 : (k : Int) % (ns.length : Int) < (ns.length : Int) := Int.emod_lt_of_pos _ hl
      obtain ⟨z, hz⟩ := ints_at (ns := ns) (i := ((k : Int) % (ns.length : Int)).toNat) (by omega)
      have hz' : atI (ns.map V.int) ((k : Int) % ((ns.map V.int).length : Nat)) = some (V.int z) := by
        have := atI_nat hz
        rw [Int.toNat_of_nonneg m1] at this
        rw [List.length_map]
        exact this
      (repeat (first | refine ⟨_, rfl, ?_⟩ | refine ⟨_, _, rfl, rfl, ?_⟩ | refine ⟨rfl, ?_⟩ | refine And.intro (by first | decide | omega | assumption | exact Nat.le_of_ble_eq_true rfl | exact .inl ⟨by decide, by decide⟩ | exact .inr ⟨by decide, by decide⟩ | exact ⟨by decide, by decide⟩ | exact ⟨by omega, by omega⟩) ?_))
      refine ⟨a, _, rfl, .inl hS, ?_⟩
      (repeat (first | refine ⟨_, rfl, ?_⟩ | refine ⟨_, _, rfl, rfl, ?_⟩ | refine ⟨rfl, ?_⟩ | refine And.intro (by first | decide | omega | assumption | exact Nat.le_of_ble_eq_true rfl | exact .inl ⟨by decide, by decide⟩ | exact .inr ⟨by decide, by decide⟩ | exact ⟨by decide, by decide⟩ | exact ⟨by omega, by omega⟩) ?_))
      refine ⟨a, _, _, _, rfl, rfl, hS, hz', ?_⟩
      (repeat (first | refine ⟨_, rfl, ?_⟩ | refine ⟨_, _, rfl, rfl, ?_⟩ | refine ⟨rfl, ?_⟩ | refine And.intro (by first | decide | omega | assumption | exact Nat.le_of_ble_eq_true rfl | exact .inl ⟨by decide, by decide⟩ | exact .inr ⟨by decide, by decide⟩ | exact ⟨by decide, by decide⟩ | exact ⟨by omega, by omega⟩) ?_))
      refine fun p1 n1 => ?_
      (repeat (first | refine ⟨_, rfl, ?_⟩ | refine ⟨_, _, rfl, rfl, ?_⟩ | refine ⟨rfl, ?_⟩ | refine And.intro (by first | decide | omega | assumption | exact Nat.le_of_ble_eq_true rfl | exact .inl ⟨by decide, by decide⟩ | exact .inr ⟨by decide, by decide⟩ | exact ⟨by decide, by decide⟩ | exact ⟨by omega, by omega⟩) ?_))
      refine .inr ⟨_, rfl, ?_⟩
      obtain ⟨y, hy⟩ := box_at _ _
      refine ⟨p1, _, _, _, rfl, rfl, SqL.of upd_same, hy, ?_⟩
      (repeat (first | refine ⟨_, rfl, ?_⟩ | refine ⟨_, _, rfl, rfl, ?_⟩ | refine ⟨rfl, ?_⟩ | refine And.intro (by first | decide | omega | assumption | exact Nat.le_of_ble_eq_true rfl | exact .inl ⟨by decide, by decide⟩ | exact .inr ⟨by decide, by decide⟩ | exact ⟨by decide, by decide⟩ | exact ⟨by omega, by omega⟩) ?_))
      exact fun p2 n2 => q p2 _ (Same.free (Same.upd n1) n2) ⟨_, _, upd_same⟩ ((Same.upd n1).trans (Same.upd n2))
    · (repeat (first | refine ⟨_, rfl, ?_⟩ | refine ⟨_, _, rfl, rfl, ?_⟩ | refine ⟨rfl, ?_⟩ | refine And.intro (by first | decide | omega | assumption | exact Nat.le_of_ble_eq_true rfl | exact .inl ⟨by decide, by decide⟩ | exact .inr ⟨by decide, by decide⟩ | exact ⟨by decide, by decide⟩ | exact ⟨by omega, by omega⟩) ?_))
      refine fun p1 n1 => ?_
      (repeat (first | refine ⟨_, rfl, ?_⟩ | refine ⟨_, _, rfl, rfl, ?_⟩ | refine ⟨rfl, ?_⟩ | refine And.intro (by first | decide | omega | assumption | exact Nat.le_of_ble_eq_true rfl | exact .inl ⟨by decide, by decide⟩ | exact .inr ⟨by decide, by decide⟩ | exact ⟨by decide, by decide⟩ | exact ⟨by omega, by omega⟩) ?_))
      refine .inr ⟨_, rfl, ?_⟩
      obtain ⟨y, hy⟩ := box_at _ _
      refine ⟨p1, _, _, _, rfl, rfl, SqL.of upd_same, hy, ?_⟩
      (repeat (first | refine ⟨_, rfl, ?_⟩ | refine ⟨_, _, rfl, rfl, ?_⟩ | refine ⟨rfl, ?_⟩ | refine And.intro (by first | decide | omega | assumption | exact Nat.le_of_ble_eq_true rfl | exact .inl ⟨by decide, by decide⟩ | exact .inr ⟨by decide, by decide⟩ | exact ⟨by decide, by decide⟩ | exact ⟨by omega, by omega⟩) ?_))
      exact fun p2 n2 => q p2 _ (Same.free (Same.upd n1) n2) ⟨_, _, upd_same⟩ ((Same.upd n1).trans (Same.upd n2))
theorem ok_Lshut (T : Txt K mg f0 f1 f2 f3 f4 f5 f6 f7 f8 f9 f10 f11 f12 f13 f14 f15 f16 f17 f18 f19 f20 f21 f22 d0 d1 d2 d3 d4 d5 d6 d7 d8 d9 d10 d11 d12 d13 d14 d15 d16 d17 d18 d19 d20 d21 d22) : FnOk P w K mg base CX0 1 f19 d19 ["_law_world"] (sp_Lshut K) := by
  refine T.F19.fn.ok sc_Lshut (fun vs H Q E h => len_Lshut h) (fun cdv A outer s H vs Q E hr h => ?_)
  refine ⟨_, (pss_cons (ps_set (i := 1) sc_Lshut.nd rfl (Or.inr rfl) pe_dnewK)
      (pss_cons (ps_for PassesOwn.never rfl (pi_enumL K rfl rfl T.z_enumerate (pa_cons (pe_dget (hu_of hr) (pv 0) (pe_S [119, 111, 114, 100, 115] (by decide +kernel)) (fun _ _ => rfl)) pa_nil)) (pg_tupK (n := 2) K rfl rfl (pgs_cons (pg_name (i := 2) sc_Lshut.nd rfl (Or.inl rfl)) (pgs_cons (pg_name (i := 3) sc_Lshut.nd rfl (Or.inl rfl)) pgs_nil))) (pss_one (ps_for PassesOwn.never rfl (pi_enumL K rfl rfl T.z_enumerate (pa_cons (pv 3) pa_nil)) (pg_tupK (n := 2) K rfl rfl (pgs_cons (pg_name (i := 4) sc_Lshut.nd rfl (Or.inl rfl)) (pgs_cons (pg_lstK (n := 2) K rfl rfl (pgs_cons (pg_name (i := 5) sc_Lshut.nd rfl (Or.inl rfl)) (pgs_cons (pg_name (i := 6) sc_Lshut.nd rfl (Or.inl rfl)) pgs_nil))) pgs_nil))) (pss_one (ps_dput (hu_of hr) (pv 1) (pv 6) (pe_tup (pa_cons (pv 2) (pa_cons (pv 4) pa_nil))) rfl)))))
      (pss_cons (ps_set (i := 7) sc_Lshut.nd rfl (Or.inl rfl) (pe_callTy (call_tuple_ofK K rfl) rfl T.z_tuple boot_tuple (pa_cons (pe_compB ["_law_word_here"] [none] (pi_listK K rfl (pe_dget (hu_of hr) (pv 0) (pe_S [119, 111, 114, 100, 115] (by decide +kernel)) (fun _ _ => rfl))) trivial (fun _ _ _ _ => (pg_name (i := 0) (by decide +kernel : List.Nodup (["_law_word_here"] : List Str)) rfl (Or.inl rfl))) (fun _ _ _ _ => pf_nil) (fun _ _ _ _ => (pe_bmK K rfl PySem.F.plainAttrs_str PySem.F.slot_str_join PySem.F.type_str_join (mt_joinK K rfl) (pe_S [] (by decide +kernel)) (pa_cons (pe_compB ["_law_letter", "_law_number"] [none, none] (pi_listK K rfl (pv 0)) trivial (fun _ _ _ _ => (pg_lstK (n := 2) K rfl rfl (pgs_cons (pg_name (i := 0) (by decide +kernel : List.Nodup (["_law_letter", "_law_number"] : List Str)) rfl (Or.inl rfl)) (pgs_cons (pg_name (i := 1) (by decide +kernel : List.Nodup (["_law_letter", "_law_number"] : List Str)) rfl (Or.inl rfl)) pgs_nil)))) (fun _ _ _ _ => pf_nil) (fun _ _ _ _ => (pv 0))) pa_nil)))) pa_nil)))
      (pss_one (ps_ret (pe_tup (pa_cons (pv 7) (pa_cons (pe_callTy (call_tuple_ofK K rfl) rfl T.z_tuple boot_tuple (pa_cons (pe_compB ["_law_order_here", "_law_strand"] [none, some 1] (pi_listK K rfl (pe_dget (hu_of hr) (pv 0) (pe_S [111, 114, 100, 101, 114, 115] (by decide +kernel)) (fun _ _ => rfl))) ⟨⟨rfl, rfl, by first | exact .inl rfl | exact .inr rfl⟩, trivial⟩ (fun _ _ _ _ => (pg_name (i := 0) (by decide +kernel : List.Nodup (["_law_order_here", "_law_strand"] : List Str)) rfl (Or.inl rfl))) (fun _ _ _ _ => pf_nil) (fun _ _ _ _ => (pe_callTy (call_tuple_ofK K rfl) rfl T.z_tuple boot_tuple (pa_cons (pe_compB ["_law_number", "_law_strand"] [none, some 1] (pi_listK K rfl (pv 0)) ⟨⟨rfl, rfl, by first | exact .inl rfl | exact .inr rfl⟩, trivial⟩ (fun _ _ _ _ => (pg_name (i := 0) (by decide +kernel : List.Nodup (["_law_number", "_law_strand"] : List Str)) rfl (Or.inl rfl))) (fun _ _ _ _ => pf_nil) (fun _ _ _ _ => (pe_dget (hu_of hr) (pv 1) (pv 0) (fun _ _ => rfl)))) pa_nil)))) pa_nil)) pa_nil)))))))), ?_⟩
  obtain ⟨y, d, wl, ol, Ws, Os, L, m, rfl, hy, hy8, hw, hW, hg, hm, q⟩ := h
  have hbl := bsOf_len hy
  have hs : (100000 : Nat) < sizeLine := by decide
  have hwf := hg.few
  have hall := hg.all12
  (repeat (first | refine ⟨_, rfl, ?_⟩ | refine ⟨_, _, rfl, rfl, ?_⟩ | refine ⟨_, _, _, rfl, rfl, by first | assumption | omega, by assumption, ?_⟩ | refine ⟨rfl, ?_⟩ | refine And.intro (by first | decide | omega | assumption | exact Nat.le_of_ble_eq_true rfl | exact .inl ⟨by decide, by decide⟩ | exact .inr ⟨by decide, by decide⟩ | exact ⟨by decide, by decide⟩ | exact ⟨by omega, by omega⟩) ?_))
  intro sd nsd
  have s1 := Same.upd (o := HO.dK []) nsd
  have hsd : upd H sd (HO.dK []) sd = some (HO.dK []) := upd_same
  generalize upd H sd (HO.dK []) = H1 at s1 hsd ⊢
  have hdk := s1 _ _ hw.dk
  have own := hW.own
  have nsd1 : ∀ {a : Addr} {u : HO}, H a = some u → a ≠ sd := fun e => ne_of_none e nsd
  have gw : ∀ H', H' d = some (HO.dK (wdK wl ol m)) → DGet H' d (V.str (S wWords)) (some (.ref wl)) := fun H' e => by rw [← wdK_words wl ol m]; exact DGet.k (k := kS wWords) e
  have go : ∀ H', H' d = some (HO.dK (wdK wl ol m)) → DGet H' d (V.str (S wOrders)) (some (.ref ol)) := fun H' e => by rw [← wdK_orders wl ol m]; exact DGet.k (k := kS wOrders) e
  have hWl : (oW Ws).length = Ws.length := oW_len Ws
  have hW4 : Ws.length ≤ 4 := by rw [lets_len, hWl] at hwf; exact hwf
  refine ⟨_, rfl, d, _, rfl, gw _ hdk, wl, rfl, ⟨_, SqL.of (s1 _ _ hw.wd)⟩, ?_⟩
  refine for_enumL (K := K) (a := wl) (xs := wcv Ws) (fun j σ H' => ∃ (kvs : List (Key × V)) (cv wv iv lv nv : Option V), σ = [some (.ref d), some (.ref sd), cv, wv, iv, lv, nv, none] ∧ H' sd = some (.dK kvs) ∧ StAt ((oW Ws).take j) kvs H' ∧ kvs.length ≤ 12 * j ∧ SameB sd H1 H')
    ⟨[], none, none, none, none, none, rfl, hsd, fun n p ⟨_, _, h, _⟩ => by simp at h, Nat.zero_le _, SameB.refl _ _⟩ (fun j σ H' _ ⟨_, _, _, _, _, _, _, _, _, _, h⟩ => SqL.of (h _ _ (s1 _ _ hw.wd) (nsd1 hw.wd))) ?_ ?_
  · rintro j x σ H2 T hx ⟨kvs, cv, wv, iv, lv, nv, rfl, hs2, st2, hk2, s2⟩ nT
    obtain ⟨c, hc, rfl⟩ := wcv_at hx
    have hcm := List.mem_of_getElem? hc
    have hcw : (oW Ws)[j]? = some c.w := by unfold oW; rw [List.getElem?_map, hc]; rfl
    have hj : j < Ws.length := (List.getElem?_eq_some_iff.mp hc).1
    have hcl : c.ls.length ≤ 12 := by
      have := (hall _ (List.mem_map.mpr ⟨c.w, List.mem_of_getElem? hcw, rfl⟩)).2
      rwa [List.length_map, Wc.w_ls] at this
    have hjt : ((oW Ws).take j).length = j := by rw [List.length_take]; omega
    refine ⟨T, _, rfl, SqT.of upd_same, rfl, _, _, rfl, _, _, rfl, rfl, ?_⟩
    have sT := Same.upd (o := HO.tup [.int j, .ref c.a]) nT
    have hs3 := sT _ _ hs2
    have st3 := st2.ts (TSame.of sT)
    have s3 : SameB sd H1 (upd H2 T (HO.tup [.int j, .ref c.a])) := fun a u e z => sT _ _ (s2 a u e z)
    generalize upd H2 T (HO.tup [.int j, .ref c.a]) = H3 at hs3 st3 s3 ⊢
    clear sT nT hs2 st2 s2
    have hca : ∀ H', SameB sd H1 H' → H' c.a = some (.lst (lcv c.ls)) := fun H' s => s _ _ (s1 _ _ (hw.wc c hcm)) (nsd1 (hw.wc c hcm))
    refine ⟨_, rfl, c.a, rfl, ⟨_, SqL.of (hca _ s3)⟩, ?_⟩
    refine for_enumL (K := K) (a := c.a) (xs := lcv c.ls) (fun k σ H' => ∃ (kvs : List (Key × V)) (iv lv nv : Option V), σ = [some (.ref d), some (.ref sd), some (.int j), some (.ref c.a), iv, lv, nv, none] ∧ H' sd = some (.dK kvs) ∧ StAt ((oW Ws).take j ++ [c.w.take k]) kvs H' ∧ kvs.length ≤ 12 * j + k ∧ SameB sd H1 H')
      ⟨kvs, iv, lv, nv, rfl, hs3, st3.nil, by omega, s3⟩ (fun k σ H' _ ⟨_, _, _, _, _, _, _, _, h⟩ => SqL.of (hca _ h)) ?_ ?_
    · rintro k x σ H4 T2 hx ⟨kvs4, iv4, lv4, nv4, rfl, hs4, st4, hk4, s4⟩ nT2
      obtain ⟨l, hl, rfl⟩ := lcv_at hx
      have hk : k < c.ls.length := (List.getElem?_eq_some_iff.mp hl).1
      have hlk : c.w[k]? = some (l.x, l.n) := by unfold Wc.w; rw [List.getElem?_map, hl]; rfl
      have hla := hw.lc c hcm l (List.mem_of_getElem? hl)
      have sT := Same.upd (o := HO.tup [.int k, .ref l.a]) nT2
      have hs5 := sT _ _ hs4
      have st5 := st4.ts (TSame.of sT)
      have s5 : SameB sd H1 (upd H4 T2 (HO.tup [.int k, .ref l.a])) := fun a u e z => sT _ _ (s4 a u e z)
      refine ⟨T2, _, rfl, SqT.of upd_same, rfl, _, _, rfl, _, _, rfl, l.a, _, rfl, SqL.of (s5 _ _ (s1 _ _ hla) (nsd1 hla)), rfl, _, _, rfl, _, _, rfl, rfl, rfl, ?_⟩
      generalize upd H4 T2 (HO.tup [.int k, .ref l.a]) = H5 at hs5 st5 s5 ⊢
      clear sT nT2 hs4 st4 s4
      refine ⟨_, rfl, _, rfl, by show 2 ≤ sizeLine; decide, fun t nt => ?_⟩
      have s6 := Same.upd (o := HO.tup [V.int j, V.int k]) nt
      refine ⟨_, rfl, _, rfl, sd, _, rfl, DPut.k (k := kI l.n) (s6 _ _ hs5) (by omega), ?_⟩
      have ets : TSame (upd H5 t (HO.tup [V.int j, V.int k])) (upd (upd H5 t (HO.tup [V.int j, V.int k])) sd (.dK (putK kvs4 (kI l.n) (.ref t)))) := tsame_updK (s6 _ _ hs5)
      have etk : c.w.take (k + 1) = c.w.take k ++ [(l.x, l.n)] := by rw [List.take_succ, hlk]; rfl
      have ekl : (c.w.take k).length = k := by rw [List.length_take, Wc.w_ls]; omega
      refine ⟨_, _, _, _, rfl, upd_same, ?_, Nat.le_trans (length_putK _ _ _) (by omega), fun a u e z => by rw [upd_ne z]; exact s6 _ _ (s5 a u e z)⟩
      rw [etk]
      exact ((st5.ts (TSame.of s6)).put (by rw [← etk]; exact own_take own hcw) (by rw [hjt, ekl]; exact upd_same)).ts ets
    · rintro σ H4 ⟨kvs4, iv4, lv4, nv4, rfl, hs4, st4, hk4, s4⟩
      rw [lcv_len] at st4 hk4
      refine ⟨kvs4, _, _, _, _, _, rfl, hs4, ?_, by omega, s4⟩
      rw [← Wc.w_ls, List.take_length] at st4
      rw [List.take_succ, hcw]
      exact st4
  · rintro σ H2 ⟨kvs, cv, wv, iv, lv, nv, rfl, hs2, st2, hk2, s2⟩
    rw [wcv_len, ← hWl, List.take_length] at st2
    have s02 : Same H H2 := fun a u e => s2 _ _ (s1 _ _ e) (nsd1 e)
    have hd2 := s02 _ _ hw.dk
    refine ⟨_, rfl, d, _, rfl, gw _ hd2, wl, rfl, ⟨_, SqL.of (s02 _ _ hw.wd)⟩, ?_⟩
    refine comp_list (K := K) (a := wl) (xs := wcv Ws) (fun i acc H' => acc = txs ((lets (oW Ws)).take i) ∧ Same H2 H') (by rw [wcv_len]; omega) (fun i acc H' ⟨_, h⟩ => SqL.of (h _ _ (s02 _ _ hw.wd))) ⟨rfl, Same.refl _⟩ ?_ ?_
    · rintro i x acc H3 Nx hi hx hal ⟨rfl, s3⟩ nx
      obtain ⟨c, hc, rfl⟩ := wcv_at hx
      have hcm := List.mem_of_getElem? hc
      have hcw : (oW Ws)[i]? = some c.w := by unfold oW; rw [List.getElem?_map, hc]; rfl
      have hcl : (lets (oW Ws))[i]? = some (c.w.map Prod.fst) := by unfold lets; rw [List.getElem?_map, hcw]; rfl
      have hz := (hall _ (List.mem_of_getElem? hcl)).2
      have hz2 : c.ls.length ≤ 12 := by rwa [List.length_map, Wc.w_ls] at hz
      have s03 := s02.trans s3
      refine ⟨trivial, yes_ite ?_⟩
      refine ⟨rfl, _, rfl, c.a, rfl, ⟨_, SqL.of (s03 _ _ (hw.wc c hcm))⟩, ?_⟩
      refine comp_list (K := K) (a := c.a) (xs := lcv c.ls) (fun k acc H' => acc = sgs ((c.w.map Prod.fst).take k) ∧ H' = H3) (by rw [lcv_len]; omega) (fun k acc H' ⟨_, e⟩ => by rw [e]; exact SqL.of (s03 _ _ (hw.wc c hcm))) ⟨rfl, rfl⟩ ?_ ?_
      · rintro k x acc H4 Nx4 hk hx hal4 ⟨rfl, rfl⟩ nx4
        obtain ⟨l, hl, rfl⟩ := lcv_at hx
        have hlk : (c.w.map Prod.fst)[k]? = some l.x := by unfold Wc.w; rw [List.map_map, List.getElem?_map, hl]; rfl
        refine ⟨l.a, _, rfl, SqL.of (s03 _ _ (hw.lc c hcm l (List.mem_of_getElem? hl))), rfl, _, _, rfl, _, _, rfl, rfl, ⟨trivial, yes_ite ?_⟩⟩
        exact ⟨_, rfl, nx4 _ _ (by simpa using hal4) ⟨sgs_take2 _ _ _ hlk, rfl⟩⟩
      · rintro acc H4 D hal4 ⟨rfl, rfl⟩ hD
        rw [lcv_len, ← Wc.w_ls, ← List.length_map (f := Prod.fst), List.take_length]
        refine ⟨D, (c.w.map Prod.fst).map fun c => [c], rfl, rfl, SqL.of ?_, ?_, ?_⟩
        · rw [upd_same, ← sgs_lists]
        · rw [sum1]; omega
        · rw [flat1]
          exact nx _ _ (by simpa using hal) ⟨txs_snoc2 _ _ _ hcl, s3.trans (Same.upd hD)⟩
    · rintro acc H3 D hal ⟨rfl, s3⟩ hD
      rw [wcv_len, ← hWl, ← lets_len, List.take_length]
      refine ⟨D, _, rfl, .inl ⟨SqL.of upd_same, fun tw ntw => ?_⟩⟩
      have s4 := (s3.trans (Same.upd (o := .lst (txs (lets (oW Ws)))) hD)).trans (Same.upd (o := .tup (txs (lets (oW Ws)))) ntw)
      have htw : upd (upd H3 D (.lst (txs (lets (oW Ws))))) tw (.tup (txs (lets (oW Ws)))) tw = some (.tup (txs (lets (oW Ws)))) := upd_same
      generalize upd (upd H3 D (.lst (txs (lets (oW Ws))))) tw (.tup (txs (lets (oW Ws)))) = H4 at s4 htw ⊢
      clear s3 hD ntw
      have s04 := s02.trans s4
      have hd4 := s04 _ _ hw.dk
      have hs4 := s4 _ _ hs2
      have st4 := st2.ts (TSame.of s4)
      have hOl : Os.length = L.length := by have := hW.ln; unfold oO at this; rwa [List.length_map] at this
      refine ⟨_, rfl, _, rfl, d, _, rfl, go _ hd4, ol, rfl, ⟨_, SqL.of (s04 _ _ hw.od)⟩, ?_⟩
      refine comp_list (K := K) (a := ol) (xs := ocv Os) (fun i acc H' => Same H4 H' ∧ ∃ oo : List Od, acc = odv oo ∧ (∀ o ∈ oo, OdOk H' o) ∧ oo.map prs = L.take i) (by rw [ocv_len, hOl, hg.ln]; omega) (fun i acc H' ⟨h, _⟩ => SqL.of (h _ _ (s04 _ _ hw.od))) ⟨Same.refl _, [], rfl, fun _ h => absurd h List.not_mem_nil, rfl⟩ ?_ ?_
      · rintro i x acc H5 Nx hi hx hal ⟨s5, oo, rfl, hod, hoe⟩ nx
        obtain ⟨o, ho, rfl⟩ := ocv_at hx
        have hom := List.mem_of_getElem? ho
        have hiL : i < L.length := by rw [← hOl]; exact (List.getElem?_eq_some_iff.mp ho).1
        have hLi : L[i]? = some L[i] := List.getElem?_eq_getElem hiL
        generalize L[i] = l at hLi
        have al := hW.al i o.ns l (by unfold oO; rw [List.getElem?_map, ho]; rfl) hLi
        have hl48 := hg.lens hLi
        have hsm := hg.small hLi
        have hnl := al.len
        have s05 := s04.trans s5
        have hs5 := s5 _ _ hs4
        have st5 := st4.ts (TSame.of s5)
        refine ⟨⟨rfl, trivial⟩, yes_ite ?_⟩
        refine ⟨_, rfl, o.a, rfl, ⟨_, SqL.of (s05 _ _ (hw.oc o hom))⟩, ?_⟩
        refine comp_list (K := K) (a := o.a) (xs := ivs o.ns) (fun k acc H' => H' = H5 ∧ ∃ ps : List Pr, acc = prv ps ∧ (∀ p ∈ ps, PrOk H5 p) ∧ ps.map Pr.pair = l.take k) (by rw [ivs_ln]; omega) (fun k acc H' ⟨e, _⟩ => by rw [e]; exact SqL.of (s05 _ _ (hw.oc o hom))) ⟨rfl, [], rfl, fun _ h => absurd h List.not_mem_nil, rfl⟩ ?_ ?_
        · rintro k x acc H6 Nx6 hk hx hal6 ⟨rfl, ps, rfl, hps, hpe⟩ nx6
          rw [ivs_ln] at hk
          have hx2 : x = V.int (o.ns[k] : Nat) := by
            unfold ivs at hx
            rw [List.getElem?_map, List.getElem?_eq_getElem hk] at hx
            exact (Option.some.inj hx).symm
          subst hx2
          have hlk : l[k]? = some l[k] := List.getElem?_eq_getElem (by omega)
          have hr := al.at (List.getElem?_eq_getElem hk) hlk
          obtain ⟨t, e1, e2⟩ := st5 _ _ hr
          obtain ⟨z1, z2⟩ := hsm _ (List.mem_of_getElem? hlk)
          generalize l[k] = pp at hlk e2 z1 z2
          refine ⟨⟨rfl, trivial⟩, yes_ite ?_⟩
          refine ⟨_, rfl, _, rfl, sd, _, rfl, by rw [← e1]; exact DGet.k (k := kI o.ns[k]) hs5, ?_⟩
          refine nx6 _ _ (by simpa using hal6) ⟨rfl, ps ++ [⟨t, pp.1, pp.2⟩], prv_snoc ps ⟨t, pp.1, pp.2⟩, fun p hp => ?_, by rw [List.map_append, hpe, List.take_succ, hlk]; rfl⟩
          rcases List.mem_append.mp hp with g | g
          · exact hps p g
          · rw [List.mem_singleton.mp g]; exact ⟨e2, z1, z2⟩
        · rintro acc H6 D hal6 ⟨rfl, ps, rfl, hps, hpe⟩ hD
          rw [ivs_ln, hnl, List.take_length] at hpe
          refine ⟨D, _, rfl, .inl ⟨SqL.of upd_same, fun t nt => ?_⟩⟩
          have s7 := (Same.upd (o := .lst (prv ps)) hD).trans (Same.upd (o := .tup (prv ps)) nt)
          refine nx _ _ (by simpa using hal) ⟨s5.trans s7, oo ++ [⟨t, ps⟩], odv_snoc oo ⟨t, ps⟩, fun o' ho' => ?_, ?_⟩
          · rcases List.mem_append.mp ho' with g | g
            · exact (hod o' g).same s7
            · rw [List.mem_singleton.mp g]
              refine ⟨upd_same, fun p hp => (hps p hp).same s7, ?_⟩
              have := congrArg List.length hpe
              rw [List.length_map] at this
              show ps.length ≤ 100
              omega
          · rw [List.map_append, hoe, List.take_succ, hLi]
            show _ ++ [prs ⟨t, ps⟩] = _
            unfold prs
            rw [hpe]; rfl
      · rintro acc H5 D hal ⟨s5, oo, rfl, hod, hoe⟩ hD
        rw [ocv_len, hOl, List.take_length] at hoe
        refine ⟨D, _, rfl, .inl ⟨SqL.of upd_same, fun t nt => ?_⟩⟩
        refine ⟨by show 2 ≤ sizeLine; decide, fun dr' ndr => ?_⟩
        have sA := (Same.upd (o := .lst (odv oo)) hD).trans ((Same.upd (o := .tup (odv oo)) nt).trans (Same.upd (o := .tup [.ref tw, .ref t]) ndr))
        have htd : t ≠ dr' := fun z => by rw [← z, upd_same] at ndr; cases ndr
        exact q dr' oo _ ⟨⟨tw, t, upd_same, sA _ _ (s5 _ _ htw), by rw [upd_ne htd, upd_same]⟩, fun o ho => (hod o ho).same sA⟩ hoe ((s04.trans s5).trans sA)
theorem ok_Lorder (T : Txt K mg f0 f1 f2 f3 f4 f5 f6 f7 f8 f9 f10 f11 f12 f13 f14 f15 f16 f17 f18 f19 f20 f21 f22 d0 d1 d2 d3 d4 d5 d6 d7 d8 d9 d10 d11 d12 d13 d14 d15 d16 d17 d18 d19 d20 d21 d22) : FnOk P w K mg base CX0 2 f14 d14 ["_law_box_here", "_law_things"] (sp_Lorder K) := by
  have G_Ltake := ok_Ltake (P := P) (w := w) (base := base) T
  refine T.F14.fn.ok sc_Lorder (fun vs H Q E h => len_Lorder h) (fun cdv A outer s H vs Q E hr h => ?_)
  refine ⟨_, (pss_cons (ps_set (i := 2) sc_Lorder.nd rfl (Or.inl rfl) (pe_callTy (call_listAny K rfl rfl) rfl T.z_list boot_list (pa_cons (pv 1) pa_nil)))
      (pss_cons (ps_set (i := 3) sc_Lorder.nd rfl (Or.inl rfl) (pe_lst pa_nil))
      (pss_cons (ps_whileN PassesOwn.never (pt_cmpR op_gt (pe_callB (call_len_seqK K rfl) rfl T.z_len PySem.boot_len (pa_cons (pv 2) pa_nil)) pe_int (nomark _)) (pss_one (ps_expr (pe_bmK K rfl PySem.F.plainAttrs_list PySem.F.slot_list_append PySem.F.type_list_append mt_append (pv 3) (pa_cons (pe_bmK K rfl PySem.F.plainAttrs_list PySem.F.slot_list_pop PySem.F.type_list_pop mt_popAt (pv 2) (pa_cons (pe_call G_Ltake (hr.mono (by decide)) rfl T.F10.mg T.F10.fn.kp T.F10.bd .nil pass0 (pa_cons (pv 0) (pa_cons (pe_callB (call_len_seqK K rfl) rfl T.z_len PySem.boot_len (pa_cons (pv 2) pa_nil)) pa_nil))) pa_nil)) pa_nil)))))
      (pss_one (ps_ret (pv 3)))))), ?_⟩
  obtain ⟨b, x, ys, rfl, hb, hx, hz, q⟩ := h
  have hs : (100000 : Nat) < sizeLine := by decide
  rcases hx with ⟨p, rfl, hp⟩ | ⟨l, rfl, rfl⟩
  · refine ⟨_, rfl, .inr ⟨p, _, rfl, hp, fun p1 n1 => ?_⟩⟩
    (repeat (first | refine ⟨_, rfl, ?_⟩ | refine ⟨_, _, rfl, rfl, ?_⟩ | refine ⟨_, _, _, rfl, rfl, by first | assumption | omega, by assumption, ?_⟩ | refine ⟨rfl, ?_⟩ | refine And.intro (by first | decide | omega | assumption | exact Nat.le_of_ble_eq_true rfl | exact .inl ⟨by decide, by decide⟩ | exact .inr ⟨by decide, by decide⟩ | exact ⟨by decide, by decide⟩ | exact ⟨by omega, by omega⟩) ?_))
    intro p2 n2
    have s1 : Same H (upd (upd H p1 (.lst ys)) p2 (.lst [])) := (Same.upd n1).trans (Same.upd n2)
    have bp1 : p1 ≠ b := hb.ne n1
    have np2 : H p2 = none := Same.free (Same.upd n1) n2
    have bp2 : p2 ≠ b := hb.ne np2
    have p12 : p1 ≠ p2 := fun z => by rw [← z, upd_same] at n2; cases n2
    refine ⟨fun m σ H' => ∃ F E' : List V, σ = [some (.ref b), some (.ref p), some (.ref p1), some (.ref p2)] ∧ m = E'.length ∧ (F ++ E').Perm ys ∧ H' p1 = some (.lst E') ∧ H' p2 = some (.lst F) ∧ BoxAt H' b ∧ SameB b H H', ⟨_, [], ys, rfl, rfl, List.Perm.refl _, by rw [upd_ne p12, upd_same], upd_same, hb.same s1, SameB.of s1⟩, ?_⟩
    rintro m σ H3 ⟨F, E', rfl, rfl, hpm, hp1, hp2, hb3, s4⟩
    have hlen := hpm.length_eq
    rw [List.length_append] at hlen
    (repeat (first | refine ⟨_, rfl, ?_⟩ | refine ⟨_, _, rfl, rfl, ?_⟩ | refine ⟨_, _, _, rfl, rfl, by first | assumption | omega, by assumption, ?_⟩ | refine ⟨rfl, ?_⟩ | refine And.intro (by first | decide | omega | assumption | exact Nat.le_of_ble_eq_true rfl | exact .inl ⟨by decide, by decide⟩ | exact .inr ⟨by decide, by decide⟩ | exact ⟨by decide, by decide⟩ | exact ⟨by omega, by omega⟩) ?_))
    refine ⟨p1, _, rfl, .inl (SqL.of hp1), _, _, rfl, rfl, _, rfl, ite2 (fun e => ?_) (fun e => ?_)⟩
    · have e' : (0 : Int) < (E'.length : Nat) := of_decide_eq_true e
      refine ⟨_, rfl, .inl ⟨rfl, _, SqL.of hp2⟩, _, rfl, .inl ⟨rfl, _, SqL.of hp1⟩, ?_⟩
      (repeat (first | refine ⟨_, rfl, ?_⟩ | refine ⟨_, _, rfl, rfl, ?_⟩ | refine ⟨_, _, _, rfl, rfl, by first | assumption | omega, by assumption, ?_⟩ | refine ⟨rfl, ?_⟩ | refine And.intro (by first | decide | omega | assumption | exact Nat.le_of_ble_eq_true rfl | exact .inl ⟨by decide, by decide⟩ | exact .inr ⟨by decide, by decide⟩ | exact ⟨by decide, by decide⟩ | exact ⟨by omega, by omega⟩) ?_))
      refine ⟨p1, _, rfl, .inl (SqL.of hp1), b, _, rfl, hb3, by omega, by omega, fun r H4 hr4 hb4 s5 => ?_⟩
      have hr5 : r < E'.length := by omega
      refine ⟨p1, _, _, r, _, rfl, rfl, s5 _ _ hp1 bp1, by omega, by omega, by rw [seqIndex_of (by omega) (by omega), Int.toNat_natCast], List.getElem?_eq_getElem hr5, ?_⟩
      have hpe := erase_perm (List.getElem?_eq_getElem hr5)
      have hpl := hpe.length_eq
      rw [List.length_cons] at hpl
      refine ⟨p2, _, _, rfl, rfl, by rw [upd_ne (Ne.symm p12)]; exact s5 _ _ hp2 bp2, by omega, ?_⟩
      refine ⟨(E'.eraseIdx r).length, by omega, F ++ [E'[r]], E'.eraseIdx r, rfl, rfl, ?_, by rw [upd_ne p12, upd_same], upd_same, (hb4.updN bp1).updN bp2, ((s4.trans s5).updN n1).updN np2⟩
      rw [List.append_assoc]
      exact (List.Perm.append_left F hpe).trans hpm
    · have e' : E' = [] := by
        cases E' with
        | nil => rfl
        | cons c r => exact absurd (decide_eq_true (by show (0 : Int) < ((r.length + 1 : Nat) : Int); omega)) e
      subst e'
      rw [List.append_nil] at hpm
      exact ⟨_, rfl, q p2 F H3 np2 bp2 hp2 hpm hb3 s4⟩
  · rw [sgs_len] at hz
    refine ⟨_, rfl, .inl ⟨l, rfl, by omega, fun p1 n1 => ?_⟩⟩
    rw [← sgs_len l] at hz
    generalize sgs l = ys at *
    (repeat (first | refine ⟨_, rfl, ?_⟩ | refine ⟨_, _, rfl, rfl, ?_⟩ | refine ⟨_, _, _, rfl, rfl, by first | assumption | omega, by assumption, ?_⟩ | refine ⟨rfl, ?_⟩ | refine And.intro (by first | decide | omega | assumption | exact Nat.le_of_ble_eq_true rfl | exact .inl ⟨by decide, by decide⟩ | exact .inr ⟨by decide, by decide⟩ | exact ⟨by decide, by decide⟩ | exact ⟨by omega, by omega⟩) ?_))
    intro p2 n2
    have s1 : Same H (upd (upd H p1 (.lst ys)) p2 (.lst [])) := (Same.upd n1).trans (Same.upd n2)
    have bp1 : p1 ≠ b := hb.ne n1
    have np2 : H p2 = none := Same.free (Same.upd n1) n2
    have bp2 : p2 ≠ b := hb.ne np2
    have p12 : p1 ≠ p2 := fun z => by rw [← z, upd_same] at n2; cases n2
    refine ⟨fun m σ H' => ∃ F E' : List V, σ = [some (.ref b), some (.str (S l)), some (.ref p1), some (.ref p2)] ∧ m = E'.length ∧ (F ++ E').Perm ys ∧ H' p1 = some (.lst E') ∧ H' p2 = some (.lst F) ∧ BoxAt H' b ∧ SameB b H H', ⟨_, [], ys, rfl, rfl, List.Perm.refl _, by rw [upd_ne p12, upd_same], upd_same, hb.same s1, SameB.of s1⟩, ?_⟩
    rintro m σ H3 ⟨F, E', rfl, rfl, hpm, hp1, hp2, hb3, s4⟩
    have hlen := hpm.length_eq
    rw [List.length_append] at hlen
    (repeat (first | refine ⟨_, rfl, ?_⟩ | refine ⟨_, _, rfl, rfl, ?_⟩ | refine ⟨_, _, _, rfl, rfl, by first | assumption | omega, by assumption, ?_⟩ | refine ⟨rfl, ?_⟩ | refine And.intro (by first | decide | omega | assumption | exact Nat.le_of_ble_eq_true rfl | exact .inl ⟨by decide, by decide⟩ | exact .inr ⟨by decide, by decide⟩ | exact ⟨by decide, by decide⟩ | exact ⟨by omega, by omega⟩) ?_))
    refine ⟨p1, _, rfl, .inl (SqL.of hp1), _, _, rfl, rfl, _, rfl, ite2 (fun e => ?_) (fun e => ?_)⟩
    · have e' : (0 : Int) < (E'.length : Nat) := of_decide_eq_true e
      refine ⟨_, rfl, .inl ⟨rfl, _, SqL.of hp2⟩, _, rfl, .inl ⟨rfl, _, SqL.of hp1⟩, ?_⟩
      (repeat (first | refine ⟨_, rfl, ?_⟩ | refine ⟨_, _, rfl, rfl, ?_⟩ | refine ⟨_, _, _, rfl, rfl, by first | assumption | omega, by assumption, ?_⟩ | refine ⟨rfl, ?_⟩ | refine And.intro (by first | decide | omega | assumption | exact Nat.le_of_ble_eq_true rfl | exact .inl ⟨by decide, by decide⟩ | exact .inr ⟨by decide, by decide⟩ | exact ⟨by decide, by decide⟩ | exact ⟨by omega, by omega⟩) ?_))
      refine ⟨p1, _, rfl, .inl (SqL.of hp1), b, _, rfl, hb3, by omega, by omega, fun r H4 hr4 hb4 s5 => ?_⟩
      have hr5 : r < E'.length := by omega
      refine ⟨p1, _, _, r, _, rfl, rfl, s5 _ _ hp1 bp1, by omega, by omega, by rw [seqIndex_of (by omega) (by omega), Int.toNat_natCast], List.getElem?_eq_getElem hr5, ?_⟩
      have hpe := erase_perm (List.getElem?_eq_getElem hr5)
      have hpl := hpe.length_eq
      rw [List.length_cons] at hpl
      refine ⟨p2, _, _, rfl, rfl, by rw [upd_ne (Ne.symm p12)]; exact s5 _ _ hp2 bp2, by omega, ?_⟩
      refine ⟨(E'.eraseIdx r).length, by omega, F ++ [E'[r]], E'.eraseIdx r, rfl, rfl, ?_, by rw [upd_ne p12, upd_same], upd_same, (hb4.updN bp1).updN bp2, ((s4.trans s5).updN n1).updN np2⟩
      rw [List.append_assoc]
      exact (List.Perm.append_left F hpe).trans hpm
    · have e' : E' = [] := by
        cases E' with
        | nil => rfl
        | cons c r => exact absurd (decide_eq_true (by show (0 : Int) < ((r.length + 1 : Nat) : Int); omega)) e
      subst e'
      rw [List.append_nil] at hpm
      exact ⟨_, rfl, q p2 F H3 np2 bp2 hp2 hpm hb3 s4⟩
theorem ok_bands (T : Txt K mg f0 f1 f2 f3 f4 f5 f6 f7 f8 f9 f10 f11 f12 f13 f14 f15 f16 f17 f18 f19 f20 f21 f22 d0 d1 d2 d3 d4 d5 d6 d7 d8 d9 d10 d11 d12 d13 d14 d15 d16 d17 d18 d19 d20 d21 d22) : FnOk P w K mg base CX0 1 f1 d1 ["yard"] (sp_bands K) := by
  refine T.F1.fn.ok sc_bands (fun vs H Q E h => len_bands h) (fun cdv A outer s H vs Q E hr h => ?_)
  refine ⟨_, (pss_one (ps_ret (pe_bmK K rfl PySem.F.plainAttrs_str PySem.F.slot_str_join PySem.F.type_str_join (mt_joinK K rfl) (pe_S [] (by decide +kernel)) (pa_cons (pe_callB (call_sortedK K rfl) rfl T.z_sorted boot_sorted (pa_cons (pe_compB ["letter"] [none] (pi_str (pv 0)) trivial (fun _ _ _ _ => (pg_name (i := 0) (by decide +kernel : List.Nodup (["letter"] : List Str)) rfl (Or.inl rfl))) (fun _ _ _ _ => (pf_one (pt_val (pe_bm0K K rfl PySem.F.plainAttrs_str PySem.F.slot_str_islower PySem.F.type_str_islower mt_islower (pv 0))))) (fun _ _ _ _ => (pv 0))) pa_nil)) pa_nil)))), ?_⟩
  obtain ⟨l, rfl, hl, hz, q⟩ := h
  have hs : (1000 : Nat) < sizeLine := by decide
  refine ⟨rfl, _, rfl, l, rfl, ?_⟩
  refine comp_fix (xs := sgs l) (fun i acc H' => Same H H' ∧ acc = sgs ((l.take i).filter isLow)) (by rw [sgs_len]; omega) ⟨Same.refl H, rfl⟩ ?_ ?_
  · rintro i x acc H1 Nx hi hx hal ⟨s1, rfl⟩ nx
    obtain ⟨c, hc, rfl⟩ := sgs_get hx
    have e := filter_take (p := isLow) hc
    refine ⟨trivial, ?_⟩
    refine ⟨_, rfl, rfl, c, rfl, rfl, hl c (List.mem_of_getElem? hc), _, rfl, ?_⟩
    refine ite2 (fun z => ?_) (fun z => ?_)
    · rw [if_pos z] at e
      exact ⟨_, rfl, nx _ _ (by simpa using hal) ⟨s1, by rw [e, ← sgs_snoc]⟩⟩
    · rw [if_neg z, List.append_nil] at e
      exact nx _ _ (Nat.le_succ_of_le hal) ⟨s1, by rw [e]⟩
  · rintro acc H1 D hal ⟨s1, rfl⟩ hD
    rw [sgs_take, sgs_lists]
    have hfl : (l.filter isLow).length ≤ l.length := List.length_filter_le _ _
    refine ⟨D, (l.filter isLow).map fun c => [c], rfl, SqL.of upd_same, by rw [List.length_map]; omega, fun p ls hp hpm hpw => ?_⟩
    obtain ⟨l', rfl, pl⟩ := ones_of hpm
    have hl' := pl.length_eq
    refine ⟨p, l'.map fun c => [c], rfl, rfl, SqL.of upd_same, by rw [sum1]; omega, ?_⟩
    rw [flat1]
    exact q l' _ pl (ones_pw hpw) ((s1.trans (Same.upd hD)).trans (Same.upd hp))
theorem ok_done (T : Txt K mg f0 f1 f2 f3 f4 f5 f6 f7 f8 f9 f10 f11 f12 f13 f14 f15 f16 f17 f18 f19 f20 f21 f22 d0 d1 d2 d3 d4 d5 d6 d7 d8 d9 d10 d11 d12 d13 d14 d15 d16 d17 d18 d19 d20 d21 d22) : FnOk P w K mg base CX0 4 f8 d8 ["yard", "drawing", "deeds"] (sp_done K) := by
  have G_bands := ok_bands (P := P) (w := w) (base := base) T
  have G_do_deed := ok_do_deed (P := P) (w := w) (base := base) T
  refine T.F8.fn.ok sc_done (fun vs H Q E h => len_done h) (fun cdv A outer s H vs Q E hr h => ?_)
  refine ⟨_, (pss_cons (ps_set (i := 3) sc_done.nd rfl (Or.inl rfl) (pe_callTy (call_list_ofK K rfl) rfl T.z_list boot_list (pa_cons (pe_ix (ix_tupK K rfl) (pv 1) pe_int (fun _ _ => rfl)) pa_nil)))
      (pss_cons (ps_set (i := 4) sc_done.nd rfl (Or.inr rfl) pe_dnewK)
      (pss_cons (ps_for PassesOwn.never rfl (pi_zipST K rfl rfl T.z_zip (pa_cons (pe_call G_bands (hr.mono (by decide)) rfl T.F1.mg T.F1.fn.kp T.F1.bd .nil pass0 (pa_cons (pv 0) pa_nil)) (pa_cons (pe_ix (ix_tupK K rfl) (pv 1) pe_int (fun _ _ => rfl)) pa_nil))) (pg_tupK (n := 2) K rfl rfl (pgs_cons (pg_name (i := 5) sc_done.nd rfl (Or.inl rfl)) (pgs_cons (pg_name (i := 6) sc_done.nd rfl (Or.inl rfl)) pgs_nil))) (pss_one (ps_dput (hu_of hr) (pv 4) (pv 5) (pe_callTy (call_list_ofK K rfl) rfl T.z_list boot_list (pa_cons (pv 6) pa_nil)) rfl)))
      (pss_cons (ps_for PassesOwn.never rfl (pi_enumL K rfl rfl T.z_enumerate (pa_cons (pv 2) pa_nil)) (pg_tupK (n := 2) K rfl rfl (pgs_cons (pg_name (i := 7) sc_done.nd rfl (Or.inl rfl)) (pgs_cons (pg_name (i := 8) sc_done.nd rfl (Or.inl rfl)) pgs_nil))) (pss_one (ps_if (pt_not (pt_val (pe_call G_do_deed (hr.mono (by decide)) rfl T.F7.mg T.F7.fn.kp T.F7.bd .nil pass0 (pa_cons (pv 0) (pa_cons (pv 3) (pa_cons (pv 4) (pa_cons (pv 8) pa_nil))))))) (pss_one ps_never) pss_nil)))
      (pss_one (ps_ret (pe_tup (pa_cons (pe_callTy (call_tuple_ofK K rfl) rfl T.z_tuple boot_tuple (pa_cons (pv 3) pa_nil)) (pa_cons (pe_callTy (call_tuple_ofK K rfl) rfl T.z_tuple boot_tuple (pa_cons (pe_compB ["band", "orders"] [none, some 4] (pi_str (pe_call G_bands (hr.mono (by decide)) rfl T.F1.mg T.F1.fn.kp T.F1.bd .nil pass0 (pa_cons (pv 0) pa_nil))) ⟨⟨rfl, rfl, by first | exact .inl rfl | exact .inr rfl⟩, trivial⟩ (fun _ _ _ _ => (pg_name (i := 0) (by decide +kernel : List.Nodup (["band", "orders"] : List Str)) rfl (Or.inl rfl))) (fun _ _ _ _ => pf_nil) (fun _ _ _ _ => (pe_callTy (call_tuple_ofK K rfl) rfl T.z_tuple boot_tuple (pa_cons (pe_dget (hu_of hr) (pv 1) (pv 0) (fun _ _ => rfl)) pa_nil)))) pa_nil)) pa_nil))))))))), ?_⟩
  obtain ⟨y, dr, ws, os, ep, ds, rfl, hy, hz, hg, hd, hep, hds, hdl, hpath, q⟩ := h
  have hs : (100000 : Nat) < sizeLine := by decide
  have hbl := bsOf_len hy
  have hnd := bs_nd hy
  have hol : os.length = (bsOf y).length := by have := hg.lk.1; rwa [List.length_map] at this
  obtain ⟨⟨wt, ot, d1, d2, d3⟩, dO⟩ := id hd
  refine ⟨_, rfl, dr, _, 0, _, rfl, rfl, SqT.of d1, rfl, wt, _, rfl, .inr (SqT.of d2), fun wl nwl => ?_⟩
  have s1 := Same.upd (o := HO.lst (txs ws)) nwl
  have hwl : upd H wl (HO.lst (txs ws)) wl = some (HO.lst (txs ws)) := upd_same
  generalize upd H wl (HO.lst (txs ws)) = H1 at s1 hwl ⊢
  intro d nd
  have s2 := Same.upd (o := HO.dK []) nd
  have hd2 : upd H1 d (HO.dK []) d = some (HO.dK []) := upd_same
  have hwl2 := s2 _ _ hwl
  have ndH : H d = none := Same.free s1 nd
  have hdw : d ≠ wl := Ne.symm (ne_of_none hwl nd)
  have s12 := s1.trans s2
  generalize upd H1 d (HO.dK []) = H2 at s2 hd2 hwl2 s12 ⊢
  refine ⟨_, rfl, y, rfl, fun c hc => (hy.lt c hc).lt, by omega, fun l0 H3 hl0 hw0 s3 => ?_⟩
  have el := bsOf_eq hl0 hw0
  subst el
  have s13 := s12.trans s3
  have hd3 := s3 _ _ hd2
  have hwl3 := s3 _ _ hwl2
  refine ⟨_, rfl, dr, _, 1, _, rfl, rfl, SqT.of (s13 _ _ d1), rfl, ?_⟩
  refine ⟨_, ot, rfl, ⟨_, SqT.of (s13 _ _ d3)⟩, ?_⟩
  refine for_zip (Sq1 := SqSa (bsOf y)) (Sq2 := SqTa K ot) (xs := sgs (bsOf y)) (ys := odv os) (fun i σ H' => ∃ (bv ov : Option V) (cur : List Od), σ = [some (.str (S y)), some (.ref dr), some (.ref ep), some (.ref wl), some (.ref d), bv, ov, none, none] ∧ cur.length = i ∧ H' d = some (.dK (ordK ((bsOf y).take i) cur)) ∧ (cur.map Od.o).Nodup ∧ (∀ o ∈ cur, LdOk H' o) ∧ cur.map prs = (os.take i).map prs ∧ (∀ o ∈ cur, H3 o.o = none) ∧ SameB d H3 H') (by rw [sgs_len, odv_len]; exact hol.symm)
    ⟨none, none, [], rfl, rfl, hd3, List.nodup_nil, by simp, rfl, by simp, SameB.refl _ _⟩ (fun i σ H' _ ⟨_, _, _, _, _, _, _, _, _, _, s⟩ => ⟨rfl, SqT.of (s _ _ (s13 _ _ d3) (ne_of_none d3 ndH))⟩) ?_ ?_
  · rintro i x z σ H4 T hx hzi ⟨bv, ov, cur, rfl, hcl, hd4, hcn, hco, hcp, hcf, s4⟩ nT
    obtain ⟨b, hb, rfl⟩ := sgs_get hx
    have hi : i < (bsOf y).length := (List.getElem?_eq_some_iff.mp hb).1
    have hio : i < os.length := by omega
    have hoi : os[i]? = some os[i] := List.getElem?_eq_getElem hio
    have hz2 : z = V.ref os[i].o := by rw [odv_at hoi] at hzi; exact (Option.some.inj hzi).symm
    subst hz2
    have hom : os[i] ∈ os := List.getElem_mem hio
    generalize os[i] = o at hoi hom
    have hok := dO o hom
    have sT := Same.upd (o := HO.tup [V.str (S [b]), V.ref o.o]) nT
    have hTd : T ≠ d := Ne.symm (ne_of_none hd4 nT)
    refine ⟨T, _, rfl, SqT.of upd_same, rfl, _, _, rfl, _, _, rfl, rfl, ?_⟩
    have ok4 : OdOk H4 o := ⟨s4 _ _ (s13 _ _ hok.tp) (ne_of_none hok.tp ndH), fun p hp => ⟨s4 _ _ (s13 _ _ (hok.pr p hp).tp) (ne_of_none (hok.pr p hp).tp ndH), (hok.pr p hp).cz, (hok.pr p hp).iz⟩, hok.fw⟩
    have ok5 := ok4.same sT
    have hd5 := sT _ _ hd4
    have hco5 : ∀ o ∈ cur, LdOk (upd H4 T (HO.tup [V.str (S [b]), V.ref o.o])) o → True := fun _ _ _ => trivial
    refine ⟨_, rfl, o.o, _, rfl, .inr (SqT.of ok5.tp), fun p6 n6 => ?_⟩
    have s6 := Same.upd (o := HO.lst (prv o.ps)) n6
    have s46 := sT.trans s6
    have hd6 := s6 _ _ hd5
    have n64 : H4 p6 = none := Same.free sT n6
    have h6d : p6 ≠ d := Ne.symm (ne_of_none hd5 n6)
    have new6 : LdOk (upd (upd H4 T (HO.tup [V.str (S [b]), V.ref o.o])) p6 (HO.lst (prv o.ps))) ⟨p6, o.ps⟩ := ⟨upd_same, fun p hp => (ok5.pr p hp).same s6, ok5.fw⟩
    generalize upd (upd H4 T (HO.tup [V.str (S [b]), V.ref o.o])) p6 (HO.lst (prv o.ps)) = H6 at s6 s46 hd6 new6 ⊢
    have hnew : valV (ordK ((bsOf y).take i) cur) (kS [b]) = none := ordK_none fun m => by
      obtain ⟨k, hk, e⟩ := List.mem_iff_getElem.mp m
      rw [List.length_take] at hk
      rw [List.getElem_take] at e
      have := List.pairwise_iff_getElem.mp hnd k i (by omega) hi (by omega)
      rw [e, (List.getElem?_eq_some_iff.mp hb).2] at this
      exact this rfl
    have htl : ((bsOf y).take i).length = i := by rw [List.length_take]; omega
    refine ⟨_, rfl, _, rfl, d, _, rfl, DPut.k (k := kS [b]) hd6 (by rw [ordK_len (by omega)]; omega), ?_⟩
    rw [putK_new _ hnew]
    have eo : ordK ((bsOf y).take i) cur ++ [(kS [b], V.ref p6)] = ordK ((bsOf y).take (i + 1)) (cur ++ [⟨p6, o.ps⟩]) := by
      rw [← take_snoc hb]
      exact ordK_snoc (o := ⟨p6, o.ps⟩) (by omega)
    rw [eo]
    have up : ∀ {x : Od}, LdOk H6 x → x.o ≠ d → LdOk (upd H6 d (.dK (ordK ((bsOf y).take (i + 1)) (cur ++ [⟨p6, o.ps⟩])))) x := fun {x} hx hne =>
      ⟨by rw [upd_ne hne]; exact hx.tp, fun p hp => ⟨by rw [upd_ne (fun z => by have := (hx.pr p hp).tp; rw [z, hd6] at this; cases this)]; exact (hx.pr p hp).tp, (hx.pr p hp).cz, (hx.pr p hp).iz⟩, hx.fw⟩
    refine ⟨_, _, cur ++ [⟨p6, o.ps⟩], rfl, by simp [hcl], upd_same, ?_, fun x hx => ?_, ?_, fun x hx => ?_, fun a u ea zz => ?_⟩
    · rw [List.map_append, List.nodup_append]
      refine ⟨hcn, by simp, fun a ha b' hb' e => ?_⟩
      obtain ⟨o', ho', rfl⟩ := List.mem_map.mp ha
      have e2 : b' = p6 := by simpa using hb'
      have := (hco o' ho').tp
      rw [e, e2, n64] at this
      cases this
    · rcases List.mem_append.mp hx with g | g
      · exact up ((hco x g).same s46) (fun zz => by have := (hco x g).tp; rw [zz, hd4] at this; cases this)
      · rw [List.mem_singleton.mp g]; exact up new6 h6d
    · rw [List.map_append, hcp, ← take_snoc hoi, List.map_append]; rfl
    · rcases List.mem_append.mp hx with g | g
      · exact hcf x g
      · rw [List.mem_singleton.mp g]; exact s4.none n64 h6d
    · rw [upd_ne zz]; exact s46 _ _ (s4 a u ea zz)
  · rintro σ H4 ⟨bv, ov, cur, rfl, hcl, hd4, hcn, hco, hcp, hcf, s4⟩
    rw [sgs_len] at hcl hd4 hcp
    rw [List.take_length] at hd4
    rw [← hol, List.take_length] at hcp
    have hO4 : OrdAt H4 d (bsOf y) cur := ⟨hd4, hcl, hcn, hco⟩
    have hep4 : H4 ep = some (.lst (ddv ds)) := s4 _ _ (s13 _ _ hep) (ne_of_none hep ndH)
    have sH4 : Same H H4 := fun a u ea => s4 _ _ (s13 _ _ ea) (ne_of_none ea ndH)
    have hwl4 := s4 _ _ hwl3 (Ne.symm hdw)
    have hcf0 : ∀ o ∈ cur, H o.o = none := fun o ho => Same.free s13 (hcf o ho)
    refine ⟨_, rfl, ep, rfl, ⟨_, SqL.of hep4⟩, ?_⟩
    refine for_enumL (K := K) (a := ep) (xs := ddv ds) (fun i σ H' => ∃ (nv dv : Option V) (cu : List Od) (ws' : List (List Nat)), σ = [some (.str (S y)), some (.ref dr), some (.ref ep), some (.ref wl), some (.ref d), bv, ov, nv, dv] ∧ OrdAt H' d (bsOf y) cu ∧ H' wl = some (.lst (txs ws')) ∧ Good y ws' (cu.map prs) ∧ (∀ o ∈ cu, o.o ≠ wl) ∧ (∀ o ∈ cu, H o.o = none) ∧ Path y ws' (cu.map prs) ((ds.drop i).map Dd.e) ∧ runD y ws' (cu.map prs) ((ds.drop i).map Dd.e) = runD y ws (os.map prs) (ds.map Dd.e) ∧ Same H H')
      ⟨none, none, cur, ws, rfl, hO4, hwl4, by rw [hcp]; exact hg, fun o ho zz => absurd (hcf o ho) (by rw [zz, hwl3]; exact Option.some_ne_none _), hcf0, by rw [hcp]; exact hpath, by rw [hcp]; rfl, sH4⟩ (fun i σ H' _ ⟨_, _, _, _, _, _, _, _, _, _, _, _, s⟩ => SqL.of (s _ _ hep)) ?_ ?_
    · rintro i x σ H5 T hx ⟨nv, dv, cu, ws', rfl, hO5, hw5, hg5, hne5, hf5, hp5, hr5, s5⟩ nT
      obtain ⟨dd, hdd, rfl⟩ := ddv_at hx
      have hddm := List.mem_of_getElem? hdd
      have hi := List.getElem?_eq_some_iff.mp hdd
      have edr : (ds.drop i).map Dd.e = dd.e :: (ds.drop (i + 1)).map Dd.e := by rw [List.drop_eq_getElem_cons hi.1, hi.2]; rfl
      rw [edr] at hp5 hr5
      obtain ⟨hok, hp6⟩ := hp5
      have sT := Same.upd (o := HO.tup [V.int i, V.ref dd.a]) nT
      refine ⟨T, _, rfl, SqT.of upd_same, rfl, _, _, rfl, _, _, rfl, rfl, ?_⟩
      have hold := (hg5.hold hy hz hO5 hw5 hne5).same sT
      refine ⟨_, rfl, _, rfl, _, rfl, _, rfl, y, d, wl, dd.a, cu, ws', dd.e, rfl, hy, hz, hold, fun o ho => Nat.le_trans (hg5.len o ho) (by decide), (hds dd hddm).ts (TSame.of (s5.trans sT)), hok, fun os' H' g1 g2 g3 g4 g5 => ?_⟩
      refine ⟨_, rfl, iteN rfl ?_⟩
      have hwH : H wl = none := nwl
      have hg6 : Good y (dW ws' dd.e) (os'.map prs) := by rw [g2]; exact hg5.step hy hok
      have hfr : ∀ o ∈ os', H o.o = none := fun o ho => by
        rcases g4 o ho with g | g
        · exact Same.free (s5.trans sT) g
        · obtain ⟨o', ho', e⟩ := List.mem_map.mp g
          rw [← e]; exact hf5 o' ho'
      refine ⟨_, _, os', dW ws' dd.e, rfl, g1, g3, hg6, fun o ho zz => ?_, hfr, by rw [g2]; exact hp6, by rw [g2]; exact hr5, fun a u ea => ?_⟩
      · rcases g4 o ho with g | g
        · rw [zz, hold.wd] at g; cases g
        · obtain ⟨o', ho', e⟩ := List.mem_map.mp g
          exact hne5 o' ho' (e.trans zz)
      · refine g5 a u (sT _ _ (s5 a u ea)) (ne_of_none ea ndH) (ne_of_none ea hwH) fun zz => ?_
        obtain ⟨o', ho', e⟩ := List.mem_map.mp zz
        have := hf5 o' ho'
        rw [e, ea] at this
        cases this
    · rintro σ H5 ⟨nv, dv, cu, ws', rfl, hO5, hw5, hg5, hne5, hf5, hp5, hr5, s5⟩
      rw [ddv_len, List.drop_length] at hr5
      have hr6 : (ws', cu.map prs) = runD y ws (os.map prs) (ds.map Dd.e) := hr5
      rw [← hr6] at q
      have hcul := hO5.ln
      refine ⟨_, rfl, wl, _, rfl, .inl ⟨SqL.of hw5, fun tw ntw => ?_⟩⟩
      have sw := Same.upd (o := HO.tup (txs ws')) ntw
      have htw : upd H5 tw (HO.tup (txs ws')) tw = some (HO.tup (txs ws')) := upd_same
      have hO6 := hO5.same sw
      have s6 := s5.trans sw
      generalize upd H5 tw (HO.tup (txs ws')) = H6 at sw htw hO6 s6 ⊢
      refine ⟨_, rfl, y, rfl, fun c hc => (hy.lt c hc).lt, by omega, fun l0 H7 hl0 hw0 s7 => ?_⟩
      have el := bsOf_eq hl0 hw0
      subst el
      have hO7 := hO6.same s7
      have htw7 := s7 _ _ htw
      have s67 := s6.trans s7
      refine ⟨_, rfl, ?_⟩
      refine comp_fix (xs := sgs (bsOf y)) (fun i acc H' => Same H7 H' ∧ ∃ oo : List Od, acc = odv oo ∧ (∀ o ∈ oo, OdOk H' o) ∧ oo.map prs = (cu.take i).map prs) (by rw [sgs_len]; omega) ⟨Same.refl _, [], rfl, fun _ h => absurd h List.not_mem_nil, rfl⟩ ?_ ?_
      · rintro i x acc H8 Nx hi hx hal ⟨s8, oo, rfl, hod, hoe⟩ nx
        obtain ⟨b, hb, rfl⟩ := sgs_get hx
        have hib : i < (bsOf y).length := (List.getElem?_eq_some_iff.mp hb).1
        have hoi : cu[i]? = some cu[i] := List.getElem?_eq_getElem (by omega)
        have hom : cu[i] ∈ cu := List.getElem_mem (by omega)
        generalize cu[i] = o at hoi hom
        have hO8 := hO7.same s8
        refine ⟨⟨rfl, trivial⟩, yes_ite ?_⟩
        refine ⟨_, rfl, _, rfl, d, _, rfl, by rw [← ordK_get hnd hb hoi]; exact DGet.k (k := kS [b]) hO8.dk, ?_⟩
        have hlo := hO8.ok o hom
        refine ⟨o.o, _, rfl, .inl ⟨SqL.of hlo.tp, fun t nt => ?_⟩⟩
        refine nx _ _ (by simpa using hal) ⟨s8.trans (Same.upd nt), oo ++ [⟨t, o.ps⟩], odv_snoc oo ⟨t, o.ps⟩, fun o' ho => ?_, ?_⟩
        · rcases List.mem_append.mp ho with g | g
          · exact (hod o' g).same (Same.upd nt)
          · have e := List.mem_singleton.mp g
            subst e
            exact ⟨upd_same, fun p hp => (hlo.pr p hp).same (Same.upd nt), hlo.fw⟩
        · rw [List.map_append, hoe, ← take_snoc hoi, List.map_append]
          rfl
      · rintro acc H8 D hal ⟨s8, oo, rfl, hod, hoe⟩ hD
        rw [sgs_len, ← hcul, List.take_length] at hoe
        refine ⟨D, _, rfl, .inl ⟨SqL.of upd_same, fun t nt => ?_⟩⟩
        refine ⟨by show 2 ≤ sizeLine; decide, fun dr' ndr => ?_⟩
        have sA := (Same.upd (o := .lst (odv oo)) hD).trans ((Same.upd (o := .tup (odv oo)) nt).trans (Same.upd (o := .tup [.ref tw, .ref t]) ndr))
        have htd : t ≠ dr' := fun z => by rw [← z, upd_same] at ndr; cases ndr
        exact q dr' oo _ ⟨⟨tw, t, upd_same, sA _ _ (s8 _ _ htw7), by rw [upd_ne htd, upd_same]⟩, fun o ho => (hod o ho).same sA⟩ hoe (by rw [hoe]; exact hg5) ((s67.trans s8).trans sA)
theorem ok_Ldrawing (T : Txt K mg f0 f1 f2 f3 f4 f5 f6 f7 f8 f9 f10 f11 f12 f13 f14 f15 f16 f17 f18 f19 f20 f21 f22 d0 d1 d2 d3 d4 d5 d6 d7 d8 d9 d10 d11 d12 d13 d14 d15 d16 d17 d18 d19 d20 d21 d22) : FnOk P w K mg base CX0 3 f16 d16 ["_law_box_here", "_law_yard_here", "_law_words_here"] (sp_Ldrawing K) := by
  have G_Lbands := ok_Lbands (P := P) (w := w) (base := base) T
  have G_Lother := ok_Lother (P := P) (w := w) (base := base) T
  have G_Lorder := ok_Lorder (P := P) (w := w) (base := base) T
  refine T.F16.fn.ok sc_Ldrawing (fun vs H Q E h => len_Ldrawing h) (fun cdv A outer s H vs Q E hr h => ?_)
  refine ⟨_, (pss_cons (ps_set (i := 3) sc_Ldrawing.nd rfl (Or.inl rfl) (pe_lst pa_nil))
      (pss_cons (ps_for PassesOwn.never rfl (pi_listK K rfl (pe_call G_Lbands (hr.mono (by decide)) rfl T.F15.mg T.F15.fn.kp T.F15.bd .nil pass0 (pa_cons (pv 1) pa_nil))) (pg_name (i := 4) sc_Ldrawing.nd rfl (Or.inr rfl)) (pss_cons (ps_set (i := 5) sc_Ldrawing.nd rfl (Or.inl rfl) (pe_lst pa_nil))
      (pss_cons (ps_for PassesOwn.never rfl (pi_enumT K rfl rfl T.z_enumerate (pa_cons (pv 2) pa_nil)) (pg_tupK (n := 2) K rfl rfl (pgs_cons (pg_name (i := 6) sc_Ldrawing.nd rfl (Or.inr rfl)) (pgs_cons (pg_name (i := 7) sc_Ldrawing.nd rfl (Or.inl rfl)) pgs_nil))) (pss_one (ps_expr (pe_bmK K rfl PySem.F.plainAttrs_list PySem.F.slot_list_extend PySem.F.type_list_extend mt_extend (pv 5) (pa_cons (pe_compB ["_law_i", "_law_letter", "_law_c", "_law_band"] [none, none, some 6, some 4] (pi_enumS rfl T.z_enumerate (pa_cons (pv 7) pa_nil)) ⟨⟨rfl, rfl, by first | exact .inl rfl | exact .inr rfl⟩, ⟨⟨rfl, rfl, by first | exact .inl rfl | exact .inr rfl⟩, trivial⟩⟩ (fun _ _ _ _ => (pg_tupK (n := 2) K rfl rfl (pgs_cons (pg_name (i := 0) (by decide +kernel : List.Nodup (["_law_i", "_law_letter", "_law_c", "_law_band"] : List Str)) rfl (Or.inl rfl)) (pgs_cons (pg_name (i := 1) (by decide +kernel : List.Nodup (["_law_i", "_law_letter", "_law_c", "_law_band"] : List Str)) rfl (Or.inl rfl)) pgs_nil)))) (fun _ _ _ _ => (pf_one (pt_cmpR (op_inK K rfl) (pv 1) (pe_tup (pa_cons (pv 3) (pa_cons (pe_call G_Lother (hr.mono (by decide)) rfl T.F11.mg T.F11.fn.kp T.F11.bd .nil pass0 (pa_cons (pv 3) pa_nil)) pa_nil))) (by with_unfolding_all rfl)))) (fun _ _ _ _ => (pe_tup (pa_cons (pv 2) (pa_cons (pv 0) pa_nil))))) pa_nil)))))
      (pss_one (ps_expr (pe_bmK K rfl PySem.F.plainAttrs_list PySem.F.slot_list_append PySem.F.type_list_append mt_append (pv 3) (pa_cons (pe_callTy (call_tuple_ofK K rfl) rfl T.z_tuple boot_tuple (pa_cons (pe_call G_Lorder (hr.mono (by decide)) rfl T.F14.mg T.F14.fn.kp T.F14.bd .nil pass0 (pa_cons (pv 0) (pa_cons (pv 5) pa_nil))) pa_nil)) pa_nil)))))))
      (pss_one (ps_ret (pe_tup (pa_cons (pe_callTy (call_tuple_ofK K rfl) rfl T.z_tuple boot_tuple (pa_cons (pv 2) pa_nil)) (pa_cons (pe_callTy (call_tuple_ofK K rfl) rfl T.z_tuple boot_tuple (pa_cons (pv 3) pa_nil)) pa_nil))))))), ?_⟩
  obtain ⟨b, y, wt, ws, rfl, hb, hy, hz, hwb, hwt, hw, q⟩ := h
  have hs : (100000 : Nat) < sizeLine := by decide
  have hwf := hw.few
  (repeat (first | refine ⟨_, rfl, ?_⟩ | refine ⟨_, _, rfl, rfl, ?_⟩ | refine ⟨_, _, _, rfl, rfl, by first | assumption | omega, by assumption, ?_⟩ | refine ⟨rfl, ?_⟩ | refine And.intro (by first | decide | omega | assumption | exact Nat.le_of_ble_eq_true rfl | exact .inl ⟨by decide, by decide⟩ | exact .inr ⟨by decide, by decide⟩ | exact ⟨by decide, by decide⟩ | exact ⟨by omega, by omega⟩) ?_))
  intro p1 n1
  have bp1 : p1 ≠ b := hb.ne n1
  have h1w : p1 ≠ wt := Ne.symm (ne_of_none hwt n1)
  refine ⟨_, rfl, y, rfl, by omega, fun p2 l2 H1 n2 hp2 hl2 hw2 s1 => ?_⟩
  rw [smalls_low hy.lt] at hl2
  have el := bsOf_eq hl2 hw2
  subst el
  have n20 : H p2 = none := Same.free (Same.upd n1) n2
  have bp2 : p2 ≠ b := hb.ne n20
  have p12 : p1 ≠ p2 := fun z => by rw [← z, upd_same] at n2; cases n2
  have s01 : Same H H1 := (Same.upd n1).trans s1
  have hp1 : H1 p1 = some (.lst []) := s1 _ _ upd_same
  have hbl := bsOf_len hy
  refine ⟨p2, rfl, ⟨_, SqL.of hp2⟩, ?_⟩
  refine for_list (K := K) (a := p2) (xs := sgs (bsOf y)) (fun i σ H' => ∃ (os : List Od) (bv sv cv wv : Option V), σ = [some (.ref b), some (.str (S y)), some (.ref wt), some (.ref p1), bv, sv, cv, wv] ∧ H' p1 = some (.lst (odv os)) ∧ H' p2 = some (.lst (sgs (bsOf y))) ∧ os.length = i ∧ (∀ o ∈ os, OdOk H' o) ∧ (∀ (j : Nat) (o : Od) (c : Nat), os[j]? = some o → (bsOf y)[j]? = some c → (o.ps.map Pr.pair).Perm (strAll c ws ws.length)) ∧ BoxAt H' b ∧ SameB b H H')
    ⟨[], none, none, none, none, rfl, hp1, hp2, rfl, fun _ h => absurd h List.not_mem_nil, fun j o c h => by simp at h, hb.same s01, SameB.of s01⟩ (fun i σ H' _ ⟨_, _, _, _, _, _, _, h, _⟩ => SqL.of h) ?_ ?_
  · rintro i x σ H2 hx ⟨os, bv, sv, cv, wv, rfl, hp1, hp2, hol, hod, hos, hb2, s2⟩
    obtain ⟨band, hband, rfl⟩ := sgs_get hx
    have hi : i < (bsOf y).length := (List.getElem?_eq_some_iff.mp hband).1
    have hbl2 : Lt band := hy.lt band (List.mem_filter.mp ((bsOf_perm y).mem_iff.mp (List.mem_of_getElem? hband))).1
    (repeat (first | refine ⟨_, rfl, ?_⟩ | refine ⟨_, _, rfl, rfl, ?_⟩ | refine ⟨_, _, _, rfl, rfl, by first | assumption | omega, by assumption, ?_⟩ | refine ⟨rfl, ?_⟩ | refine And.intro (by first | decide | omega | assumption | exact Nat.le_of_ble_eq_true rfl | exact .inl ⟨by decide, by decide⟩ | exact .inr ⟨by decide, by decide⟩ | exact ⟨by decide, by decide⟩ | exact ⟨by omega, by omega⟩) ?_))
    intro p3 n3
    have hwt2 := s2 _ _ hwt hwb
    refine ⟨_, rfl, wt, rfl, ⟨_, SqT.of ((Same.upd n3) _ _ hwt2)⟩, ?_⟩
    refine for_enumT (K := K) (a := wt) (xs := txs ws) (fun j σ H' => ∃ (ps : List Pr) (cv wv : Option V), σ = [some (.ref b), some (.str (S y)), some (.ref wt), some (.ref p1), some (.str (S [band])), some (.ref p3), cv, wv] ∧ H' p3 = some (.lst (prv ps)) ∧ (∀ p ∈ ps, PrOk H' p) ∧ ps.map Pr.pair = strAll band ws j ∧ ps.length ≤ 12 * j ∧ Same H2 H')
      ⟨[], cv, wv, rfl, upd_same, fun _ h => absurd h List.not_mem_nil, rfl, Nat.zero_le _, Same.upd n3⟩ (fun j σ H' _ ⟨_, _, _, _, _, _, _, _, h⟩ => SqT.of (h _ _ hwt2)) ?_ ?_
    · rintro j x σ H3 T hxj ⟨ps, cv3, wv3, rfl, hp3, hps, hpe, hpl, s3⟩ nT
      have hj : j < ws.length := by
        have := (List.getElem?_eq_some_iff.mp hxj).1
        rwa [txs_len] at this
      rw [txs_at hj] at hxj
      cases hxj
      have hjw : ws[j]? = some ws[j] := List.getElem?_eq_getElem hj
      obtain ⟨hwy, hwz⟩ := hw.all _ (List.getElem_mem hj)
      generalize ws[j] = w at hjw hwy hwz ⊢
      refine ⟨T, _, rfl, SqT.of upd_same, rfl, _, _, rfl, _, _, rfl, rfl, ?_⟩
      have s3T := Same.upd (o := .tup [.int j, .str (S w)]) nT
      have hp3T := s3T _ _ hp3
      refine ⟨_, rfl, .inl ⟨rfl, _, SqL.of hp3T⟩, _, rfl, w, rfl, ?_⟩
      refine comp_enum (l := w) (fun m acc H' => Same (upd H3 T (.tup [.int j, .str (S w)])) H' ∧ ∃ vs : List Pr, acc = prv vs ∧ (∀ p ∈ vs, PrOk H' p) ∧ vs.map Pr.pair = strUp band j w m ∧ vs.length ≤ m) (by omega) ⟨Same.refl _, [], rfl, fun _ h => absurd h List.not_mem_nil, rfl, Nat.le_refl _⟩ ?_ ?_
      · rintro m l acc H4 T2 Nx hm hal ⟨s4, vs, rfl, hvs, hve, hvl⟩ nT2 nx
        have hmw : m < w.length := (List.getElem?_eq_some_iff.mp hm).1
        have es := strUp_succ (band := band) (c := j) hm
        rw [show onB band l = (decide (l = band) || decide (l = ctr band)) from rfl] at es
        refine ⟨T2, _, rfl, SqT.of upd_same, rfl, _, _, rfl, _, _, rfl, rfl, ?_⟩
        refine ⟨⟨rfl, rfl, trivial⟩, ?_⟩
        have s4T := Same.upd (o := .tup [.int m, .str (S [l])]) nT2
        refine ⟨_, rfl, _, rfl, _, rfl, band, rfl, hbl2, by show 2 ≤ sizeLine; decide, fun t nt => ?_⟩
        refine ⟨t, _, rfl, .inr (SqT.of upd_same), rfl, rfl, _, rfl, ?_⟩
        have s4t := s4T.trans (Same.upd (o := .tup [.str (S [band]), .str (S [ctr band])]) nt)
        generalize upd (upd H4 T2 (.tup [.int m, .str (S [l])])) t (.tup [.str (S [band]), .str (S [ctr band])]) = H5 at s4t ⊢
        show if inV (.str (S [l])) [.str (S [band]), .str (S [ctr band])] = true then _ else _
        rw [inV_two]
        refine ite2 (fun z => ?_) (fun z => ?_)
        · rw [if_pos z] at es
          refine ⟨_, rfl, _, rfl, by show 2 ≤ sizeLine; decide, fun t2 nt2 => ?_⟩
          refine nx _ _ (by simpa using hal) ⟨(s4.trans s4t).trans (Same.upd nt2), vs ++ [⟨t2, j, m⟩], prv_snoc vs ⟨t2, j, m⟩, fun p hp => ?_, by rw [List.map_append, hve, es]; rfl, by rw [List.length_append]; show vs.length + 1 ≤ _; omega⟩
          rcases List.mem_append.mp hp with g | g
          · exact (hvs p g).same (s4t.trans (Same.upd nt2))
          · have e2 := List.mem_singleton.mp g
            subst e2
            exact ⟨upd_same, by show j < 1000; omega, by show m < 1000; omega⟩
        · rw [if_neg z, List.append_nil] at es
          exact nx _ _ (Nat.le_succ_of_le hal) ⟨s4.trans s4t, vs, rfl, fun p hp => (hvs p hp).same s4t, by rw [es]; exact hve, by omega⟩
      · rintro acc H4 D hal ⟨s4, vs, rfl, hvs, hve, hvl⟩ hD
        have hp4 := s4 _ _ hp3T
        refine ⟨p3, D, _, _, rfl, rfl, (Same.upd hD) _ _ hp4, upd_same, by rw [prv_len, prv_len]; omega, ?_⟩
        rw [prv_app]
        have s34 : Same H3 (upd H4 D (.lst (prv vs))) := (s3T.trans s4).trans (Same.upd hD)
        have hp4D := (Same.upd (o := .lst (prv vs)) hD) _ _ hp4
        have n3H : H2 p3 = none := n3
        refine ⟨ps ++ vs, _, _, rfl, upd_same, fun p hp => ?_, by rw [List.map_append, hpe, hve, strAll_succ hjw], by rw [List.length_append]; omega, fun a o ea => by rw [upd_ne (ne_of_none ea n3H)]; exact s34 _ _ (s3 a o ea)⟩
        rcases List.mem_append.mp hp with g | g
        · exact ((hps p g).same s34).ts (TSame.updL hp4D)
        · exact ((hvs p g).same (Same.upd hD)).ts (TSame.updL hp4D)
    · rintro σ H3 ⟨ps, cv3, wv3, rfl, hp3, hps, hpe, hpl, s3⟩
      rw [txs_len] at hpe hpl
      have hb3 := hb2.same s3
      have b3 : p3 ≠ b := hb2.ne n3
      have hp13 := s3 _ _ hp1
      refine ⟨_, rfl, .inl ⟨rfl, _, SqL.of hp13⟩, ?_⟩
      refine ⟨_, rfl, _, rfl, b, .ref p3, prv ps, rfl, hb3, .inl ⟨p3, rfl, .inl (SqL.of hp3)⟩, by rw [prv_len]; omega, fun qa ys H4 nq qb hq hperm hb4 s4 => ?_⟩
      obtain ⟨ps', e1, e2⟩ := perm_unmap (f := fun p : Pr => V.ref p.t) hperm ps rfl
      have e3 : ys = prv ps' := e1
      subst e3
      have ts34 := TSame.box hb3 s4
      refine ⟨qa, _, rfl, .inl ⟨SqL.of hq, fun t nt => ?_⟩⟩
      have s2t : SameB b H2 (upd H4 t (.tup (prv ps'))) := ((SameB.of s3).trans s4).after (Same.upd nt)
      have hp14 := s2t _ _ hp1 bp1
      have ts4t : TSame H4 (upd H4 t (.tup (prv ps'))) := TSame.updN nt
      refine ⟨p1, _, _, rfl, rfl, hp14, by rw [odv_len]; omega, ?_⟩
      have tsA := (ts34.trans ts4t).trans (TSame.updL (o := .lst (odv os ++ [.ref t])) hp14)
      have hsub : ∀ p ∈ ps', p ∈ ps := fun p hp => e2.mem_iff.mp hp
      have hlen := e2.length_eq
      refine ⟨os ++ [⟨t, ps'⟩], _, _, _, _, rfl, by rw [upd_same]; exact congrArg (fun x => some (HO.lst x)) (odv_snoc os ⟨t, ps'⟩), by rw [upd_ne (Ne.symm p12)]; exact s2t _ _ hp2 bp2, by simp [hol], fun o ho => ?_, fun j o c hj hc => ?_, ?_, ?_⟩
      · rcases List.mem_append.mp ho with g | g
        · exact ((hod o g).same s3).ts tsA
        · have eo := List.mem_singleton.mp g
          subst eo
          refine ⟨?_, fun p hp => (hps p (hsub p hp)).ts tsA, by show ps'.length ≤ 100; omega⟩
          exact (TSame.updL (o := .lst (odv os ++ [.ref t])) hp14) _ _ upd_same
      · by_cases hlt : j < os.length
        · rw [List.getElem?_append_left hlt] at hj
          exact hos j o c hj hc
        · have hj2 : j = os.length := by
            have := (List.getElem?_eq_some_iff.mp hj).1
            rw [List.length_append] at this
            have : j < os.length + 1 := this
            omega
          subst hj2
          rw [List.getElem?_append_right (Nat.le_refl _), Nat.sub_self] at hj
          have eo : (⟨t, ps'⟩ : Od) = o := by simpa using hj
          rw [hol, hband] at hc
          have ec : band = c := Option.some.inj hc
          subst eo
          subst ec
          exact (e2.map Pr.pair).trans (by rw [hpe])
      · exact ((hb4.same (Same.upd nt)).updN bp1)
      · exact (s2.trans s2t).updN n1
  · rintro σ H2 ⟨os, bv, sv, cv, wv, rfl, hp1, hp2, hol, hod, hos, hb2, s2⟩
    rw [sgs_len] at hol
    have hwt2 := s2 _ _ hwt hwb
    refine ⟨_, rfl, wt, _, rfl, .inr ⟨SqT.of hwt2, ?_⟩⟩
    refine ⟨_, rfl, p1, _, rfl, .inl ⟨SqL.of hp1, fun t nt => ?_⟩⟩
    refine ⟨by show 2 ≤ sizeLine; decide, fun dr ndr => ?_⟩
    have nt0 : H t = none := s2.none nt (hb2.ne nt)
    have sA : Same H2 (upd (upd H2 t (.tup (odv os))) dr (.tup [.ref wt, .ref t])) := (Same.upd nt).trans (Same.upd ndr)
    have htd : t ≠ dr := fun z => by rw [← z, upd_same] at ndr; cases ndr
    refine q dr os _ ⟨⟨wt, t, upd_same, sA _ _ hwt2, by rw [upd_ne htd, upd_same]⟩, fun o ho => (hod o ho).same sA⟩ ⟨hol, hos⟩ (hb2.same sA) (s2.after sA)
theorem ok_Lword (T : Txt K mg f0 f1 f2 f3 f4 f5 f6 f7 f8 f9 f10 f11 f12 f13 f14 f15 f16 f17 f18 f19 f20 f21 f22 d0 d1 d2 d3 d4 d5 d6 d7 d8 d9 d10 d11 d12 d13 d14 d15 d16 d17 d18 d19 d20 d21 d22) : FnOk P w K mg base CX0 2 f13 d13 ["_law_box_here", "_law_yard_here", "_law_top"] (sp_Lword K) := by
  have G_Ltake := ok_Ltake (P := P) (w := w) (base := base) T
  refine T.F13.fn.ok sc_Lword (fun vs H Q E h => len_Lword h) (fun cdv A outer s H vs Q E hr h => ?_)
  refine ⟨_, (pss_one (ps_ret (pe_bmK K rfl PySem.F.plainAttrs_str PySem.F.slot_str_join PySem.F.type_str_join (mt_joinK K rfl) (pe_S [] (by decide +kernel)) (pa_cons (pe_compB ["_law_k", "_law_yard_here", "_law_box_here"] [none, some 1, some 0] (pi_range1 rfl T.z_range (pa_cons (pe_call G_Ltake (hr.mono (by decide)) rfl T.F10.mg T.F10.fn.kp T.F10.bd .nil pass0 (pa_cons (pv 0) (pa_cons (pe_op op_add (pv 2) pe_int) pa_nil))) pa_nil)) ⟨⟨rfl, rfl, by first | exact .inl rfl | exact .inr rfl⟩, ⟨⟨rfl, rfl, by first | exact .inl rfl | exact .inr rfl⟩, trivial⟩⟩ (fun _ _ _ _ => (pg_name (i := 0) (by decide +kernel : List.Nodup (["_law_k", "_law_yard_here", "_law_box_here"] : List Str)) rfl (Or.inl rfl))) (fun _ _ _ _ => pf_nil) (fun _ _ _ _ => (pe_ix ix_S (pv 1) (pe_call G_Ltake (hr.mono (by decide)) rfl T.F10.mg T.F10.fn.kp T.F10.bd .nil pass0 (pa_cons (pv 2) (pa_cons (pe_callB call_lenS rfl T.z_len PySem.boot_len (pa_cons (pv 1) pa_nil)) pa_nil))) (fun _ _ => rfl)))) pa_nil)))), ?_⟩
  obtain ⟨b, y, top, rfl, hb, hy, hyl, ht, q⟩ := h
  have hs : (100000 : Nat) < sizeLine := by decide
  (repeat (first | refine ⟨_, rfl, ?_⟩ | refine ⟨_, _, rfl, rfl, ?_⟩ | refine ⟨rfl, ?_⟩ | refine And.intro (by first | decide | omega | assumption | exact Nat.le_of_ble_eq_true rfl | exact .inl ⟨by decide, by decide⟩ | exact .inr ⟨by decide, by decide⟩ | exact ⟨by decide, by decide⟩ | exact ⟨by omega, by omega⟩) ?_))
  refine ⟨b, _, rfl, hb, by omega, by omega, fun n H1 hn hb1 s1 => ?_⟩
  (repeat (first | refine ⟨_, rfl, ?_⟩ | refine ⟨_, _, rfl, rfl, ?_⟩ | refine ⟨rfl, ?_⟩ | refine And.intro (by first | decide | omega | assumption | exact Nat.le_of_ble_eq_true rfl | exact .inl ⟨by decide, by decide⟩ | exact .inr ⟨by decide, by decide⟩ | exact ⟨by decide, by decide⟩ | exact ⟨by omega, by omega⟩) ?_))
  refine comp_rng (fun i acc H' => BoxAt H' b ∧ SameB b H H' ∧ ∃ l : List Nat, acc = sgs l ∧ l.length = i ∧ ∀ c ∈ l, c ∈ y) (by simp; omega) ⟨hb1, s1, [], rfl, rfl, by simp⟩ ?_ ?_
  · rintro i acc H2 Nx hi hl ⟨hb2, s2, l, rfl, hl2, hm⟩ nx
    have hpos : 0 < y.length := List.length_pos_iff.mpr hy
    refine ⟨⟨rfl, rfl, trivial⟩, yes_ite ?_⟩
    (repeat (first | refine ⟨_, rfl, ?_⟩ | refine ⟨_, _, rfl, rfl, ?_⟩ | refine ⟨rfl, ?_⟩ | refine And.intro (by first | decide | omega | assumption | exact Nat.le_of_ble_eq_true rfl | exact .inl ⟨by decide, by decide⟩ | exact .inr ⟨by decide, by decide⟩ | exact ⟨by decide, by decide⟩ | exact ⟨by omega, by omega⟩) ?_))
    refine ⟨b, _, rfl, hb2, by omega, by omega, fun r H3 hr3 hb3 s3 => ?_⟩
    have hr4 : r < y.length := by omega
    refine ⟨y, _, y[r], rfl, rfl, by omega, atI_nat (List.getElem?_eq_getElem hr4), ?_⟩
    refine nx _ _ (by simpa using hl) ⟨hb3, s2.trans s3, l ++ [y[r]], sgs_snoc _ _, by simp [hl2], fun c hc => ?_⟩
    rcases List.mem_append.mp hc with z | z
    · exact hm c z
    · rw [List.mem_singleton.mp z]; exact List.getElem_mem hr4
  · rintro acc H2 D hl ⟨hb2, s2, l, rfl, hl2, hm⟩ hD
    have hl3 : l.length ≤ top := by simp at hl2; omega
    refine ⟨D, l.map fun c => [c], rfl, rfl, SqL.of ?_, ?_, ?_⟩
    · rw [upd_same, ← sgs_lists]
    · rw [sum1]; omega
    · rw [flat1]
      exact q l _ hm hl3 (hb2.same (Same.upd hD)) (s2.trans (SameB.of (Same.upd hD)))
theorem ok_Lwords (T : Txt K mg f0 f1 f2 f3 f4 f5 f6 f7 f8 f9 f10 f11 f12 f13 f14 f15 f16 f17 f18 f19 f20 f21 f22 d0 d1 d2 d3 d4 d5 d6 d7 d8 d9 d10 d11 d12 d13 d14 d15 d16 d17 d18 d19 d20 d21 d22) : FnOk P w K mg base CX0 3 f17 d17 ["_law_box_here", "_law_yard_here"] (sp_Lwords K) := by
  have G_Ltake := ok_Ltake (P := P) (w := w) (base := base) T
  have G_Lword := ok_Lword (P := P) (w := w) (base := base) T
  refine T.F17.fn.ok sc_Lwords (fun vs H Q E h => len_Lwords h) (fun cdv A outer s H vs Q E hr h => ?_)
  refine ⟨_, (pss_cons (ps_set (i := 2) sc_Lwords.nd rfl (Or.inl rfl) pe_int)
      (pss_cons (ps_set (i := 3) sc_Lwords.nd rfl (Or.inl rfl) (pe_lst pa_nil))
      (pss_cons (ps_for PassesOwn.never rfl (pi_range1 rfl T.z_range (pa_cons (pe_op op_add pe_int (pe_call G_Ltake (hr.mono (by decide)) rfl T.F10.mg T.F10.fn.kp T.F10.bd .nil pass0 (pa_cons (pv 0) (pa_cons pe_int pa_nil)))) pa_nil)) (pg_name (i := 4) sc_Lwords.nd rfl (Or.inl rfl)) (pss_cons (ps_set (i := 5) sc_Lwords.nd rfl (Or.inl rfl) (pe_call G_Lword (hr.mono (by decide)) rfl T.F13.mg T.F13.fn.kp T.F13.bd .nil pass0 (pa_cons (pv 0) (pa_cons (pv 1) (pa_cons (pe_callB (call_min2 rfl) rfl T.z_min boot_min (pa_cons (pv 2) (pa_cons (pe_ix (ix_listK K rfl) (pe_lst (pa_cons pe_int (pa_cons pe_int (pa_cons pe_int pa_nil)))) (pe_call G_Ltake (hr.mono (by decide)) rfl T.F10.mg T.F10.fn.kp T.F10.bd .nil pass0 (pa_cons (pv 0) (pa_cons pe_int pa_nil))) (fun _ _ => rfl)) pa_nil))) pa_nil)))))
      (pss_cons (ps_set (i := 2) sc_Lwords.nd rfl (Or.inl rfl) (pe_op op_sub (pv 2) (pe_callB call_lenS rfl T.z_len PySem.boot_len (pa_cons (pv 5) pa_nil))))
      (pss_one (ps_expr (pe_bmK K rfl PySem.F.plainAttrs_list PySem.F.slot_list_append PySem.F.type_list_append mt_append (pv 3) (pa_cons (pv 5) pa_nil)))))))
      (pss_one (ps_ret (pe_callTy (call_tuple_ofK K rfl) rfl T.z_tuple boot_tuple (pa_cons (pv 3) pa_nil))))))), ?_⟩
  obtain ⟨b, y, rfl, hb, hyn, hz, q⟩ := h
  have hs : (100000 : Nat) < sizeLine := by decide
  (repeat (first | refine ⟨_, rfl, ?_⟩ | refine ⟨_, _, rfl, rfl, ?_⟩ | refine ⟨_, _, _, rfl, rfl, by first | assumption | omega, by assumption, ?_⟩ | refine ⟨rfl, ?_⟩ | refine And.intro (by first | decide | omega | assumption | exact Nat.le_of_ble_eq_true rfl | exact .inl ⟨by decide, by decide⟩ | exact .inr ⟨by decide, by decide⟩ | exact ⟨by decide, by decide⟩ | exact ⟨by omega, by omega⟩) ?_))
  intro p1 n1
  have bp1 : p1 ≠ b := hb.ne n1
  refine ⟨_, rfl, b, 4, rfl, hb.same (Same.upd n1), by decide, by decide, fun n H1 hn hb1 s1 => ?_⟩
  refine ⟨_, _, rfl, rfl, _, rfl, by omega, by omega, ?_⟩
  refine for_range (fun i σ H' => ∃ (ws : List (List Nat)) (lf : Nat) (kv wv : Option V), σ = [some (.ref b), some (.str (S y)), some (.int lf), some (.ref p1), kv, wv] ∧ H' p1 = some (.lst (txs ws)) ∧ ws.length = i ∧ (∀ w ∈ ws, (∀ c ∈ w, c ∈ y) ∧ w.length ≤ 12) ∧ lf ≤ 24 ∧ BoxAt H' b ∧ SameB b H H')
    ⟨[], 24, none, none, rfl, s1 _ _ upd_same bp1, rfl, fun _ h => absurd h List.not_mem_nil, Nat.le_refl _, hb1, (SameB.of (Same.upd n1)).trans s1⟩ ?_ ?_
  · rintro i σ H2 hi ⟨ws, lf, kv, wv, rfl, hp1, hwl, hw, hlf, hb2, s2⟩
    have hi5 : i < 4 := by omega
    refine ⟨_, rfl, _, rfl, _, rfl, by decide, fun p2 n2 => ?_⟩
    have bp2 : p2 ≠ b := hb2.ne n2
    refine ⟨_, rfl, b, 3, rfl, hb2.same (Same.upd n2), by decide, by decide, fun r H3 hr3 hb3 s3 => ?_⟩
    obtain ⟨v, hv, hv12⟩ : ∃ v : Nat, atI [V.int 3, V.int 6, V.int 12] ((r : Nat) : Int) = some (V.int v) ∧ v ≤ 12 := by
      have h3 : r = 0 ∨ r = 1 ∨ r = 2 := by omega
      rcases h3 with rfl | rfl | rfl
      · exact ⟨3, atI_nat (xs := [V.int 3, V.int 6, V.int 12]) (j := 0) rfl, by decide⟩
      · exact ⟨6, atI_nat (xs := [V.int 3, V.int 6, V.int 12]) (j := 1) rfl, by decide⟩
      · exact ⟨12, atI_nat (xs := [V.int 3, V.int 6, V.int 12]) (j := 2) rfl, by decide⟩
    refine ⟨p2, _, _, _, rfl, rfl, SqL.of (s3 _ _ upd_same bp2), hv, _, _, rfl, ?_⟩
    obtain ⟨top, ht, ht1, ht2⟩ : ∃ top : Nat, (if (v : Int) < (lf : Int) then (v : Int) else (lf : Int)) = (top : Int) ∧ top ≤ lf ∧ top ≤ 12 := by
      split
      · exact ⟨v, rfl, by omega, hv12⟩
      · exact ⟨lf, rfl, Nat.le_refl _, by omega⟩
    rw [ht]
    refine ⟨b, y, top, rfl, hb3, hyn, by omega, by omega, fun w H4 hwm hwz hb4 s4 => ?_⟩
    have s24 : SameB b H2 H4 := ((SameB.of (Same.upd n2)).trans s3).trans s4
    have hp4 := s24 _ _ hp1 bp1
    refine ⟨_, rfl, _, rfl, w, rfl, by omega, _, _, rfl, rfl, ?_⟩
    refine ⟨_, rfl, .inl ⟨rfl, _, SqL.of hp4⟩, _, rfl, p1, _, _, rfl, rfl, hp4, by rw [txs_len]; omega, ?_⟩
    rw [txs_snoc]
    have elf : ((lf : Int) - (w.length : Int)) = ((lf - w.length : Nat) : Int) := by omega
    refine ⟨ws ++ [w], lf - w.length, _, _, by rw [← elf]; rfl, upd_same, by simp [hwl], fun u hu => ?_, by omega, hb4.updN bp1, (s2.trans s24).updN n1⟩
    rcases List.mem_append.mp hu with z | z
    · exact hw u z
    · rw [List.mem_singleton.mp z]; exact ⟨hwm, by omega⟩
  · rintro σ H2 ⟨ws, lf, kv, wv, rfl, hp1, hwl, hw, hlf, hb2, s2⟩
    refine ⟨_, rfl, p1, _, rfl, .inl ⟨SqL.of hp1, fun t nt => ?_⟩⟩
    have nt0 : H t = none := s2.none nt (hb2.ne nt)
    exact q t ws _ nt0 (hb.ne nt0) upd_same ⟨by omega, hw⟩ (fun z => by rw [z] at hwl; simp at hwl; omega) (hb2.updN (hb.ne nt0)) (s2.updN nt0)
theorem ok_Ldoes (T : Txt K mg f0 f1 f2 f3 f4 f5 f6 f7 f8 f9 f10 f11 f12 f13 f14 f15 f16 f17 f18 f19 f20 f21 f22 d0 d1 d2 d3 d4 d5 d6 d7 d8 d9 d10 d11 d12 d13 d14 d15 d16 d17 d18 d19 d20 d21 d22) : FnOk P w K mg base CX0 2 f20 d20 ["_law_yard_here", "_law_world", "_law_deed_here"] (sp_Ldoes K) := by
  have G_Lbands := ok_Lbands (P := P) (w := w) (base := base) T
  have G_Lother := ok_Lother (P := P) (w := w) (base := base) T
  refine T.F20.fn.ok sc_Ldoes (fun vs H Q E h => len_Ldoes h) (fun cdv A outer s H vs Q E hr h => ?_)
  refine ⟨_, (pss_cons (ps_set (i := 3) sc_Ldoes.nd rfl (Or.inl rfl) (pe_call G_Lbands (hr.mono (by decide)) rfl T.F15.mg T.F15.fn.kp T.F15.bd .nil pass0 (pa_cons (pv 0) pa_nil)))
      (pss_cons (ps_par (i := 4) (j := 5) rfl sc_Ldoes.nd rfl rfl (by decide) rfl rfl (pa_cons (pe_dget (hu_of hr) (pv 1) (pe_S [119, 111, 114, 100, 115] (by decide +kernel)) (fun _ _ => rfl)) (pa_cons (pe_dget (hu_of hr) (pv 1) (pe_S [111, 114, 100, 101, 114, 115] (by decide +kernel)) (fun _ _ => rfl)) pa_nil)) rfl)
      (pss_cons (ps_if (pt_cmpR op_eqS (pe_ix (ix_tupK K rfl) (pv 2) pe_int (fun _ _ => rfl)) (pe_S [115, 119, 97, 112] (by decide +kernel)) (nomark _)) (pss_cons (ps_if (PW.pt (pw_or (pt_cmpR (op_ninK K rfl) (pe_ix (ix_tupK K rfl) (pv 2) pe_int (fun _ _ => rfl)) (pv 3) (by with_unfolding_all rfl)) (pw_or1 (pt_not (pt_chain op_le op_le pe_int (pe_ix (ix_tupK K rfl) (pv 2) pe_int (fun _ _ => rfl)) (pe_op op_sub (pe_callB (call_len_seqK K rfl) rfl T.z_len PySem.boot_len (pa_cons (pe_ix (ix_listK K rfl) (pv 5) (pe_bmK K rfl PySem.F.plainAttrs_list PySem.F.slot_list_index PySem.F.type_list_index (mt_indexL K rfl) (pv 3) (pa_cons (pe_ix (ix_tupK K rfl) (pv 2) pe_int (fun _ _ => rfl)) pa_nil)) (fun _ _ => rfl)) pa_nil)) pe_int)))))) (pss_one (ps_ret pe_bl)) pss_nil)
      (pss_cons (ps_set (i := 6) sc_Ldoes.nd rfl (Or.inl rfl) (pe_ix (ix_listK K rfl) (pv 5) (pe_bmK K rfl PySem.F.plainAttrs_list PySem.F.slot_list_index PySem.F.type_list_index (mt_indexL K rfl) (pv 3) (pa_cons (pe_ix (ix_tupK K rfl) (pv 2) pe_int (fun _ _ => rfl)) pa_nil)) (fun _ _ => rfl)))
      (pss_cons (ps_expr (pe_bmK K rfl PySem.F.plainAttrs_list PySem.F.slot_list_insert PySem.F.type_list_insert mt_insert (pv 6) (pa_cons (pe_ix (ix_tupK K rfl) (pv 2) pe_int (fun _ _ => rfl)) (pa_cons (pe_bmK K rfl PySem.F.plainAttrs_list PySem.F.slot_list_pop PySem.F.type_list_pop mt_popAt (pv 6) (pa_cons (pe_op op_add (pe_ix (ix_tupK K rfl) (pv 2) pe_int (fun _ _ => rfl)) pe_int) pa_nil)) pa_nil))))
      (pss_one (ps_ret pe_bl))))) pss_nil)
      (pss_cons (ps_if (pt_not (pt_chain op_le op_lt pe_int (pe_ix (ix_tupK K rfl) (pv 2) pe_int (fun _ _ => rfl)) (pe_callB (call_len_seqK K rfl) rfl T.z_len PySem.boot_len (pa_cons (pv 4) pa_nil)))) (pss_one (ps_ret pe_bl)) pss_nil)
      (pss_cons (ps_set (i := 7) sc_Ldoes.nd rfl (Or.inl rfl) (pe_ix (ix_listK K rfl) (pv 4) (pe_ix (ix_tupK K rfl) (pv 2) pe_int (fun _ _ => rfl)) (fun _ _ => rfl)))
      (pss_cons (ps_if (pt_cmpR op_eqS (pe_ix (ix_tupK K rfl) (pv 2) pe_int (fun _ _ => rfl)) (pe_S [116, 117, 114, 110] (by decide +kernel)) (nomark _)) (pss_cons (ps_asg (pe_op op_cat (pe_slice (sl_listK K rfl) (pv 7) (po_some pe_int) po_none) (pe_slice (sl_listK K rfl) (pv 7) po_none (po_some pe_int))) (pg_sub (pv 4) (pe_ix (ix_tupK K rfl) (pv 2) pe_int (fun _ _ => rfl)) set_list))
      (pss_one (ps_ret pe_bl))) pss_nil)
      (pss_cons (ps_if (pt_cmpR op_eqS (pe_ix (ix_tupK K rfl) (pv 2) pe_int (fun _ _ => rfl)) (pe_S [111, 117, 116] (by decide +kernel)) (nomark _)) (pss_cons (ps_if (PW.pt (pw_or (pt_not (pt_chain op_le op_le pe_int (pe_ix (ix_tupK K rfl) (pv 2) pe_int (fun _ _ => rfl)) (pe_op op_sub (pe_callB (call_len_seqK K rfl) rfl T.z_len PySem.boot_len (pa_cons (pv 7) pa_nil)) pe_int))) (pw_or1 (pt_cmpR op_neS (pe_ix (ix_listK K rfl) (pe_ix (ix_listK K rfl) (pv 7) (pe_ix (ix_tupK K rfl) (pv 2) pe_int (fun _ _ => rfl)) (fun _ _ => rfl)) pe_int (fun _ _ => rfl)) (pe_call G_Lother (hr.mono (by decide)) rfl T.F11.mg T.F11.fn.kp T.F11.bd .nil pass0 (pa_cons (pe_ix (ix_listK K rfl) (pe_ix (ix_listK K rfl) (pv 7) (pe_op op_add (pe_ix (ix_tupK K rfl) (pv 2) pe_int (fun _ _ => rfl)) pe_int) (fun _ _ => rfl)) pe_int (fun _ _ => rfl)) pa_nil)) (nomark _))))) (pss_one (ps_ret pe_bl)) pss_nil)
      (pss_cons (ps_for PassesOwn.never rfl (pi_range1 rfl T.z_range (pa_cons pe_int pa_nil)) (pg_name (i := 8) sc_Ldoes.nd rfl (Or.inl rfl)) (pss_cons (ps_set (i := 9) sc_Ldoes.nd rfl (Or.inl rfl) (pe_ix (ix_listK K rfl) (pe_bmK K rfl PySem.F.plainAttrs_list PySem.F.slot_list_pop PySem.F.type_list_pop mt_popAt (pv 7) (pa_cons (pe_ix (ix_tupK K rfl) (pv 2) pe_int (fun _ _ => rfl)) pa_nil)) pe_int (fun _ _ => rfl)))
      (pss_one (ps_for PassesOwn.never rfl (pi_listK K rfl (pv 5)) (pg_name (i := 6) sc_Ldoes.nd rfl (Or.inl rfl)) (pss_one (ps_if (pt_cmpR (op_inK K rfl) (pv 9) (pv 6) (by with_unfolding_all rfl)) (pss_one (ps_expr (pe_bmK K rfl PySem.F.plainAttrs_list PySem.F.slot_list_remove PySem.F.type_list_remove (mt_remD K rfl hr) (pv 6) (pa_cons (pv 9) pa_nil)))) pss_nil))))))
      (pss_one (ps_ret pe_bl)))) pss_nil)
      (pss_cons (ps_if (PW.pt (pw_or (pt_cmpR (op_ninK K rfl) (pe_ix (ix_tupK K rfl) (pv 2) pe_int (fun _ _ => rfl)) (pe_callTy (call_listS rfl) rfl T.z_list boot_list (pa_cons (pv 0) pa_nil)) (by with_unfolding_all rfl)) (pw_or1 (pt_not (pt_chain op_le op_le pe_int (pe_ix (ix_tupK K rfl) (pv 2) pe_int (fun _ _ => rfl)) (pe_callB (call_len_seqK K rfl) rfl T.z_len PySem.boot_len (pa_cons (pv 7) pa_nil))))))) (pss_one (ps_ret pe_bl)) pss_nil)
      (pss_cons (ps_set (i := 6) sc_Ldoes.nd rfl (Or.inl rfl) (pe_ix (ix_listK K rfl) (pv 5) (pe_ix (ix_listK K rfl) (pe_compB ["_law_k", "_law_name", "_law_deed_here"] [none, none, some 2] (pi_enumL K rfl rfl T.z_enumerate (pa_cons (pv 3) pa_nil)) ⟨⟨rfl, rfl, by first | exact .inl rfl | exact .inr rfl⟩, trivial⟩ (fun _ _ _ _ => (pg_tupK (n := 2) K rfl rfl (pgs_cons (pg_name (i := 0) (by decide +kernel : List.Nodup (["_law_k", "_law_name", "_law_deed_here"] : List Str)) rfl (Or.inl rfl)) (pgs_cons (pg_name (i := 1) (by decide +kernel : List.Nodup (["_law_k", "_law_name", "_law_deed_here"] : List Str)) rfl (Or.inl rfl)) pgs_nil)))) (fun _ _ _ _ => (pf_one (pt_cmpR (op_inK K rfl) (pe_ix (ix_tupK K rfl) (pv 2) pe_int (fun _ _ => rfl)) (pe_tup (pa_cons (pv 1) (pa_cons (pe_call G_Lother (hr.mono (by decide)) rfl T.F11.mg T.F11.fn.kp T.F11.bd .nil pass0 (pa_cons (pv 1) pa_nil)) pa_nil))) (by with_unfolding_all rfl)))) (fun _ _ _ _ => (pv 0))) pe_int (fun _ _ => rfl)) (fun _ _ => rfl)))
      (pss_cons (ps_if (pt_not (pt_chain op_le op_le pe_int (pe_ix (ix_tupK K rfl) (pv 2) pe_int (fun _ _ => rfl)) (pe_callB (call_len_seqK K rfl) rfl T.z_len PySem.boot_len (pa_cons (pv 6) pa_nil)))) (pss_one (ps_ret pe_bl)) pss_nil)
      (pss_cons (ps_for PassesOwn.never rfl (pi_enumL K rfl rfl T.z_enumerate (pa_cons (pe_lst (pa_cons (pe_ix (ix_tupK K rfl) (pv 2) pe_int (fun _ _ => rfl)) (pa_cons (pe_call G_Lother (hr.mono (by decide)) rfl T.F11.mg T.F11.fn.kp T.F11.bd .nil pass0 (pa_cons (pe_ix (ix_tupK K rfl) (pv 2) pe_int (fun _ _ => rfl)) pa_nil)) pa_nil))) pa_nil)) (pg_tupK (n := 2) K rfl rfl (pgs_cons (pg_name (i := 10) sc_Ldoes.nd rfl (Or.inl rfl)) (pgs_cons (pg_name (i := 11) sc_Ldoes.nd rfl (Or.inl rfl)) pgs_nil))) (pss_cons (ps_expr (pe_bmK K rfl PySem.F.plainAttrs_list PySem.F.slot_list_insert PySem.F.type_list_insert mt_insert (pv 7) (pa_cons (pe_op op_add (pe_ix (ix_tupK K rfl) (pv 2) pe_int (fun _ _ => rfl)) (pv 10)) (pa_cons (pe_lst (pa_cons (pv 11) (pa_cons (pe_dget (hu_of hr) (pv 1) (pe_S [109, 97, 110, 121] (by decide +kernel)) (fun _ _ => rfl)) pa_nil))) pa_nil))))
      (pss_cons (ps_expr (pe_bmK K rfl PySem.F.plainAttrs_list PySem.F.slot_list_insert PySem.F.type_list_insert mt_insert (pv 6) (pa_cons (pe_op op_add (pe_ix (ix_tupK K rfl) (pv 2) pe_int (fun _ _ => rfl)) (pv 10)) (pa_cons (pe_dget (hu_of hr) (pv 1) (pe_S [109, 97, 110, 121] (by decide +kernel)) (fun _ _ => rfl)) pa_nil))))
      (pss_one (ps_dput (hu_of hr) (pv 1) (pe_S [109, 97, 110, 121] (by decide +kernel)) (pe_op op_add (pe_dget (hu_of hr) (pv 1) (pe_S [109, 97, 110, 121] (by decide +kernel)) (fun _ _ => rfl)) pe_int) rfl)))))
      (pss_one (ps_ret pe_bl))))))))))))), ?_⟩
  obtain ⟨y, d, wl, ol, a, Ws, Os, L, m, e, rfl, hy, hy8, hw, hW, hg, hm, ha, hok, q⟩ := h
  have hs : (100000 : Nat) < sizeLine := by decide
  have hbl := bsOf_len hy
  have hwf := hg.few
  have hall := hg.all12
  have hWl : (oW Ws).length = Ws.length := oW_len Ws
  have hW4 : Ws.length ≤ 4 := by rw [lets_len, hWl] at hwf; exact hwf
  have hOl : Os.length = L.length := by have := hW.ln; unfold oO at this; rwa [List.length_map] at this
  have hLl := hg.ln
  refine ⟨_, rfl, y, rfl, by omega, fun nm l2 H1 n1 hnm hl2 hw2 s1 => ?_⟩
  rw [smalls_low hy.lt] at hl2
  have el := bsOf_eq hl2 hw2
  subst el
  have hw1 := hw.same s1
  have ha1 := ha.ts (TSame.of s1)
  have gw : DGet H1 d (V.str (S wWords)) (some (.ref wl)) := by rw [← wdK_words wl ol m]; exact DGet.k (k := kS wWords) hw1.dk
  have go : DGet H1 d (V.str (S wOrders)) (some (.ref ol)) := by rw [← wdK_orders wl ol m]; exact DGet.k (k := kS wOrders) hw1.dk
  have fr1 : Fr (wdA d wl ol Ws Os) H H1 := Fr.of s1
  refine ⟨_, rfl, d, _, rfl, gw, _, rfl, d, _, rfl, go, _, _, rfl, ?_⟩
  change tSeq _ _ _ [some (.str (S y)), some (.ref d), some (.ref a), some (.ref nm), some (.ref wl), some (.ref ol), none, none, none, none, none, none] H1
  cases e with
  | swap b n =>
    have h : H1 a = some (.tup [.str (S wSwap), .str (S [b]), .int n]) := ha1
    obtain ⟨hb, hn⟩ := hok
    have hj := List.idxOf_lt_length_of_mem hb
    have hjo : (bsOf y).idxOf b < Os.length := by omega
    have ho : Os[(bsOf y).idxOf b]? = some Os[(bsOf y).idxOf b] := List.getElem?_eq_getElem hjo
    generalize Os[(bsOf y).idxOf b] = o at ho
    have hov : (ocv Os)[(bsOf y).idxOf b]? = some (V.ref o.a) := by unfold ocv; rw [List.getElem?_map, ho]; rfl
    have hom := List.mem_of_getElem? ho
    have hoa := hw1.oc o hom
    have eo : (oO Os)[(bsOf y).idxOf b]? = some o.ns := by unfold oO; rw [List.getElem?_map, ho]; rfl
    have hlen : o.ns.length = (L.getD ((bsOf y).idxOf b) []).length := by
      have hLb : L[(bsOf y).idxOf b]? = some L[(bsOf y).idxOf b] := List.getElem?_eq_getElem (by omega)
      rw [getD_of hLb]
      exact (hW.al _ _ _ eo hLb).len
    refine ⟨_, rfl, a, _, 0, _, rfl, rfl, SqT.of h, rfl, _, _, rfl, rfl, _, rfl, iteY (by decide) ?_⟩
    refine ⟨_, rfl, a, _, 1, _, rfl, rfl, SqT.of h, rfl, _, rfl, nm, _, rfl, .inl (SqL.of hnm), rfl, flat_sgs _, _, rfl, iteN (by rw [if_pos rfl, inV_sgs, decide_eq_true hb]; rfl) ?_⟩
    have hol := hw1.od
    have en : (n : Int) + 1 = ((n + 1 : Nat) : Int) := by omega
    have hl48 : o.ns.length ≤ 48 := by
      rw [hlen]
      have hLb : L[(bsOf y).idxOf b]? = some L[(bsOf y).idxOf b] := List.getElem?_eq_getElem (by omega)
      rw [getD_of hLb]
      exact hg.lens hLb
    have hn1 : n + 1 < o.ns.length := by omega
    refine ⟨_, rfl, a, _, 2, _, rfl, rfl, SqT.of h, rfl, _, _, rfl, rfl, _, rfl, iteY (decide_eq_true (by omega)) ?_⟩
    refine ⟨_, rfl, _, rfl, .inl ⟨rfl, _, SqL.of hnm⟩, _, rfl, a, _, 1, _, rfl, rfl, SqT.of h, rfl, nm, bsOf y, b, rfl, rfl, hnm, hb, ?_⟩
    refine ⟨ol, _, _, _, rfl, rfl, SqL.of hol, atI_nat hov, o.a, _, rfl, .inl (SqL.of hoa), _, _, rfl, rfl, _, _, rfl, rfl, _, rfl, iteN (by rw [ivs_ln, decide_eq_true (by omega)]; rfl) ?_⟩
    refine ⟨_, rfl, _, rfl, .inl ⟨rfl, _, SqL.of hnm⟩, _, rfl, a, _, 1, _, rfl, rfl, SqT.of h, rfl, nm, bsOf y, b, rfl, rfl, hnm, hb, ?_⟩
    refine ⟨ol, _, _, _, rfl, rfl, SqL.of hol, atI_nat hov, ?_⟩
    refine ⟨_, rfl, .inl ⟨rfl, _, SqL.of hoa⟩, _, rfl, a, _, 2, _, rfl, rfl, SqT.of h, rfl, ?_⟩
    refine ⟨_, rfl, .inl ⟨rfl, _, SqL.of hoa⟩, _, rfl, a, _, 2, _, rfl, rfl, SqT.of h, rfl, _, _, rfl, rfl, ?_⟩
    refine ⟨o.a, _, _, n + 1, V.int (o.ns[n + 1] : Nat), rfl, rfl, hoa, by omega, by omega, by rw [en, ivs_ln, seqIndex_of (by omega) (by omega), Int.toNat_natCast], by unfold ivs; rw [List.getElem?_map, List.getElem?_eq_getElem hn1]; rfl, ?_⟩
    have hle : ((ivs o.ns).eraseIdx (n + 1)).length = o.ns.length - 1 := by rw [List.length_eraseIdx, ivs_ln, if_pos hn1]
    refine ⟨o.a, _, n, _, rfl, rfl, upd_same, by rw [hle]; omega, by rw [hle]; omega, ?_⟩
    rw [upd_upd, ivs_swap n o.ns hn1]
    have eL : (oO Os).getD ((bsOf y).idxOf b) [] = o.ns := getD_of eo
    have ma : o.a ∈ wdA d wl ol Ws Os := List.mem_cons_of_mem _ (List.mem_cons_of_mem _ (List.mem_cons_of_mem _ (List.mem_append_right _ (List.mem_map.mpr ⟨o, hom, rfl⟩))))
    refine q Ws (Os.set ((bsOf y).idxOf b) ⟨o.a, swapN n o.ns⟩) _ (hw1.setO ho) rfl ?_ (fun x hx => .inr ?_) (fr1.upd ma)
    · show (Os.set _ _).map Oc.ns = (oO Os).set _ (swapN n ((oO Os).getD _ []))
      rw [eL, List.map_set]; rfl
    · have em : (Os.set ((bsOf y).idxOf b) ⟨o.a, swapN n o.ns⟩).map Oc.a = Os.map Oc.a := by rw [List.map_set]; exact set_same (by rw [List.getElem?_map, ho]; rfl)
      unfold wdA at hx ⊢
      rw [em] at hx
      exact hx
  | out c k =>
    have h : H1 a = some (.tup [.str (S wOut), .int c, .int k]) := ha1
    obtain ⟨hc0, x, hx0, hx1⟩ := hok
    have hc : c < Ws.length := by rwa [lets_len, hWl] at hc0
    have hcg : Ws[c]? = some Ws[c] := List.getElem?_eq_getElem hc
    generalize Ws[c] = w at hcg
    have hcm := List.mem_of_getElem? hcg
    have hcv : (wcv Ws)[c]? = some (V.ref w.a) := by unfold wcv; rw [List.getElem?_map, hcg]; rfl
    have hcw : (oW Ws)[c]? = some w.w := by unfold oW; rw [List.getElem?_map, hcg]; rfl
    have hwa := hw1.wc w hcm
    have hwl := hw1.wd
    have hwz : w.ls.length ≤ 12 := by
      have := (hall _ (List.mem_map.mpr ⟨w.w, List.mem_of_getElem? hcw, rfl⟩)).2
      rwa [List.length_map, Wc.w_ls] at this
    rw [lets_getD (by rw [hWl]; exact hc), getD_of hcw] at hx0 hx1
    have hk1 : k + 1 < w.ls.length := by have := (List.getElem?_eq_some_iff.mp hx1).1; rwa [List.length_map, Wc.w_ls] at this
    have hl0 : w.ls[k]? = some (w.ls[k]'(by omega)) := List.getElem?_eq_getElem (by omega)
    have hl1 : w.ls[k + 1]? = some w.ls[k + 1] := List.getElem?_eq_getElem hk1
    generalize (w.ls[k]'(by omega)) = l0 at hl0
    generalize w.ls[k + 1] = l1 at hl1
    have e0 : l0.x = x := by unfold Wc.w at hx0; rw [List.map_map, List.getElem?_map, hl0] at hx0; exact Option.some.inj hx0
    have e1 : l1.x = ctr x := by unfold Wc.w at hx1; rw [List.map_map, List.getElem?_map, hl1] at hx1; exact Option.some.inj hx1
    have hxl : Lt x := hy.lt x ((hall _ (List.mem_map.mpr ⟨w.w, List.mem_of_getElem? hcw, rfl⟩)).1 x (List.mem_of_getElem? hx0))
    have hcx : Lt (ctr x) := hy.lt _ ((hall _ (List.mem_map.mpr ⟨w.w, List.mem_of_getElem? hcw, rfl⟩)).1 _ (List.mem_of_getElem? hx1))
    have v0 : (lcv w.ls)[k]? = some (V.ref l0.a) := by unfold lcv; rw [List.getElem?_map, hl0]; rfl
    have v1 : (lcv w.ls)[k + 1]? = some (V.ref l1.a) := by unfold lcv; rw [List.getElem?_map, hl1]; rfl
    have a0 := hw1.lc w hcm l0 (List.mem_of_getElem? hl0)
    have a1 := hw1.lc w hcm l1 (List.mem_of_getElem? hl1)
    have ek : (k : Int) + 1 = ((k + 1 : Nat) : Int) := by omega
    refine ⟨_, rfl, a, _, 0, _, rfl, rfl, SqT.of h, rfl, _, _, rfl, rfl, _, rfl, iteN (by decide) ?_⟩
    refine ⟨_, rfl, a, _, 1, _, rfl, rfl, SqT.of h, rfl, _, _, rfl, rfl, _, rfl, iteY (decide_eq_true (by omega)) ⟨_, rfl, wl, _, rfl, .inl (SqL.of hwl), _, _, rfl, rfl, _, rfl, iteN (by rw [wcv_len, decide_eq_true (by omega)]; rfl) ?_⟩⟩
    refine ⟨_, rfl, _, rfl, a, _, 1, _, rfl, rfl, SqT.of h, rfl, wl, _, _, _, rfl, rfl, SqL.of hwl, atI_nat hcv, ?_⟩
    change tSeq _ _ _ [some (.str (S y)), some (.ref d), some (.ref a), some (.ref nm), some (.ref wl), some (.ref ol), none, some (.ref w.a), none, none, none, none] H1
    refine ⟨_, rfl, a, _, 0, _, rfl, rfl, SqT.of h, rfl, _, _, rfl, rfl, _, rfl, iteN (by decide) ?_⟩
    refine ⟨_, rfl, a, _, 0, _, rfl, rfl, SqT.of h, rfl, _, _, rfl, rfl, _, rfl, iteY (by decide) ?_⟩
    refine ⟨_, rfl, a, _, 2, _, rfl, rfl, SqT.of h, rfl, _, _, rfl, rfl, _, rfl, iteY (decide_eq_true (by omega)) ⟨_, rfl, w.a, _, rfl, .inl (SqL.of hwa), _, _, rfl, rfl, _, _, rfl, rfl, _, rfl, iteN (by rw [lcv_len, decide_eq_true (by omega)]; rfl) ?_⟩⟩
    refine ⟨_, rfl, _, rfl, a, _, 2, _, rfl, rfl, SqT.of h, rfl, w.a, _, _, _, rfl, rfl, SqL.of hwa, atI_nat v0, l0.a, _, 0, _, rfl, rfl, SqL.of a0, rfl, ?_⟩
    refine ⟨_, rfl, _, rfl, a, _, 2, _, rfl, rfl, SqT.of h, rfl, _, _, rfl, rfl, w.a, _, _, _, rfl, rfl, SqL.of hwa, by rw [ek]; exact atI_nat v1, l1.a, _, 0, _, rfl, rfl, SqL.of a1, rfl, ?_⟩
    refine ⟨l1.x, rfl, by rw [e1]; exact hcx, [l0.x], [ctr l1.x], rfl, rfl, _, rfl, iteN (by rw [e0, e1, ctr_ctr hxl]; simp) ?_⟩
    refine ⟨_, rfl, by decide, by decide, ?_⟩
    have mw : w.a ∈ wdA d wl ol Ws Os := List.mem_cons_of_mem _ (List.mem_cons_of_mem _ (List.mem_cons_of_mem _ (List.mem_append_left _ (List.mem_map.mpr ⟨w, hcm, rfl⟩))))
    have mo : ∀ o ∈ Os, o.a ∈ wdA d wl ol Ws Os := fun o ho => List.mem_cons_of_mem _ (List.mem_cons_of_mem _ (List.mem_cons_of_mem _ (List.mem_append_right _ (List.mem_map.mpr ⟨o, ho, rfl⟩))))
    have emW : ∀ ls, (Ws.set c ⟨w.a, ls⟩).map Wc.a = Ws.map Wc.a := fun ls => by rw [List.map_set]; exact set_same (by rw [List.getElem?_map, hcg]; rfl)
    have eqB : ∀ ls P, wdB wl ol (Ws.set c ⟨w.a, ls⟩) (oF P Os) = wdB wl ol Ws Os := fun ls P => by unfold wdB; rw [emW, oF_a]
    refine for_range (fun i σ H' => ∃ (ov tv nv : Option V), σ = [some (.str (S y)), some (.ref d), some (.ref a), some (.ref nm), some (.ref wl), some (.ref ol), ov, some (.ref w.a), tv, nv, none, none] ∧ WdAt H' d wl ol (Ws.set c ⟨w.a, w.ls.take k ++ w.ls.drop (k + i)⟩) (oF (keepN w.ls k i) Os) m ∧ Fr (wdA d wl ol Ws Os) H H' ∧ TSame H1 H')
      ⟨none, none, none, rfl, by rw [keepN_zero, oF_true, Nat.add_zero, List.take_append_drop, set_same hcg]; exact hw1, fr1, TSame.of (Same.refl _)⟩ ?_ ?_
    · rintro i σ H2 hi ⟨ov, tv, nv, rfl, hw2, fr2, ts2⟩
      have hi2 : i < 2 := by omega
      have hli : w.ls[k + i]? = some (w.ls[k + i]'(by omega)) := List.getElem?_eq_getElem (by omega)
      generalize (w.ls[k + i]'(by omega)) = l at hli
      have hlm := List.mem_of_getElem? hli
      obtain ⟨pp1, pp2⟩ := pop_out hli
      have hsc : (Ws.set c ⟨w.a, w.ls.take k ++ w.ls.drop (k + i)⟩)[c]? = some ⟨w.a, w.ls.take k ++ w.ls.drop (k + i)⟩ := List.getElem?_set_self hc
      have hwa2 := hw2.wc _ (List.mem_of_getElem? hsc)
      have h2 := ts2 _ _ h
      have hla2 := hw2.lc _ (List.mem_of_getElem? hsc) l (List.mem_of_getElem? pp1)
      have hlN : l.a ∉ wdB wl ol (Ws.set c ⟨w.a, w.ls.take k ++ w.ls.drop (k + i)⟩) (oF (keepN w.ls k i) Os) := hw2.nl _ (List.mem_of_getElem? hsc) l (List.mem_of_getElem? pp1)
      have hvl : (lcv (w.ls.take k ++ w.ls.drop (k + i)))[k]? = some (V.ref l.a) := by unfold lcv; rw [List.getElem?_map, pp1]; rfl
      have hlen : (lcv (w.ls.take k ++ w.ls.drop (k + i))).length = w.ls.length - i := by rw [lcv_len, List.length_append, List.length_take, List.length_drop]; omega
      refine ⟨_, rfl, .inl ⟨rfl, _, SqL.of hwa2⟩, _, rfl, a, _, 2, _, rfl, rfl, SqT.of h2, rfl, ?_⟩
      refine ⟨w.a, _, _, k, V.ref l.a, rfl, rfl, hwa2, by omega, by omega, by rw [hlen, seqIndex_of (by omega) (by omega), Int.toNat_natCast], hvl, ?_⟩
      have ee : (lcv (w.ls.take k ++ w.ls.drop (k + i))).eraseIdx k = lcv (w.ls.take k ++ w.ls.drop (k + (i + 1))) := by
        unfold lcv
        rw [erase_map, pp2]
      rw [ee]
      have sub : ∀ x ∈ w.ls.take k ++ w.ls.drop (k + (i + 1)), x ∈ w.ls.take k ++ w.ls.drop (k + i) := fun x hx => by
        rw [← pp2] at hx
        exact List.mem_of_mem_eraseIdx hx
      have hw3 := hw2.setW (ls := w.ls.take k ++ w.ls.drop (k + (i + 1))) hsc fun x hx => ⟨hw2.lc _ (List.mem_of_getElem? hsc) x (sub x hx), hw2.nl _ (List.mem_of_getElem? hsc) x (sub x hx)⟩
      rw [set_set] at hw3
      have fr3 := fr2.upd (o := HO.lst (lcv (w.ls.take k ++ w.ls.drop (k + (i + 1))))) mw
      have ts3 := ts2.trans (TSame.updL (o := HO.lst (lcv (w.ls.take k ++ w.ls.drop (k + (i + 1))))) hwa2)
      have hla3 : upd H2 w.a (HO.lst (lcv (w.ls.take k ++ w.ls.drop (k + (i + 1))))) l.a = some (.lst [.str (S [l.x]), .int l.n]) := by
        rw [upd_ne fun z => hlN (by rw [eqB, z]; exact List.mem_cons_of_mem _ (List.mem_cons_of_mem _ (List.mem_append_left _ (List.mem_map.mpr ⟨w, hcm, rfl⟩))))]
        exact hla2
      generalize upd H2 w.a (HO.lst (lcv (w.ls.take k ++ w.ls.drop (k + (i + 1))))) = H3 at hw3 fr3 ts3 hla3 ⊢
      clear hw2 fr2 ts2 hwa2 h2 hla2
      refine ⟨l.a, _, 1, _, rfl, rfl, SqL.of hla3, rfl, ?_⟩
      have hol3 := hw3.od
      rw [oF_v] at hol3
      refine ⟨_, rfl, ol, rfl, ⟨_, SqL.of hol3⟩, ?_⟩
      refine for_list (K := K) (a := ol) (xs := ocv Os) (fun j σ H' => ∃ ov : Option V, σ = [some (.str (S y)), some (.ref d), some (.ref a), some (.ref nm), some (.ref wl), some (.ref ol), ov, some (.ref w.a), some (.int (0 + i)), some (.int l.n), none, none] ∧ WdAt H' d wl ol (Ws.set c ⟨w.a, w.ls.take k ++ w.ls.drop (k + (i + 1))⟩) ((oF (keepN w.ls k (i + 1)) Os).take j ++ (oF (keepN w.ls k i) Os).drop j) m ∧ Fr (wdA d wl ol Ws Os) H H' ∧ TSame H1 H')
        ⟨ov, rfl, hw3, fr3, ts3⟩ (fun j σ H' _ ⟨_, _, h, _, _⟩ => SqL.of (by have := h.od; rwa [mix_v] at this)) ?_ ?_
      · rintro j x σ H4 hx ⟨ov4, rfl, hw4, fr4, ts4⟩
        obtain ⟨o, ho, rfl⟩ := ocv_at hx
        have hjO : j < Os.length := (List.getElem?_eq_some_iff.mp ho).1
        have hom := List.mem_of_getElem? ho
        have hmx := mix_at (a := oF (keepN w.ls k (i + 1)) Os) (j := j) (by rw [oF_len]; omega) (oF_at (P := keepN w.ls k i) ho)
        have hoa := hw4.oc _ (List.mem_of_getElem? hmx)
        have hond : (o.ns.filter (keepN w.ls k i)).Nodup := (hW.on o.ns (by unfold oO; exact List.mem_map.mpr ⟨o, hom, rfl⟩)).filter _
        have ef : o.ns.filter (keepN w.ls k (i + 1)) = (o.ns.filter (keepN w.ls k i)).filter fun n => decide (n ≠ l.n) := by
          rw [List.filter_filter]
          congr 1
          funext n
          rw [keepN_succ hli, Bool.and_comm]
        have hset := take_drop_set (a := oF (keepN w.ls k (i + 1)) Os) (b := oF (keepN w.ls k i) Os) (by rw [oF_len]; omega) (oF_at (P := keepN w.ls k (i + 1)) ho)
        refine ⟨_, rfl, _, rfl, o.a, _, rfl, .inl (SqL.of hoa), rfl, flat_ivs _, _, rfl, ?_⟩
        rw [inV_ivs]
        refine ite2 (fun z => ?_) (fun z => ?_)
        · have zm : l.n ∈ o.ns.filter (keepN w.ls k i) := of_decide_eq_true z
          obtain ⟨r, r1, r2, r3⟩ := rem_at zm hond
          refine ⟨_, rfl, .inl ⟨rfl, _, SqL.of hoa⟩, _, rfl, ?_⟩
          refine ⟨o.a, _, _, ids (o.ns.filter (keepN w.ls k i)), .int l.n, r, rfl, rfl, hoa, rdds_ints _, .int _, ⟨lay_ints _, rfl⟩, by show 0 ≤ 60; decide, ⟨.int l.n, by unfold ids; rw [List.getElem?_map, r1]; rfl, ?_⟩, fun m' e' hm' he' => ?_, ?_⟩
          · exact eqv_int_self l.n
          · obtain ⟨n', g1, g2⟩ := ids_at he'
            rw [g2]
            exact eqv_int_ne (r2 m' n' hm' g1)
          · have er : (ivs (o.ns.filter (keepN w.ls k i))).eraseIdx r = ivs (o.ns.filter (keepN w.ls k (i + 1))) := by
              rw [ef, ← r3]
              unfold ivs
              rw [erase_map]
            rw [er]
            refine ⟨_, rfl, ?_, fr4.upd (mo o hom), ts4.trans (TSame.updL hoa)⟩
            rw [← hset]
            exact hw4.setO (o := ⟨o.a, o.ns.filter (keepN w.ls k i)⟩) hmx
        · have zm : l.n ∉ o.ns.filter (keepN w.ls k i) := fun g => z (decide_eq_true g)
          rw [filt_none zm] at ef
          refine ⟨_, rfl, ?_, fr4, ts4⟩
          rw [← hset, ef, set_same hmx]
          exact hw4
      · rintro σ H4 ⟨ov4, rfl, hw4, fr4, ts4⟩
        refine ⟨_, _, _, rfl, ?_, fr4, ts4⟩
        have t1 : (oF (keepN w.ls k (i + 1)) Os).take Os.length = oF (keepN w.ls k (i + 1)) Os := List.take_of_length_le (by rw [oF_len]; exact Nat.le_refl _)
        have t2 : (oF (keepN w.ls k i) Os).drop Os.length = [] := List.drop_of_length_le (by rw [oF_len]; exact Nat.le_refl _)
        rw [ocv_len, t1, t2, List.append_nil] at hw4
        exact hw4
    · rintro σ H2 ⟨ov, tv, nv, rfl, hw2, fr2, ts2⟩
      refine q _ _ H2 hw2 ?_ ?_ (fun x hx => .inr ?_) fr2
      · show (Ws.set c _).map Wc.w = (oW Ws).set c (((oW Ws).getD c []).take k ++ ((oW Ws).getD c []).drop (k + 2))
        rw [getD_of hcw, List.map_set]
        show (Ws.map Wc.w).set c ((w.ls.take k ++ w.ls.drop (k + 2)).map Lc.pr) = _
        rw [List.map_append, List.map_drop, List.map_take]
        rfl
      · show (oF (keepN w.ls k 2) Os).map Oc.ns = (oO Os).map _
        unfold oF oO
        rw [List.map_map, List.map_map, getD_of hcw]
        refine List.map_congr_left fun o _ => ?_
        show o.ns.filter (keepN w.ls k 2) = o.ns.filter _
        congr 1
        funext n
        have g0 : w.w.getD k (0, 0) = (l0.x, l0.n) := getD_of (by unfold Wc.w; rw [List.getElem?_map, hl0]; rfl)
        have g1 : w.w.getD (k + 1) (0, 0) = (l1.x, l1.n) := getD_of (by unfold Wc.w; rw [List.getElem?_map, hl1]; rfl)
        rw [keepN_succ (l := l1) hl1, keepN_succ (l := l0) (by simpa using hl0), keepN_zero, g0, g1, Bool.true_and]
      · unfold wdA at hx ⊢
        rw [emW, oF_a] at hx
        exact hx
  | turn c =>
    have h : H1 a = some (.tup [.str (S wTurn), .int c]) := ha1
    have hc : c < Ws.length := by have : c < (lets (oW Ws)).length := hok; rwa [lets_len, hWl] at this
    have hcg : Ws[c]? = some Ws[c] := List.getElem?_eq_getElem hc
    generalize Ws[c] = w at hcg
    have hcm := List.mem_of_getElem? hcg
    have hcv : (wcv Ws)[c]? = some (V.ref w.a) := by unfold wcv; rw [List.getElem?_map, hcg]; rfl
    have hcw : (oW Ws)[c]? = some w.w := by unfold oW; rw [List.getElem?_map, hcg]; rfl
    have hwa := hw1.wc w hcm
    have hwl := hw1.wd
    refine ⟨_, rfl, a, _, 0, _, rfl, rfl, SqT.of h, rfl, _, _, rfl, rfl, _, rfl, iteN (by decide) ?_⟩
    refine ⟨_, rfl, a, _, 1, _, rfl, rfl, SqT.of h, rfl, _, _, rfl, rfl, _, rfl, iteY (decide_eq_true (by omega)) ⟨_, rfl, wl, _, rfl, .inl (SqL.of hwl), _, _, rfl, rfl, _, rfl, iteN (by rw [wcv_len, decide_eq_true (by omega)]; rfl) ?_⟩⟩
    refine ⟨_, rfl, _, rfl, a, _, 1, _, rfl, rfl, SqT.of h, rfl, wl, _, _, _, rfl, rfl, SqL.of hwl, atI_nat hcv, ?_⟩
    change tSeq _ _ _ [some (.str (S y)), some (.ref d), some (.ref a), some (.ref nm), some (.ref wl), some (.ref ol), none, some (.ref w.a), none, none, none, none] H1
    refine ⟨_, rfl, a, _, 0, _, rfl, rfl, SqT.of h, rfl, _, _, rfl, rfl, _, rfl, iteY (by decide) ?_⟩
    refine ⟨_, rfl, _, rfl, w.a, _, rfl, SqL.of hwa, fun p1 np1 => ?_⟩
    rw [cutV_one, lcv_drop]
    have t1 := Same.upd (o := HO.lst (lcv (w.ls.drop 1))) np1
    have hp1 : upd H1 p1 (HO.lst (lcv (w.ls.drop 1))) p1 = some (HO.lst (lcv (w.ls.drop 1))) := upd_same
    generalize upd H1 p1 (HO.lst (lcv (w.ls.drop 1))) = H2 at t1 hp1 ⊢
    refine ⟨_, rfl, _, rfl, w.a, _, rfl, SqL.of (t1 _ _ hwa), fun p2 np2 => ?_⟩
    rw [cutV_one', lcv_take]
    have t2 := Same.upd (o := HO.lst (lcv (w.ls.take 1))) np2
    have hp2 : upd H2 p2 (HO.lst (lcv (w.ls.take 1))) p2 = some (HO.lst (lcv (w.ls.take 1))) := upd_same
    have hp1' := t2 _ _ hp1
    have t12 := t1.trans t2
    generalize upd H2 p2 (HO.lst (lcv (w.ls.take 1))) = H3 at t12 hp1' hp2 ⊢
    clear t1 t2 hp1
    have hwz : w.ls.length ≤ 12 := by
      have := (hall _ (List.mem_map.mpr ⟨w.w, List.mem_of_getElem? hcw, rfl⟩)).2
      rwa [List.length_map, Wc.w_ls] at this
    refine ⟨p1, p2, _, _, rfl, rfl, hp1', hp2, by rw [lcv_len, lcv_len, List.length_drop, List.length_take]; omega, fun p3 np3 => ?_⟩
    rw [lcv_app]
    have hw3 := hw1.same t12
    have h3 := hw3.newW (ls := w.ls.drop 1 ++ w.ls.take 1) hcg np3 fun l hl => by
      have : l ∈ w.ls := (List.mem_append.mp hl).elim List.mem_of_mem_drop List.mem_of_mem_take
      exact ⟨hw3.lc w hcm l this, hw3.nl w hcm l this⟩
    have t3 := t12.trans (Same.upd (o := HO.lst (lcv (w.ls.drop 1 ++ w.ls.take 1))) np3)
    refine ⟨_, rfl, _, rfl, a, _, 1, _, rfl, rfl, SqT.of (t3 _ _ h), rfl, wl, _, _, c, rfl, rfl, t3 _ _ hwl, by rw [wcv_len]; exact ixN_nat hc, ?_⟩
    rw [show (wcv Ws).set c (V.ref p3) = wcv (Ws.set c ⟨p3, w.ls.drop 1 ++ w.ls.take 1⟩) from by unfold wcv; rw [List.map_set]]
    refine q _ Os _ h3 ?_ rfl (fun x hx => ?_) ((fr1.after t3).upd (List.mem_cons_of_mem _ List.mem_cons_self))
    · show (Ws.set c _).map Wc.w = (oW Ws).set c (((oW Ws).getD c []).drop 1 ++ ((oW Ws).getD c []).take 1)
      rw [getD_of hcw, List.map_set]
      show (Ws.map Wc.w).set c ((w.ls.drop 1 ++ w.ls.take 1).map Lc.pr) = _
      rw [List.map_append, List.map_drop, List.map_take]
      rfl
    · unfold wdA at hx ⊢
      rcases List.mem_cons.mp hx with z | z
      · exact .inr (by rw [z]; exact List.mem_cons_self)
      rcases List.mem_cons.mp z with z | z
      · exact .inr (by rw [z]; exact List.mem_cons_of_mem _ List.mem_cons_self)
      rcases List.mem_cons.mp z with z | z
      · exact .inr (by rw [z]; exact List.mem_cons_of_mem _ (List.mem_cons_of_mem _ List.mem_cons_self))
      rcases List.mem_append.mp z with z | z
      · rw [List.map_set] at z
        rcases List.mem_or_eq_of_mem_set z with z | z
        · exact .inr (List.mem_cons_of_mem _ (List.mem_cons_of_mem _ (List.mem_cons_of_mem _ (List.mem_append_left _ z))))
        · exact .inl (by rw [z]; exact Same.free (s1.trans t12) np3)
      · exact .inr (List.mem_cons_of_mem _ (List.mem_cons_of_mem _ (List.mem_cons_of_mem _ (List.mem_append_right _ z))))
  | ins c k x n =>
    have h : H1 a = some (.tup [.str (S wIn), .int c, .int k, .str (S [x]), .int n]) := ha1
    obtain ⟨hc0, hk0, hk10, hxy, hn0⟩ := hok
    have hc : c < Ws.length := by rwa [lets_len, hWl] at hc0
    have hcg : Ws[c]? = some Ws[c] := List.getElem?_eq_getElem hc
    generalize Ws[c] = w at hcg
    have hcm := List.mem_of_getElem? hcg
    have hcv : (wcv Ws)[c]? = some (V.ref w.a) := by unfold wcv; rw [List.getElem?_map, hcg]; rfl
    have hcw : (oW Ws)[c]? = some w.w := by unfold oW; rw [List.getElem?_map, hcg]; rfl
    have hwa := hw1.wc w hcm
    have hwl := hw1.wd
    rw [lets_getD (by rw [hWl]; exact hc), getD_of hcw, List.length_map, Wc.w_ls] at hk0 hk10
    have hxl : Lt x := hy.lt x hxy
    have hlo := lo_in hy hxy
    have hid : (bsOf y).idxOf (PyProof.Rows.lo1 x) < (bsOf y).length := List.idxOf_lt_length_of_mem hlo
    have hnd := bs_nd hy
    have hjo : (bsOf y).idxOf (PyProof.Rows.lo1 x) < Os.length := by omega
    have ho : Os[(bsOf y).idxOf (PyProof.Rows.lo1 x)]? = some Os[(bsOf y).idxOf (PyProof.Rows.lo1 x)] := List.getElem?_eq_getElem hjo
    generalize Os[(bsOf y).idxOf (PyProof.Rows.lo1 x)] = o at ho
    have hov : (ocv Os)[(bsOf y).idxOf (PyProof.Rows.lo1 x)]? = some (V.ref o.a) := by unfold ocv; rw [List.getElem?_map, ho]; rfl
    have hom := List.mem_of_getElem? ho
    have eo : (oO Os)[(bsOf y).idxOf (PyProof.Rows.lo1 x)]? = some o.ns := by unfold oO; rw [List.getElem?_map, ho]; rfl
    have hLb : L[(bsOf y).idxOf (PyProof.Rows.lo1 x)]? = some L[(bsOf y).idxOf (PyProof.Rows.lo1 x)] := List.getElem?_eq_getElem (by omega)
    have hlen : o.ns.length = (L.getD ((bsOf y).idxOf (PyProof.Rows.lo1 x)) []).length := by
      rw [getD_of hLb]
      exact (hW.al _ _ _ eo hLb).len
    have hl48 : o.ns.length ≤ 48 := by rw [hlen, getD_of hLb]; exact hg.lens hLb
    have hn : n ≤ o.ns.length := by rw [hlen]; exact hn0
    refine ⟨_, rfl, a, _, 0, _, rfl, rfl, SqT.of h, rfl, _, _, rfl, rfl, _, rfl, iteN (by decide) ?_⟩
    refine ⟨_, rfl, a, _, 1, _, rfl, rfl, SqT.of h, rfl, _, _, rfl, rfl, _, rfl, iteY (decide_eq_true (by omega)) ⟨_, rfl, wl, _, rfl, .inl (SqL.of hwl), _, _, rfl, rfl, _, rfl, iteN (by rw [wcv_len, decide_eq_true (by omega)]; rfl) ?_⟩⟩
    refine ⟨_, rfl, _, rfl, a, _, 1, _, rfl, rfl, SqT.of h, rfl, wl, _, _, _, rfl, rfl, SqL.of hwl, atI_nat hcv, ?_⟩
    change tSeq _ _ _ [some (.str (S y)), some (.ref d), some (.ref a), some (.ref nm), some (.ref wl), some (.ref ol), none, some (.ref w.a), none, none, none, none] H1
    refine ⟨_, rfl, a, _, 0, _, rfl, rfl, SqT.of h, rfl, _, _, rfl, rfl, _, rfl, iteN (by decide) ?_⟩
    refine ⟨_, rfl, a, _, 0, _, rfl, rfl, SqT.of h, rfl, _, _, rfl, rfl, _, rfl, iteN (by decide) ?_⟩
    refine ⟨_, rfl, a, _, 3, _, rfl, rfl, SqT.of h, rfl, _, rfl, y, rfl, by omega, fun p1 np1 => ?_⟩
    have t1 := Same.upd (o := HO.lst (sgs y)) np1
    refine ⟨p1, _, rfl, .inl (SqL.of upd_same), rfl, flat_sgs _, _, rfl, iteN (by rw [if_pos rfl, inV_sgs, decide_eq_true hxy]; rfl) ?_⟩
    have h2 := t1 _ _ h
    have hw2 := hw1.same t1
    have hnm2 := t1 _ _ hnm
    have fr2 := fr1.after t1
    have s2 := s1.trans t1
    generalize upd H1 p1 (HO.lst (sgs y)) = H2 at h2 hw2 hnm2 fr2 s2 ⊢
    clear t1 hw1 hnm h fr1 hwa hwl gw go ha1 s1
    have hwa := hw2.wc w hcm
    refine ⟨_, rfl, a, _, 2, _, rfl, rfl, SqT.of h2, rfl, _, _, rfl, rfl, _, rfl, iteY (decide_eq_true (by omega)) ⟨_, rfl, w.a, _, rfl, .inl (SqL.of hwa), _, _, rfl, rfl, _, rfl, iteN (by rw [lcv_len, decide_eq_true (by omega)]; rfl) ?_⟩⟩
    refine ⟨_, rfl, _, rfl, nm, rfl, ⟨_, SqL.of hnm2⟩, ?_⟩
    refine comp_enumL (K := K) (a := nm) (xs := sgs (bsOf y)) (fun i acc H' => Same H2 H' ∧ acc = if (bsOf y).idxOf (PyProof.Rows.lo1 x) < i then [V.int ((bsOf y).idxOf (PyProof.Rows.lo1 x) : Nat)] else []) (by rw [sgs_len]; omega) (fun i acc H' h => SqL.of (h.1 _ _ hnm2)) ⟨Same.refl _, by simp⟩ ?_ ?_
    · rintro i v acc H9 T Nx hv hal ⟨s9, rfl⟩ nT nx
      obtain ⟨nb, hnb', rfl⟩ := sgs_get hv
      have hnbm := List.mem_of_getElem? hnb'
      have hnbs := bs_small hy hnbm
      have hidn := idxOf_nd hnd hnb'
      refine ⟨T, _, rfl, SqT.of upd_same, rfl, _, _, rfl, _, _, rfl, rfl, ?_⟩
      have sT := s9.trans (Same.upd (o := HO.tup [.int i, .str (S [nb])]) nT)
      refine ⟨⟨rfl, trivial⟩, ?_⟩
      refine ⟨_, rfl, a, _, 3, _, rfl, rfl, SqT.of (sT _ _ h2), rfl, _, rfl, _, rfl, nb, rfl, .inl hnbs, by show 2 ≤ sizeLine; decide, fun t nt => ?_⟩
      refine ⟨t, _, rfl, .inr (SqT.of upd_same), rfl, rfl, _, rfl, ?_⟩
      have s9t := sT.trans (Same.upd (o := HO.tup [.str (S [nb]), .str (S [ctr nb])]) nt)
      generalize upd (upd H9 T (HO.tup [.int i, .str (S [nb])])) t (HO.tup [.str (S [nb]), .str (S [ctr nb])]) = H10 at s9t ⊢
      show if inV (.str (S [x])) [.str (S [nb]), .str (S [ctr nb])] = true then _ else _
      rw [inV_two]
      have hon : (decide (x = nb) || decide (x = ctr nb)) = decide (PyProof.Rows.lo1 x = nb) := (low_on hnbs hxl).symm
      rw [hon]
      refine ite2 (fun v1 => ?_) (fun v1 => ?_)
      · have e1 : PyProof.Rows.lo1 x = nb := of_decide_eq_true v1
        have hid2 : (bsOf y).idxOf (PyProof.Rows.lo1 x) = i := by rw [e1]; exact hidn
        refine ⟨_, rfl, nx _ _ (by simpa using hal) ⟨s9t, ?_⟩⟩
        rw [hid2, if_neg (Nat.lt_irrefl _), if_pos (Nat.lt_succ_self _)]
        rfl
      · have e1 : ¬ PyProof.Rows.lo1 x = nb := fun g => v1 (decide_eq_true g)
        refine nx _ _ (Nat.le_succ_of_le hal) ⟨s9t, ?_⟩
        have e2 : (bsOf y).idxOf (PyProof.Rows.lo1 x) ≠ i := fun g => e1 (by
          have e3 := List.getElem_idxOf hid
          have e4 := (List.getElem?_eq_some_iff.mp hnb').2
          rw [← e3, ← e4]
          congr 1)
        by_cases g : (bsOf y).idxOf (PyProof.Rows.lo1 x) < i
        · rw [if_pos g, if_pos (by omega)]
        · rw [if_neg g, if_neg (by omega)]
    · rintro acc H9 D hal ⟨s9, rfl⟩ hD
      rw [sgs_len, if_pos hid]
      refine ⟨D, _, _, _, rfl, rfl, SqL.of upd_same, atI_nat (j := 0) rfl, ?_⟩
      have t2 := s9.trans (Same.upd (o := HO.lst [V.int ((bsOf y).idxOf (PyProof.Rows.lo1 x) : Nat)]) hD)
      have h3 := t2 _ _ h2
      have hw3 := hw2.same t2
      have fr3 := fr2.after t2
      generalize upd H9 D (HO.lst [V.int ((bsOf y).idxOf (PyProof.Rows.lo1 x) : Nat)]) = H3 at h3 hw3 fr3 ⊢
      clear t2 hw2 fr2 h2 hwa s9 hD hnm2
      have hoa := hw3.oc o hom
      refine ⟨ol, _, _, _, rfl, rfl, SqL.of hw3.od, atI_nat hov, ?_⟩
      refine ⟨_, rfl, a, _, 4, _, rfl, rfl, SqT.of h3, rfl, _, _, rfl, rfl, _, rfl, iteY (decide_eq_true (by omega)) ⟨_, rfl, o.a, _, rfl, .inl (SqL.of hoa), _, _, rfl, rfl, _, rfl, iteN (by rw [ivs_ln, decide_eq_true (by omega)]; rfl) ?_⟩⟩
      refine ⟨_, rfl, a, _, 3, _, rfl, rfl, SqT.of h3, rfl, _, rfl, a, _, 3, _, rfl, rfl, SqT.of h3, rfl, x, rfl, hxl, by show 2 ≤ sizeLine; decide, fun pl npl => ?_⟩
      have hplB := hw3.fresh npl
      have t3 := Same.upd (o := HO.lst [V.str (S [x]), V.str (S [ctr x])]) npl
      have hpl : upd H3 pl (HO.lst [V.str (S [x]), V.str (S [ctr x])]) pl = some (HO.lst [V.str (S [x]), V.str (S [ctr x])]) := upd_same
      have h4 := t3 _ _ h3
      have hw4 := hw3.same t3
      have fr4 := fr3.after t3
      generalize upd H3 pl (HO.lst [V.str (S [x]), V.str (S [ctr x])]) = H4 at h4 hw4 fr4 hpl ⊢
      clear t3 hw3 fr3 h3 hoa npl
      have npd : pl ≠ d := fun z => by rw [z, hw4.dk] at hpl; cases hpl
      have mwB : w.a ∈ wdB wl ol Ws Os := List.mem_cons_of_mem _ (List.mem_cons_of_mem _ (List.mem_append_left _ (List.mem_map.mpr ⟨w, hcm, rfl⟩)))
      have moB : o.a ∈ wdB wl ol Ws Os := List.mem_cons_of_mem _ (List.mem_cons_of_mem _ (List.mem_append_right _ (List.mem_map.mpr ⟨o, hom, rfl⟩)))
      have npw : pl ≠ w.a := fun z => hplB (by rw [z]; exact mwB)
      have npo : pl ≠ o.a := fun z => hplB (by rw [z]; exact moB)
      have mw : w.a ∈ wdA d wl ol Ws Os := List.mem_cons_of_mem _ mwB
      have mo : o.a ∈ wdA d wl ol Ws Os := List.mem_cons_of_mem _ moB
      have md : d ∈ wdA d wl ol Ws Os := List.mem_cons_self
      have emW : ∀ ls, (Ws.set c ⟨w.a, ls⟩).map Wc.a = Ws.map Wc.a := fun ls => by rw [List.map_set]; exact set_same (by rw [List.getElem?_map, hcg]; rfl)
      have emO : ∀ ns, (Os.set ((bsOf y).idxOf (PyProof.Rows.lo1 x)) ⟨o.a, ns⟩).map Oc.a = Os.map Oc.a := fun ns => by rw [List.map_set]; exact set_same (by rw [List.getElem?_map, ho]; rfl)
      refine ⟨pl, rfl, ⟨_, SqL.of hpl⟩, ?_⟩
      refine for_enumL (K := K) (a := pl) (xs := [V.str (S [x]), V.str (S [ctr x])]) (fun i σ H' => ∃ (nl : List Lc) (sv lv : Option V), σ = [some (.str (S y)), some (.ref d), some (.ref a), some (.ref nm), some (.ref wl), some (.ref ol), some (.ref o.a), some (.ref w.a), none, none, sv, lv] ∧ nl.map Lc.pr = [(x, m), (ctr x, m + 1)].take i ∧
          WdAt H' d wl ol (Ws.set c ⟨w.a, w.ls.take k ++ nl ++ w.ls.drop k⟩) (Os.set ((bsOf y).idxOf (PyProof.Rows.lo1 x)) ⟨o.a, o.ns.take n ++ [m, m + 1].take i ++ o.ns.drop n⟩) (m + i) ∧ Fr (wdA d wl ol Ws Os) H H' ∧ H' pl = some (.lst [V.str (S [x]), V.str (S [ctr x])]) ∧ TSame H4 H')
        ⟨[], none, none, rfl, rfl, by rw [List.take_zero, List.append_nil, List.append_nil, List.take_append_drop, List.take_append_drop, set_same hcg, set_same ho, Nat.add_zero]; exact hw4, fr4, hpl, TSame.of (Same.refl _)⟩ (fun i σ H' _ ⟨_, _, _, _, _, _, _, h, _⟩ => SqL.of h) ?_ ?_
      · rintro i v σ H5 T hv ⟨nl, sv, lv, rfl, hnl, hw5, fr5, hpl5, ts5⟩ nT
        have hi2 : i < 2 := (List.getElem?_eq_some_iff.mp hv).1
        obtain ⟨u, rfl, hu⟩ : ∃ u, v = V.str (S [u]) ∧ [(x, m), (ctr x, m + 1)][i]? = some (u, m + i) := by
          rcases (by omega : i = 0 ∨ i = 1) with z | z
          · subst z; cases hv; exact ⟨x, rfl, rfl⟩
          · subst z; cases hv; exact ⟨ctr x, rfl, rfl⟩
        have hnll : nl.length = i := by
          have := congrArg List.length hnl
          rw [List.length_map, List.length_take] at this
          simp at this
          omega
        have hmi : [m, m + 1][i]? = some (m + i) := by
          rcases (by omega : i = 0 ∨ i = 1) with z | z <;> (subst z; rfl)
        have hml : ([m, m + 1].take i).length = i := by rw [List.length_take]; simp; omega
        have sT := Same.upd (o := HO.tup [.int i, .str (S [u])]) nT
        refine ⟨T, _, rfl, SqT.of upd_same, rfl, _, _, rfl, _, _, rfl, rfl, ?_⟩
        have hw6 := hw5.same sT
        have fr6 := fr5.after sT
        have hpl6 := sT _ _ hpl5
        have ts6 := ts5.trans (TSame.of sT)
        generalize upd H5 T (HO.tup [.int i, .str (S [u])]) = H6 at hw6 fr6 hpl6 ts6 ⊢
        clear sT nT hw5 fr5 hpl5 ts5
        have hsc : (Ws.set c ⟨w.a, w.ls.take k ++ nl ++ w.ls.drop k⟩)[c]? = some ⟨w.a, w.ls.take k ++ nl ++ w.ls.drop k⟩ := List.getElem?_set_self hc
        have hwa6 := hw6.wc _ (List.mem_of_getElem? hsc)
        have h6 := ts6 _ _ h4
        have gm : ∀ {H' : Hp} {m' : Nat}, H' d = some (HO.dK (wdK wl ol m')) → DGet H' d (V.str (S wMany)) (some (.int (m' : Nat))) := fun {H' m'} e => by rw [← wdK_many wl ol m']; exact DGet.k (k := kS wMany) e
        have hkl : (w.ls.take k).length + nl.length = k + i := by rw [List.length_take]; omega
        have hll : (lcv (w.ls.take k ++ nl ++ w.ls.drop k)).length = w.ls.length + i := by rw [lcv_len, List.length_append, List.length_append, List.length_take, List.length_drop]; omega
        refine ⟨_, rfl, .inl ⟨rfl, _, SqL.of hwa6⟩, _, rfl, a, _, 2, _, rfl, rfl, SqT.of h6, rfl, _, rfl, _, _, rfl, rfl, _, rfl, _, rfl, d, _, rfl, gm hw6.dk, by show 2 ≤ sizeLine; decide, fun p np => ?_⟩
        have sp := Same.upd (o := HO.lst [V.str (S [u]), V.int ((m + i : Nat) : Int)]) np
        have hpB := hw6.fresh np
        have hw7 := hw6.same sp
        have fr7 := fr6.after sp
        have hpl7 := sp _ _ hpl6
        have ts7 := ts6.trans (TSame.of sp)
        have hp7 : upd H6 p (HO.lst [V.str (S [u]), V.int ((m + i : Nat) : Int)]) p = some (HO.lst [V.str (S [u]), V.int ((m + i : Nat) : Int)]) := upd_same
        generalize upd H6 p (HO.lst [V.str (S [u]), V.int ((m + i : Nat) : Int)]) = H7 at hw7 fr7 hpl7 ts7 hp7 ⊢
        clear sp np hw6 fr6 hpl6 ts6 hwa6 h6
        have hwa7 := hw7.wc _ (List.mem_of_getElem? hsc)
        have eki : (k : Int) + (i : Int) = ((k + i : Nat) : Int) := by omega
        refine ⟨w.a, _, k + i, V.ref p, rfl, by show [V.int ((k : Int) + (i : Int)), V.ref p] = _; rw [eki], hwa7, by rw [hll]; omega, by rw [hll]; omega, ?_⟩
        rw [lcv_ins (w.ls.take k) nl (w.ls.drop k) ⟨p, u, m + i⟩ hkl]
        have hw8 := hw7.setW (ls := w.ls.take k ++ (nl ++ [⟨p, u, m + i⟩]) ++ w.ls.drop k) hsc fun l hl => by
          have : l ∈ w.ls.take k ++ nl ++ w.ls.drop k ∨ l = ⟨p, u, m + i⟩ := by
            rcases List.mem_append.mp hl with g | g
            · rcases List.mem_append.mp g with g | g
              · exact .inl (List.mem_append_left _ (List.mem_append_left _ g))
              · rcases List.mem_append.mp g with g | g
                · exact .inl (List.mem_append_left _ (List.mem_append_right _ g))
                · exact .inr (List.mem_singleton.mp g)
            · exact .inl (List.mem_append_right _ g)
          rcases this with g | g
          · exact ⟨hw7.lc _ (List.mem_of_getElem? hsc) l g, hw7.nl _ (List.mem_of_getElem? hsc) l g⟩
          · rw [g]; exact ⟨hp7, hpB⟩
        rw [set_set] at hw8
        have fr8 := fr7.upd (o := HO.lst (lcv (w.ls.take k ++ (nl ++ [⟨p, u, m + i⟩]) ++ w.ls.drop k))) mw
        have hpl8 : upd H7 w.a (HO.lst (lcv (w.ls.take k ++ (nl ++ [⟨p, u, m + i⟩]) ++ w.ls.drop k))) pl = _ := (upd_ne npw).trans hpl7
        have ts8 := ts7.trans (TSame.updL (o := HO.lst (lcv (w.ls.take k ++ (nl ++ [⟨p, u, m + i⟩]) ++ w.ls.drop k))) hwa7)
        generalize upd H7 w.a (HO.lst (lcv (w.ls.take k ++ (nl ++ [⟨p, u, m + i⟩]) ++ w.ls.drop k))) = H8 at hw8 fr8 hpl8 ts8 ⊢
        clear hw7 fr7 hpl7 ts7 hwa7 hp7 hpB
        have h8 := ts8 _ _ h4
        have hso : (Os.set ((bsOf y).idxOf (PyProof.Rows.lo1 x)) ⟨o.a, o.ns.take n ++ [m, m + 1].take i ++ o.ns.drop n⟩)[(bsOf y).idxOf (PyProof.Rows.lo1 x)]? = some ⟨o.a, o.ns.take n ++ [m, m + 1].take i ++ o.ns.drop n⟩ := List.getElem?_set_self hjo
        have hoa8 := hw8.oc _ (List.mem_of_getElem? hso)
        have hnl2 : (o.ns.take n).length + ([m, m + 1].take i).length = n + i := by rw [List.length_take, hml]; omega
        have hol2 : (ivs (o.ns.take n ++ [m, m + 1].take i ++ o.ns.drop n)).length = o.ns.length + i := by rw [ivs_ln, List.length_append, List.length_append, hml, List.length_take, List.length_drop]; omega
        have eni : (n : Int) + (i : Int) = ((n + i : Nat) : Int) := by omega
        refine ⟨_, rfl, .inl ⟨rfl, _, SqL.of hoa8⟩, _, rfl, a, _, 4, _, rfl, rfl, SqT.of h8, rfl, _, rfl, _, _, rfl, rfl, _, rfl, d, _, rfl, gm hw8.dk, ?_⟩
        refine ⟨o.a, _, n + i, V.int ((m + i : Nat) : Int), rfl, by show [V.int ((n : Int) + (i : Int)), V.int ((m + i : Nat) : Int)] = _; rw [eni], hoa8, by rw [hol2]; omega, by rw [hol2]; omega, ?_⟩
        rw [ivs_ins (o.ns.take n) ([m, m + 1].take i) (o.ns.drop n) (m + i) hnl2]
        have hti : [m, m + 1].take i ++ [m + i] = [m, m + 1].take (i + 1) := by rw [List.take_succ, hmi]; rfl
        rw [hti]
        have hw9 := hw8.setO (ns := o.ns.take n ++ [m, m + 1].take (i + 1) ++ o.ns.drop n) hso
        rw [set_set] at hw9
        have fr9 := fr8.upd (o := HO.lst (ivs (o.ns.take n ++ [m, m + 1].take (i + 1) ++ o.ns.drop n))) mo
        have hpl9 : upd H8 o.a (HO.lst (ivs (o.ns.take n ++ [m, m + 1].take (i + 1) ++ o.ns.drop n))) pl = _ := (upd_ne npo).trans hpl8
        have ts9 := ts8.trans (TSame.updL (o := HO.lst (ivs (o.ns.take n ++ [m, m + 1].take (i + 1) ++ o.ns.drop n))) hoa8)
        change WdAt (upd H8 o.a (HO.lst (ivs (o.ns.take n ++ [m, m + 1].take (i + 1) ++ o.ns.drop n)))) _ _ _ _ _ _ at hw9
        generalize upd H8 o.a (HO.lst (ivs (o.ns.take n ++ [m, m + 1].take (i + 1) ++ o.ns.drop n))) = H9 at hw9 fr9 hpl9 ts9 ⊢
        clear hw8 fr8 hpl8 ts8 hoa8 h8
        refine ⟨_, rfl, d, _, rfl, gm hw9.dk, _, _, rfl, rfl, _, rfl, d, _, rfl, DPut.k (k := kS wMany) hw9.dk (by show 3 < sizeLine; omega), ?_⟩
        have ev : putK (wdK wl ol (m + i)) (kS wMany) (V.int (((m + i : Nat) : Int) + 1)) = wdK wl ol (m + (i + 1)) := by rw [show ((m + i : Nat) : Int) + 1 = ((m + (i + 1) : Nat) : Int) from by omega, wdK_put]
        refine ⟨nl ++ [⟨p, u, m + i⟩], _, _, rfl, ?_, by have := hw9.setM (m + (i + 1)); rw [← ev] at this; exact this, fr9.upd md, (upd_ne npd).trans hpl9, ts9.trans (tsame_updK hw9.dk)⟩
        rw [List.map_append, hnl, List.take_succ (i := i), hu]
        rfl
      · rintro σ H5 ⟨nl, sv, lv, rfl, hnl, hw5, fr5, hpl5, ts5⟩
        refine q _ _ H5 hw5 ?_ ?_ (fun z hz => .inr ?_) fr5
        · show (Ws.set c _).map Wc.w = (oW Ws).set c (((oW Ws).getD c []).take k ++ (x, m) :: (ctr x, m + 1) :: ((oW Ws).getD c []).drop k)
          rw [getD_of hcw, List.map_set]
          show (Ws.map Wc.w).set c ((w.ls.take k ++ nl ++ w.ls.drop k).map Lc.pr) = _
          rw [List.map_append, List.map_append, hnl, List.map_drop, List.map_take, List.append_assoc]
          rfl
        · show (Os.set _ _).map Oc.ns = (oO Os).set _ (((oO Os).getD _ []).take n ++ m :: (m + 1) :: ((oO Os).getD _ []).drop n)
          rw [getD_of eo, List.map_set]
          show (Os.map Oc.ns).set _ (o.ns.take n ++ [m, m + 1] ++ o.ns.drop n) = _
          rw [List.append_assoc]
          rfl
        · unfold wdA at hz ⊢
          rw [emW, emO] at hz
          exact hz
theorem ok_law (T : Txt K mg f0 f1 f2 f3 f4 f5 f6 f7 f8 f9 f10 f11 f12 f13 f14 f15 f16 f17 f18 f19 f20 f21 f22 d0 d1 d2 d3 d4 d5 d6 d7 d8 d9 d10 d11 d12 d13 d14 d15 d16 d17 d18 d19 d20 d21 d22) : FnOk P w K mg base CX0 5 f22 d22 ["_law_script"] (sp_law K) := by
  have G_Lbox := ok_Lbox (P := P) (w := w) (base := base) T
  have G_Lyard := ok_Lyard (P := P) (w := w) (base := base) T
  have G_Ldrawing := ok_Ldrawing (P := P) (w := w) (base := base) T
  have G_Lwords := ok_Lwords (P := P) (w := w) (base := base) T
  have G_Lopened := ok_Lopened (P := P) (w := w) (base := base) T
  have G_Ldeed := ok_Ldeed (P := P) (w := w) (base := base) T
  have G_Ldoes := ok_Ldoes (P := P) (w := w) (base := base) T
  have G_Lshut := ok_Lshut (P := P) (w := w) (base := base) T
  have G_done := ok_done (P := P) (w := w) (base := base) T
  refine T.F22.fn.ok sc_law (fun vs H Q E h => len_law h) (fun cdv A outer s H vs Q E hr h => ?_)
  refine ⟨_, (pss_cons (ps_set (i := 1) sc_law.nd rfl (Or.inl rfl) (pe_call G_Lbox (hr.mono (by decide)) rfl T.F9.mg T.F9.fn.kp T.F9.bd .nil pass0 (pa_cons (pv 0) (pa_cons pe_int pa_nil))))
      (pss_cons (ps_set (i := 2) sc_law.nd rfl (Or.inl rfl) (pe_call G_Lyard (hr.mono (by decide)) rfl T.F12.mg T.F12.fn.kp T.F12.bd .nil pass0 (pa_cons (pv 1) (pa_cons pe_int (pa_cons pe_int pa_nil)))))
      (pss_cons (ps_set (i := 3) sc_law.nd rfl (Or.inl rfl) (pe_call G_Ldrawing (hr.mono (by decide)) rfl T.F16.mg T.F16.fn.kp T.F16.bd .nil pass0 (pa_cons (pe_call G_Lbox (hr.mono (by decide)) rfl T.F9.mg T.F9.fn.kp T.F9.bd .nil pass0 (pa_cons (pv 0) (pa_cons pe_int pa_nil))) (pa_cons (pv 2) (pa_cons (pe_call G_Lwords (hr.mono (by decide)) rfl T.F17.mg T.F17.fn.kp T.F17.bd .nil pass0 (pa_cons (pv 1) (pa_cons (pv 2) pa_nil))) pa_nil)))))
      (pss_cons (ps_set (i := 4) sc_law.nd rfl (Or.inl rfl) (pe_call G_Lopened (hr.mono (by decide)) rfl T.F18.mg T.F18.fn.kp T.F18.bd .nil pass0 (pa_cons (pv 3) pa_nil)))
      (pss_cons (ps_set (i := 5) sc_law.nd rfl (Or.inl rfl) (pv 3))
      (pss_cons (ps_set (i := 6) sc_law.nd rfl (Or.inl rfl) (pe_lst pa_nil))
      (pss_cons (ps_for PassesOwn.never rfl (pi_range2 rfl T.z_range (pa_cons pe_int (pa_cons (pe_callB (call_max2 rfl) rfl T.z_max boot_max (pa_cons pe_int (pa_cons (pe_callB (call_min2 rfl) rfl T.z_min boot_min (pa_cons pe_int (pa_cons (pe_callB (call_len_seqK K rfl) rfl T.z_len PySem.boot_len (pa_cons (pv 0) pa_nil)) pa_nil))) pa_nil))) pa_nil))) (pg_name (i := 7) sc_law.nd rfl (Or.inl rfl)) (pss_cons (ps_set (i := 8) sc_law.nd rfl (Or.inl rfl) (pe_call G_Ldeed (hr.mono (by decide)) rfl T.F21.mg T.F21.fn.kp T.F21.bd .nil pass0 (pa_cons (pe_call G_Lbox (hr.mono (by decide)) rfl T.F9.mg T.F9.fn.kp T.F9.bd .nil pass0 (pa_cons (pv 0) (pa_cons (pv 7) pa_nil))) (pa_cons (pv 2) (pa_cons (pv 5) pa_nil)))))
      (pss_cons (ps_if (pt_not (pt_val (pe_call G_Ldoes (hr.mono (by decide)) rfl T.F20.mg T.F20.fn.kp T.F20.bd .nil pass0 (pa_cons (pv 2) (pa_cons (pv 4) (pa_cons (pv 8) pa_nil)))))) (pss_one (ps_ret pe_bl)) pss_nil)
      (pss_cons (ps_set (i := 9) sc_law.nd rfl (Or.inl rfl) (pe_call G_Lshut (hr.mono (by decide)) rfl T.F19.mg T.F19.fn.kp T.F19.bd .nil pass0 (pa_cons (pv 4) pa_nil)))
      (pss_cons (ps_if (pt_cmpR op_neS (pe_callB (call_reprD K rfl hr) rfl T.z_repr boot_repr (pa_cons (pe_call G_done (hr.mono (by decide)) rfl T.F8.mg T.F8.fn.kp T.F8.bd .nil pass0 (pa_cons (pv 2) (pa_cons (pv 5) (pa_cons (pe_lst (pa_cons (pv 8) pa_nil)) pa_nil)))) pa_nil)) (pe_callB (call_reprD K rfl hr) rfl T.z_repr boot_repr (pa_cons (pv 9) pa_nil)) (nomark _)) (pss_one (ps_ret pe_bl)) pss_nil)
      (pss_cons (ps_expr (pe_bmK K rfl PySem.F.plainAttrs_list PySem.F.slot_list_append PySem.F.type_list_append mt_append (pv 6) (pa_cons (pv 8) pa_nil)))
      (pss_one (ps_set (i := 5) sc_law.nd rfl (Or.inl rfl) (pv 9)))))))))
      (pss_cons (ps_set (i := 10) sc_law.nd rfl (Or.inl rfl) (pe_callTy (call_list_ofK K rfl) rfl T.z_list boot_list (pa_cons (pv 6) pa_nil)))
      (pss_cons (ps_if (PW.pt (pw_or (pt_cmpR (op_neD K rfl hr) (pe_call G_done (hr.mono (by decide)) rfl T.F8.mg T.F8.fn.kp T.F8.bd .nil pass0 (pa_cons (pv 2) (pa_cons (pv 3) (pa_cons (pv 6) pa_nil)))) (pv 5) (nomark _)) (pw_or (pt_cmpR (op_neD K rfl hr) (pv 6) (pv 10) (nomark _)) (pw_or1 (pt_cmpR (op_neD K rfl hr) (pe_call G_done (hr.mono (by decide)) rfl T.F8.mg T.F8.fn.kp T.F8.bd .nil pass0 (pa_cons (pv 2) (pa_cons (pv 3) (pa_cons (pe_lst pa_nil) pa_nil)))) (pv 3) (nomark _)))))) (pss_one (ps_ret pe_bl)) pss_nil)
      (pss_one (ps_ret (pe_cmpR (op_eqD K rfl hr) (pe_call G_done (hr.mono (by decide)) rfl T.F8.mg T.F8.fn.kp T.F8.bd .nil pass0 (pa_cons (pv 2) (pa_cons (pv 3) (pa_cons (pv 6) pa_nil)))) (pv 5) (nomark _))))))))))))), ?_⟩
  obtain ⟨a, ns, rfl, hS, hl, q⟩ := h
  have hs : (100000 : Nat) < sizeLine := by decide
  refine ⟨_, rfl, a, ns, 0, rfl, hS, by decide, fun b H1 nb bx s1 => ?_⟩
  refine ⟨_, rfl, b, 1, 4, rfl, bx, by decide, by decide, by decide, fun y H2 hy hy1 hy2 bx2 s2 => ?_⟩
  have hyn : y ≠ [] := fun z => by rw [z] at hy1; simp at hy1
  have s02 : Same H H2 := SameB.same nb s1 s2
  refine ⟨_, rfl, a, ns, 1, rfl, s02.seq hS, by decide, fun b2 H3 nb2 bx3 s3 => ?_⟩
  have hbb : b2 ≠ b := fun z => by obtain ⟨u, v, e⟩ := bx2; rw [← z, nb2] at e; cases e
  refine ⟨_, rfl, _, rfl, _, rfl, b, y, rfl, bx2.same s3, hyn, by omega, fun wt ws H4 nwt wtb hwt hws hwn bx4 s4 => ?_⟩
  have bx24 : BoxAt H4 b2 := by obtain ⟨u, v, e⟩ := bx3; exact ⟨u, v, s4 _ _ e hbb⟩
  have hwb2 : wt ≠ b2 := fun z => by obtain ⟨u, v, e⟩ := bx3; rw [z, e] at nwt; cases nwt
  refine ⟨b2, y, wt, ws, rfl, bx24, hy, by omega, hwb2, hwt, hws, fun dr0 os H5 hdr hos bx5 s5 => ?_⟩
  have s05 : Same H H5 := fun x u e => by
    have h3 := s3 _ _ (s02 _ _ e)
    have h4 := s4 _ _ h3 (ne_of_none e nb)
    exact s5 _ _ h4 (ne_of_none (s02 _ _ e) nb2)
  have hg0 : Good y ws (os.map prs) := ⟨hws, hos.lok⟩
  clear bx bx2 bx3 bx4 bx24 bx5 s1 s2 s3 s4 s5 s02 hwt nwt nb nb2
  refine ⟨_, rfl, y, dr0, ws, os, rfl, hy, by omega, hg0, hdr, fun d wl ol Ws Os m H6 hw6 hfr6 hl6 hW6 hm6 s6 => ?_⟩
  refine ⟨_, rfl, ?_⟩
  (repeat (first | refine ⟨_, rfl, ?_⟩ | refine ⟨_, _, rfl, rfl, ?_⟩ | refine ⟨_, _, _, rfl, rfl, by first | assumption | omega, by assumption, ?_⟩ | refine ⟨rfl, ?_⟩ | refine And.intro (by first | decide | omega | assumption | exact Nat.le_of_ble_eq_true rfl | exact .inl ⟨by decide, by decide⟩ | exact .inr ⟨by decide, by decide⟩ | exact ⟨by decide, by decide⟩ | exact ⟨by omega, by omega⟩) ?_))
  intro dl ndl
  have sdl := Same.upd (o := HO.lst []) ndl
  have hw7 := hw6.same sdl
  have hdl : upd H6 dl (HO.lst []) dl = some (HO.lst []) := upd_same
  have s57 := s6.trans sdl
  have ndl5 : H5 dl = none := Same.free s6 ndl
  have hdlA : dl ∉ wdA d wl ol Ws Os := fun z => by
    rcases List.mem_cons.mp z with e | e
    · rw [e, hw6.dk] at ndl; cases ndl
    · exact hw6.fresh ndl e
  generalize upd H6 dl (HO.lst []) = H7 at hw7 hdl s57 ⊢
  clear hw6 s6 sdl ndl
  change tSeq _ _ _ [some (.ref a), some (.ref b), some (.str (S y)), some (.ref dr0), some (.ref d), some (.ref dr0), some (.ref dl), none, none, none, none] H7
  have s07 := s05.trans s57
  refine ⟨_, rfl, a, _, rfl, .inl (s07.seq hS), ?_⟩
  refine ⟨_, _, rfl, _, _, rfl, ?_⟩
  obtain ⟨M, hM, hM2⟩ := max_min ((ns.map V.int).length : Int) (by omega)
  rw [hM]
  refine ⟨2, (M : Int), rfl, ⟨by decide, by decide, by omega, by omega⟩, ?_⟩
  refine for_range (fun i σ H' => ∃ (dr : Addr) (ws' : List (List Nat)) (os' : List Od) (Ws : List Wc) (Os : List Oc) (m : Nat) (ds : List Dd) (kv dv uv : Option V), σ = [some (.ref a), some (.ref b), some (.str (S y)), some (.ref dr0), some (.ref d), some (.ref dr), some (.ref dl), kv, dv, uv, none] ∧ DrAt H' dr ws' os' ∧ Good y ws' (os'.map prs) ∧ ws' ≠ [] ∧
      WdAt H' d wl ol Ws Os m ∧ Wd (oW Ws) (oO Os) (os'.map prs) m ∧ lets (oW Ws) = ws' ∧ m ≤ 48 + 2 * i ∧ (∀ x ∈ wdA d wl ol Ws Os, H5 x = none) ∧ dl ∉ wdA d wl ol Ws Os ∧
      H' dl = some (.lst (ddv ds)) ∧ (∀ x ∈ ds, DeedAt H' x.a x.e ∧ DeLt x.e) ∧ ds.length = i ∧ Path y ws (os.map prs) (ds.map Dd.e) ∧ runD y ws (os.map prs) (ds.map Dd.e) = (ws', os'.map prs) ∧ Same H5 H')
    ⟨dr0, ws, os, Ws, Os, m, [], none, none, none, rfl, hdr.same s57, hg0, hwn, hw7, hW6, hl6, by omega, hfr6, hdlA, hdl, fun _ h => absurd h List.not_mem_nil, rfl, trivial, rfl, s57⟩ ?_ ?_
  · rintro i σ H8 hi ⟨dr, ws', os', Ws, Os, m, ds, kv, dv, uv, rfl, hd8, hg8, hwn8, hw8, hW8, hl8, hm8, hf8, hdA8, hdl8, hds8, hdn8, hP8, hR8, s8⟩
    have hk : ((2 : Int) + (i : Int)) = ((2 + i : Nat) : Int) := by omega
    refine ⟨_, rfl, _, rfl, a, ns, 2 + i, by rw [← hk]; rfl, (s05.trans s8).seq hS, by omega, fun b3 H9 nb3 bx9 s9 => ?_⟩
    refine ⟨_, rfl, _, rfl, b3, y, dr, ws', os', rfl, bx9, hy, by omega, by omega, hwn8, hg8, hd8.same s9, fun da e HA hda hok sA => ?_⟩
    have s8A : Same H8 HA := SameB.same nb3 s9 sA
    have hwA := hw8.same s8A
    have hdlA' := s8A _ _ hdl8
    clear s9 sA bx9 nb3
    subst hl8
    refine ⟨_, rfl, _, rfl, _, rfl, y, d, wl, ol, da, Ws, Os, os'.map prs, m, e, rfl, hy, by omega, hwA, hW8, hg8, by omega, hda, hok, fun Ws' Os' HB hwB eW eO hAB fB => ?_⟩
    refine ⟨_, rfl, iteN rfl ?_⟩
    have hLl : (os'.map prs).length = (bsOf y).length := hg8.ln
    obtain ⟨hW9, hl9⟩ := hW8.step hy hLl hok
    have hg9 := hg8.step hy hok
    rw [← eW, ← eO] at hW9
    rw [← eW] at hl9
    have hm9 : aM m e ≤ m + 2 := by cases e <;> exact Nat.le_of_ble_eq_true (by simp [aM])
    have tsB : TSame HA HB := fun x xs ex => fB _ _ ex (hwA.tup ex)
    have hdlB : HB dl = some (.lst (ddv ds)) := fB _ _ hdlA' hdA8
    have s5B : Same H5 HB := fun x u ex => fB _ _ (s8A _ _ (s8 _ _ ex)) fun z => by rw [hf8 x z] at ex; cases ex
    have hdA9 : dl ∉ wdA d wl ol Ws' Os' := fun z => by
      rcases hAB dl z with g | g
      · rw [hdlA'] at g; cases g
      · exact hdA8 g
    have hf9 : ∀ x ∈ wdA d wl ol Ws' Os', H5 x = none := fun x hx => by
      rcases hAB x hx with g | g
      · exact Same.free (s8.trans s8A) g
      · exact hf8 x g
    refine ⟨_, rfl, y, d, wl, ol, Ws', Os', dO (bsOf y) (lets (oW Ws)) (os'.map prs) e, aM m e, rfl, hy, by omega, hwB, hW9, by rw [hl9]; exact hg9, by omega, fun dr2 os2 HC g1 g2 sC => ?_⟩
    rw [hl9] at g1
    have ts8C : TSame H8 HC := ((TSame.of s8A).trans tsB).trans (TSame.of sC)
    refine ⟨_, rfl, _, rfl, _, rfl, by show 1 ≤ sizeLine; decide, fun pl npl => ?_⟩
    have sl := Same.upd (o := HO.lst [V.ref da]) npl
    have ts8D := ts8C.trans (TSame.of sl)
    have hda2 := hda.ts (tsB.trans (TSame.of (sC.trans sl)))
    refine ⟨y, dr, lets (oW Ws), os', pl, [⟨da, e⟩], rfl, hy, by omega, hg8, hd8.ts ts8D, upd_same, fun x hx => ?_, by show 1 ≤ 100; decide, ⟨hok, trivial⟩, fun dr3 os3 HD k1 k2 k3 sD => ?_⟩
    · rw [List.mem_singleton.mp hx]; exact hda2
    replace k1 : DrAt HD dr3 (dW (lets (oW Ws)) e) os3 := k1
    replace k2 : os3.map prs = dO (bsOf y) (lets (oW Ws)) (os'.map prs) e := k2
    have sCD := sl.trans sD
    have g1D := g1.same sCD
    have eL : os3.map prs = os2.map prs := k2.trans g2.symm
    have hg2 : Good y (dW (lets (oW Ws)) e) (os2.map prs) := by rw [g2]; exact hg9
    have hsm := sm_dr2 hy (by omega) g1D hg2
    refine ⟨_, _, rfl, rd_dr k1, by rw [eL]; exact hsm, ?_⟩
    refine ⟨_, rfl, _, _, rfl, rd_dr g1D, hsm, ?_⟩
    refine ⟨_, _, rfl, rfl, _, rfl, iteN (by rw [eL]; simp) ?_⟩
    have hdlD := sCD _ _ (sC _ _ hdlB)
    have hwD := (hwB.same sC).same sCD
    have s5D := (s5B.trans sC).trans sCD
    have ts8E := ts8C.trans (TSame.of sCD)
    have hdaD := hda.ts (tsB.trans (TSame.of (sC.trans sCD)))
    generalize hHD : HD = HE at hdlD hwD s5D ts8E hdaD g1D
    clear hHD
    refine ⟨_, rfl, .inl ⟨rfl, _, SqL.of hdlD⟩, _, rfl, dl, _, _, rfl, rfl, hdlD, by rw [ddv_len]; omega, ?_⟩
    rw [show ddv ds ++ [V.ref da] = ddv (ds ++ [⟨da, e⟩]) from ddv_snoc ds ⟨da, e⟩]
    have tsF : TSame HE (upd HE dl (HO.lst (ddv (ds ++ [⟨da, e⟩])))) := TSame.updL hdlD
    refine ⟨_, rfl, dr2, _, os2, Ws', Os', aM m e, ds ++ [⟨da, e⟩], _, _, _, rfl, g1D.ts tsF, hg2, ?_, hwD.other hdA9 (hwD.ne_dd hdlD), by rw [g2]; exact hW9, hl9, by omega, hf9, hdA9, upd_same, fun x hx => ?_, by rw [List.length_append, hdn8]; rfl, ?_, ?_, same_upd s5D ndl5⟩
    · intro z
      exact hwn8 (by have := dW_len (lets (oW Ws)) e; rw [z] at this; exact List.length_eq_zero_iff.mp this.symm)
    · rcases List.mem_append.mp hx with g | g
      · exact ⟨(hds8 x g).1.ts (ts8E.trans tsF), (hds8 x g).2⟩
      · rw [List.mem_singleton.mp g]; exact ⟨hdaD.ts tsF, Dok.lt hy hok⟩
    · rw [List.map_append]
      exact path_snoc hP8 (by rw [hR8]; exact hok)
    · rw [List.map_append]
      show runD y ws (os.map prs) (ds.map Dd.e ++ [e]) = _
      rw [run_snoc, hR8, g2]
  · rintro σ H8 ⟨dr, ws', os', Ws, Os, m, ds, kv, dv, uv, rfl, hd8, hg8, hwn8, hw8, hW8, hl8, hm8, hf8, hdA8, hdl8, hds8, hdn8, hP8, hR8, s8⟩
    clear hw8 hW8 hf8 hdA8 hw7 hW6 hfr6 hdlA hdl
    refine ⟨_, rfl, dl, _, rfl, .inl (SqL.of hdl8), fun kp nkp => ?_⟩
    have sK := Same.upd (o := HO.lst (ddv ds)) nkp
    have hkp : upd H8 kp (HO.lst (ddv ds)) kp = some (HO.lst (ddv ds)) := upd_same
    have hdr9 := hdr.same (s8.trans sK)
    have hdl9 := sK _ _ hdl8
    have hd9 := hd8.same sK
    have hds9 : ∀ x ∈ ds, DeedAt (upd H8 kp (HO.lst (ddv ds))) x.a x.e := fun x hx => (hds8 x hx).1.ts (TSame.of sK)
    generalize upd H8 kp (HO.lst (ddv ds)) = H9 at hkp hdr9 hdl9 hd9 hds9 ⊢
    clear sK nkp hdl8 hd8
    have hn100 : ds.length ≤ 100 := by omega
    have hdt : ∀ {HX : Hp} {dx : Addr} {ox : List Od}, DrAt HX dx ws' ox → ox.map prs = os'.map prs → RdD K HX (.ref dx) (drD ws' (os'.map prs)) := fun h e => by rw [← e]; exact rd_dr h
    have sm8 := sm_dr2 hy (by omega) hd9 hg8
    have sm0 := sm_dr2 hy (by omega) hdr9 hg0
    refine ⟨_, rfl, _, rfl, _, rfl, y, dr0, ws, os, dl, ds, rfl, hy, by omega, hg0, hdr9, hdl9, hds9, hn100, hP8, fun dr3 os3 HA k1 k2 k3 sA => ?_⟩
    rw [hR8] at k1 k2
    refine ⟨_, rfl, _, _, hdt k1 k2, rd_dr (hd9.same sA), ⟨sm8.ly, sm8.ly⟩, Nat.le_trans sm8.dp (by decide), _, rfl, iteN (by rw [eqv_refl _ (dict_dr _ _)]; rfl) ?_⟩
    have lyd := lay_de fun x hx => (hds8 x hx).2
    have dpd : (PyData.list (ds.map fun x => deD x.e)).depth ≤ 60 := by
      show PyData.depthAll (ds.map fun x => deD x.e) + 1 ≤ 60
      have := dep_de ds
      omega
    have hdsA : ∀ x ∈ ds, DeedAt HA x.a x.e := fun x hx => (hds9 x hx).ts (TSame.of sA)
    refine ⟨_, rfl, _, rfl, .list (ds.map fun (x : Dd) => deD x.e), .list (ds.map fun (x : Dd) => deD x.e), .lst (SqL.of (sA _ _ hdl9)) (rdds_de hdsA), .lst (SqL.of (sA _ _ hkp)) (rdds_de hdsA), ⟨lyd, lyd⟩, dpd, _, rfl, iteN (by rw [eqv_refl (.list (ds.map fun (x : Dd) => deD x.e)) (show PyData.hasDictAll (ds.map fun (x : Dd) => deD x.e) = false from dict_de ds)]; rfl) ?_⟩
    refine ⟨_, rfl, _, rfl, Nat.zero_le _, fun pe npe => ?_⟩
    have sE := sA.trans (Same.upd (o := HO.lst []) npe)
    refine ⟨y, dr0, ws, os, pe, [], rfl, hy, by omega, hg0, hdr9.same sE, upd_same, fun _ h => absurd h List.not_mem_nil, Nat.zero_le _, trivial, fun dr4 os4 HB j1 j2 j3 sB => ?_⟩
    replace j1 : DrAt HB dr4 ws os4 := j1
    replace j2 : os4.map prs = os.map prs := j2
    have j4 : RdD K HB (.ref dr4) (drD ws (os.map prs)) := by rw [← j2]; exact rd_dr j1
    refine ⟨_, rfl, _, _, j4, rd_dr (hdr9.same (sE.trans sB)), ⟨sm0.ly, sm0.ly⟩, Nat.le_trans sm0.dp (by decide), _, rfl, iteN (by rw [eqv_refl _ (dict_dr _ _)]; rfl) ?_⟩
    have sEB := sE.trans sB
    refine ⟨_, rfl, _, rfl, _, rfl, y, dr0, ws, os, dl, ds, rfl, hy, by omega, hg0, hdr9.same sEB, sEB _ _ hdl9, fun x hx => (hds9 x hx).ts (TSame.of sEB), hn100, hP8, fun dr5 os5 HC l1 l2 l3 sC => ?_⟩
    rw [hR8] at l1 l2
    refine ⟨_, rfl, _, _, hdt l1 l2, rd_dr (hd9.same (sEB.trans sC)), ⟨sm8.ly, sm8.ly⟩, Nat.le_trans sm8.dp (by decide), ?_⟩
    rw [eqv_refl _ (dict_dr _ _)]
    exact q _
end
theorem us_z {M : List Value → Prop} (h : M []) : ∀ us : List Value, us.length = 0 → M us
  | [], _ => h
theorem us_s {M : List Value → Prop} {n : Nat} (h : ∀ (a : Value) (us : List Value), us.length = n → M (a :: us)) : ∀ us : List Value, us.length = n + 1 → M us
  | a :: us, e => h a us (Nat.succ.inj e)
theorem all_mk {l : PySem.W.OpenLaw} {w : World} {K : PySem.W.Frag} {h : Heap} {mg : Str → Option Value} {fa f0 f1 f2 f3 f4 f5 f6 f7 f8 f9 f10 f11 f12 f13 f14 f15 f16 f17 f18 f19 f20 f21 f22 : Addr} (X : K.In h) (G : h.Ns mainGlobals mg) (hfa : mg "law" = some (.ref fa))
    {od0 an0 od1 an1 od2 an2 od3 an3 od4 an4 od5 an5 od6 an6 od7 an7 od8 an8 od9 an9 od10 an10 od11 an11 od12 an12 od13 an13 od14 an14 od15 an15 od16 an16 od17 an17 od18 an18 od19 an19 od20 an20 od21 an21 od22 an22 : Option Addr} {sl0 sl1 sl2 sl3 sl4 sl5 sl6 sl7 sl8 sl9 sl10 sl11 sl12 sl13 sl14 sl15 sl16 sl17 sl18 sl19 sl20 sl21 sl22 : Array (Option Value)} {oc0 kV0 dc0 pm0 cd0 ct0 oc1 kV1 dc1 pm1 cd1 ct1 oc2 kV2 dc2 pm2 cd2 ct2 oc3 kV3 dc3 pm3 cd3 ct3 oc4 kV4 dc4 pm4 cd4 ct4 oc5 kV5 dc5 pm5 cd5 ct5 oc6 kV6 dc6 pm6 cd6 ct6 oc7 kV7 dc7 pm7 cd7 ct7 oc8 kV8 dc8 pm8 cd8 ct8 oc9 kV9 dc9 pm9 cd9 ct9 oc10 kV10 dc10 pm10 cd10 ct10 oc11 kV11 dc11 pm11 cd11 ct11 oc12 kV12 dc12 pm12 cd12 ct12 oc13 kV13 dc13 pm13 cd13 ct13 oc14 kV14 dc14 pm14 cd14 ct14 oc15 kV15 dc15 pm15 cd15 ct15 oc16 kV16 dc16 pm16 cd16 ct16 oc17 kV17 dc17 pm17 cd17 ct17 oc18 kV18 dc18 pm18 cd18 ct18 oc19 kV19 dc19 pm19 cd19 ct19 oc20 kV20 dc20 pm20 cd20 ct20 oc21 kV21 dc21 pm21 cd21 ct21 oc22 kV22 dc22 pm22 cd22 ct22 : Value}
    (a0 : PySem.W.nsIn K mainGlobals "contrary" = some (some (.ref f0)))
    (l0 : K.lookup f0 = some ⟨oc0, od0, .func (PySem.W.fnOf "contrary" "contrary" (defArgs s_contrary) (defBody s_contrary) (defScope s_contrary) .none kV0 dc0 pm0 an0 cd0 ct0), sl0⟩)
    (c0 : PySem.W.codeIn K cd0 "contrary" = true)
    (k0 : PySem.W.keepIn K (.ref f0) = true)
    (a1 : PySem.W.nsIn K mainGlobals "bands" = some (some (.ref f1)))
    (l1 : K.lookup f1 = some ⟨oc1, od1, .func (PySem.W.fnOf "bands" "bands" (defArgs s_bands) (defBody s_bands) (defScope s_bands) .none kV1 dc1 pm1 an1 cd1 ct1), sl1⟩)
    (c1 : PySem.W.codeIn K cd1 "bands" = true)
    (k1 : PySem.W.keepIn K (.ref f1) = true)
    (a2 : PySem.W.nsIn K mainGlobals "renumber" = some (some (.ref f2)))
    (l2 : K.lookup f2 = some ⟨oc2, od2, .func (PySem.W.fnOf "renumber" "renumber" (defArgs s_renumber) (defBody s_renumber) (defScope s_renumber) .none kV2 dc2 pm2 an2 cd2 ct2), sl2⟩)
    (c2 : PySem.W.codeIn K cd2 "renumber" = true)
    (k2 : PySem.W.keepIn K (.ref f2) = true)
    (a3 : PySem.W.nsIn K mainGlobals "do_swap" = some (some (.ref f3)))
    (l3 : K.lookup f3 = some ⟨oc3, od3, .func (PySem.W.fnOf "do_swap" "do_swap" (defArgs s_do_swap) (defBody s_do_swap) (defScope s_do_swap) .none kV3 dc3 pm3 an3 cd3 ct3), sl3⟩)
    (c3 : PySem.W.codeIn K cd3 "do_swap" = true)
    (k3 : PySem.W.keepIn K (.ref f3) = true)
    (a4 : PySem.W.nsIn K mainGlobals "do_out" = some (some (.ref f4)))
    (l4 : K.lookup f4 = some ⟨oc4, od4, .func (PySem.W.fnOf "do_out" "do_out" (defArgs s_do_out) (defBody s_do_out) (defScope s_do_out) .none kV4 dc4 pm4 an4 cd4 ct4), sl4⟩)
    (c4 : PySem.W.codeIn K cd4 "do_out" = true)
    (k4 : PySem.W.keepIn K (.ref f4) = true)
    (a5 : PySem.W.nsIn K mainGlobals "do_in" = some (some (.ref f5)))
    (l5 : K.lookup f5 = some ⟨oc5, od5, .func (PySem.W.fnOf "do_in" "do_in" (defArgs s_do_in) (defBody s_do_in) (defScope s_do_in) .none kV5 dc5 pm5 an5 cd5 ct5), sl5⟩)
    (c5 : PySem.W.codeIn K cd5 "do_in" = true)
    (k5 : PySem.W.keepIn K (.ref f5) = true)
    (a6 : PySem.W.nsIn K mainGlobals "do_turn" = some (some (.ref f6)))
    (l6 : K.lookup f6 = some ⟨oc6, od6, .func (PySem.W.fnOf "do_turn" "do_turn" (defArgs s_do_turn) (defBody s_do_turn) (defScope s_do_turn) .none kV6 dc6 pm6 an6 cd6 ct6), sl6⟩)
    (c6 : PySem.W.codeIn K cd6 "do_turn" = true)
    (k6 : PySem.W.keepIn K (.ref f6) = true)
    (a7 : PySem.W.nsIn K mainGlobals "do_deed" = some (some (.ref f7)))
    (l7 : K.lookup f7 = some ⟨oc7, od7, .func (PySem.W.fnOf "do_deed" "do_deed" (defArgs s_do_deed) (defBody s_do_deed) (defScope s_do_deed) .none kV7 dc7 pm7 an7 cd7 ct7), sl7⟩)
    (c7 : PySem.W.codeIn K cd7 "do_deed" = true)
    (k7 : PySem.W.keepIn K (.ref f7) = true)
    (a8 : PySem.W.nsIn K mainGlobals "done" = some (some (.ref f8)))
    (l8 : K.lookup f8 = some ⟨oc8, od8, .func (PySem.W.fnOf "done" "done" (defArgs s_done) (defBody s_done) (defScope s_done) .none kV8 dc8 pm8 an8 cd8 ct8), sl8⟩)
    (c8 : PySem.W.codeIn K cd8 "done" = true)
    (k8 : PySem.W.keepIn K (.ref f8) = true)
    (a9 : PySem.W.nsIn K mainGlobals "_law_box" = some (some (.ref f9)))
    (l9 : K.lookup f9 = some ⟨oc9, od9, .func (PySem.W.fnOf "_law_box" "_law_box" (defArgs s_Lbox) (defBody s_Lbox) (defScope s_Lbox) .none kV9 dc9 pm9 an9 cd9 ct9), sl9⟩)
    (c9 : PySem.W.codeIn K cd9 "_law_box" = true)
    (k9 : PySem.W.keepIn K (.ref f9) = true)
    (a10 : PySem.W.nsIn K mainGlobals "_law_take" = some (some (.ref f10)))
    (l10 : K.lookup f10 = some ⟨oc10, od10, .func (PySem.W.fnOf "_law_take" "_law_take" (defArgs s_Ltake) (defBody s_Ltake) (defScope s_Ltake) .none kV10 dc10 pm10 an10 cd10 ct10), sl10⟩)
    (c10 : PySem.W.codeIn K cd10 "_law_take" = true)
    (k10 : PySem.W.keepIn K (.ref f10) = true)
    (a11 : PySem.W.nsIn K mainGlobals "_law_other" = some (some (.ref f11)))
    (l11 : K.lookup f11 = some ⟨oc11, od11, .func (PySem.W.fnOf "_law_other" "_law_other" (defArgs s_Lother) (defBody s_Lother) (defScope s_Lother) .none kV11 dc11 pm11 an11 cd11 ct11), sl11⟩)
    (c11 : PySem.W.codeIn K cd11 "_law_other" = true)
    (k11 : PySem.W.keepIn K (.ref f11) = true)
    (a12 : PySem.W.nsIn K mainGlobals "_law_yard" = some (some (.ref f12)))
    (l12 : K.lookup f12 = some ⟨oc12, od12, .func (PySem.W.fnOf "_law_yard" "_law_yard" (defArgs s_Lyard) (defBody s_Lyard) (defScope s_Lyard) .none kV12 dc12 pm12 an12 cd12 ct12), sl12⟩)
    (c12 : PySem.W.codeIn K cd12 "_law_yard" = true)
    (k12 : PySem.W.keepIn K (.ref f12) = true)
    (a13 : PySem.W.nsIn K mainGlobals "_law_word" = some (some (.ref f13)))
    (l13 : K.lookup f13 = some ⟨oc13, od13, .func (PySem.W.fnOf "_law_word" "_law_word" (defArgs s_Lword) (defBody s_Lword) (defScope s_Lword) .none kV13 dc13 pm13 an13 cd13 ct13), sl13⟩)
    (c13 : PySem.W.codeIn K cd13 "_law_word" = true)
    (k13 : PySem.W.keepIn K (.ref f13) = true)
    (a14 : PySem.W.nsIn K mainGlobals "_law_order" = some (some (.ref f14)))
    (l14 : K.lookup f14 = some ⟨oc14, od14, .func (PySem.W.fnOf "_law_order" "_law_order" (defArgs s_Lorder) (defBody s_Lorder) (defScope s_Lorder) .none kV14 dc14 pm14 an14 cd14 ct14), sl14⟩)
    (c14 : PySem.W.codeIn K cd14 "_law_order" = true)
    (k14 : PySem.W.keepIn K (.ref f14) = true)
    (a15 : PySem.W.nsIn K mainGlobals "_law_bands" = some (some (.ref f15)))
    (l15 : K.lookup f15 = some ⟨oc15, od15, .func (PySem.W.fnOf "_law_bands" "_law_bands" (defArgs s_Lbands) (defBody s_Lbands) (defScope s_Lbands) .none kV15 dc15 pm15 an15 cd15 ct15), sl15⟩)
    (c15 : PySem.W.codeIn K cd15 "_law_bands" = true)
    (k15 : PySem.W.keepIn K (.ref f15) = true)
    (a16 : PySem.W.nsIn K mainGlobals "_law_drawing" = some (some (.ref f16)))
    (l16 : K.lookup f16 = some ⟨oc16, od16, .func (PySem.W.fnOf "_law_drawing" "_law_drawing" (defArgs s_Ldrawing) (defBody s_Ldrawing) (defScope s_Ldrawing) .none kV16 dc16 pm16 an16 cd16 ct16), sl16⟩)
    (c16 : PySem.W.codeIn K cd16 "_law_drawing" = true)
    (k16 : PySem.W.keepIn K (.ref f16) = true)
    (a17 : PySem.W.nsIn K mainGlobals "_law_words" = some (some (.ref f17)))
    (l17 : K.lookup f17 = some ⟨oc17, od17, .func (PySem.W.fnOf "_law_words" "_law_words" (defArgs s_Lwords) (defBody s_Lwords) (defScope s_Lwords) .none kV17 dc17 pm17 an17 cd17 ct17), sl17⟩)
    (c17 : PySem.W.codeIn K cd17 "_law_words" = true)
    (k17 : PySem.W.keepIn K (.ref f17) = true)
    (a18 : PySem.W.nsIn K mainGlobals "_law_opened" = some (some (.ref f18)))
    (l18 : K.lookup f18 = some ⟨oc18, od18, .func (PySem.W.fnOf "_law_opened" "_law_opened" (defArgs s_Lopened) (defBody s_Lopened) (defScope s_Lopened) .none kV18 dc18 pm18 an18 cd18 ct18), sl18⟩)
    (c18 : PySem.W.codeIn K cd18 "_law_opened" = true)
    (k18 : PySem.W.keepIn K (.ref f18) = true)
    (a19 : PySem.W.nsIn K mainGlobals "_law_shut" = some (some (.ref f19)))
    (l19 : K.lookup f19 = some ⟨oc19, od19, .func (PySem.W.fnOf "_law_shut" "_law_shut" (defArgs s_Lshut) (defBody s_Lshut) (defScope s_Lshut) .none kV19 dc19 pm19 an19 cd19 ct19), sl19⟩)
    (c19 : PySem.W.codeIn K cd19 "_law_shut" = true)
    (k19 : PySem.W.keepIn K (.ref f19) = true)
    (a20 : PySem.W.nsIn K mainGlobals "_law_does" = some (some (.ref f20)))
    (l20 : K.lookup f20 = some ⟨oc20, od20, .func (PySem.W.fnOf "_law_does" "_law_does" (defArgs s_Ldoes) (defBody s_Ldoes) (defScope s_Ldoes) .none kV20 dc20 pm20 an20 cd20 ct20), sl20⟩)
    (c20 : PySem.W.codeIn K cd20 "_law_does" = true)
    (k20 : PySem.W.keepIn K (.ref f20) = true)
    (a21 : PySem.W.nsIn K mainGlobals "_law_deed" = some (some (.ref f21)))
    (l21 : K.lookup f21 = some ⟨oc21, od21, .func (PySem.W.fnOf "_law_deed" "_law_deed" (defArgs s_Ldeed) (defBody s_Ldeed) (defScope s_Ldeed) .none kV21 dc21 pm21 an21 cd21 ct21), sl21⟩)
    (c21 : PySem.W.codeIn K cd21 "_law_deed" = true)
    (k21 : PySem.W.keepIn K (.ref f21) = true)
    (a22 : PySem.W.nsIn K mainGlobals "law" = some (some (.ref f22)))
    (l22 : K.lookup f22 = some ⟨oc22, od22, .func (PySem.W.fnOf "law" "law" (defArgs s_law) (defBody s_law) (defScope s_law) .none kV22 dc22 pm22 an22 cd22 ct22), sl22⟩)
    (c22 : PySem.W.codeIn K cd22 "law" = true)
    (k22 : PySem.W.keepIn K (.ref f22) = true)
    (z_enumerate : PySem.W.nsIn K mainGlobals "enumerate" = some none)
    (z_int : PySem.W.nsIn K mainGlobals "int" = some none)
    (z_len : PySem.W.nsIn K mainGlobals "len" = some none)
    (z_list : PySem.W.nsIn K mainGlobals "list" = some none)
    (z_max : PySem.W.nsIn K mainGlobals "max" = some none)
    (z_min : PySem.W.nsIn K mainGlobals "min" = some none)
    (z_range : PySem.W.nsIn K mainGlobals "range" = some none)
    (z_repr : PySem.W.nsIn K mainGlobals "repr" = some none)
    (z_sorted : PySem.W.nsIn K mainGlobals "sorted" = some none)
    (z_tuple : PySem.W.nsIn K mainGlobals "tuple" = some none)
    (z_zip : PySem.W.nsIn K mainGlobals "zip" = some none) :
    ∃ fd : FuncData, (∀ (s : Shared) (v : Value), BindsTo s fd ⟨[v], []⟩ [("_law_script", v)]) ∧ ∀ base : Heap, K.In base → base.Ns mainGlobals mg → FnOk l.prog w K mg base CX0 5 fa fd ["_law_script"] (sp_law K) := by
  have e := hfa.symm.trans (PySem.W.mg_of X G a22)
  cases e
  have F0 := fun_mk (st := s_contrary) l0 c0 k0
  have b0 := F0.binds (ps := ["letter"]) fun _ _ _ _ _ _ => us_s fun _ => us_z rfl
  have F1 := fun_mk (st := s_bands) l1 c1 k1
  have b1 := F1.binds (ps := ["yard"]) fun _ _ _ _ _ _ => us_s fun _ => us_z rfl
  have F2 := fun_mk (st := s_renumber) l2 c2 k2
  have b2 := F2.binds (ps := ["orders", "cord", "places"]) fun _ _ _ _ _ _ => us_s fun _ => us_s fun _ => us_s fun _ => us_z rfl
  have F3 := fun_mk (st := s_do_swap) l3 c3 k3
  have b3 := F3.binds (ps := ["orders", "band", "number"]) fun _ _ _ _ _ _ => us_s fun _ => us_s fun _ => us_s fun _ => us_z rfl
  have F4 := fun_mk (st := s_do_out) l4 c4 k4
  have b4 := F4.binds (ps := ["words", "orders", "cord", "place"]) fun _ _ _ _ _ _ => us_s fun _ => us_s fun _ => us_s fun _ => us_s fun _ => us_z rfl
  have F5 := fun_mk (st := s_do_in) l5 c5 k5
  have b5 := F5.binds (ps := ["words", "orders", "cord", "place", "letter", "number"]) fun _ _ _ _ _ _ => us_s fun _ => us_s fun _ => us_s fun _ => us_s fun _ => us_s fun _ => us_s fun _ => us_z rfl
  have F6 := fun_mk (st := s_do_turn) l6 c6 k6
  have b6 := F6.binds (ps := ["words", "orders", "cord"]) fun _ _ _ _ _ _ => us_s fun _ => us_s fun _ => us_s fun _ => us_z rfl
  have F7 := fun_mk (st := s_do_deed) l7 c7 k7
  have b7 := F7.binds (ps := ["yard", "words", "orders", "deed"]) fun _ _ _ _ _ _ => us_s fun _ => us_s fun _ => us_s fun _ => us_s fun _ => us_z rfl
  have F8 := fun_mk (st := s_done) l8 c8 k8
  have b8 := F8.binds (ps := ["yard", "drawing", "deeds"]) fun _ _ _ _ _ _ => us_s fun _ => us_s fun _ => us_s fun _ => us_z rfl
  have F9 := fun_mk (st := s_Lbox) l9 c9 k9
  have b9 := F9.binds (ps := ["_law_script", "_law_k"]) fun _ _ _ _ _ _ => us_s fun _ => us_s fun _ => us_z rfl
  have F10 := fun_mk (st := s_Ltake) l10 c10 k10
  have b10 := F10.binds (ps := ["_law_box_here", "_law_many"]) fun _ _ _ _ _ _ => us_s fun _ => us_s fun _ => us_z rfl
  have F11 := fun_mk (st := s_Lother) l11 c11 k11
  have b11 := F11.binds (ps := ["_law_letter"]) fun _ _ _ _ _ _ => us_s fun _ => us_z rfl
  have F12 := fun_mk (st := s_Lyard) l12 c12 k12
  have b12 := F12.binds (ps := ["_law_box_here", "_law_few", "_law_top"]) fun _ _ _ _ _ _ => us_s fun _ => us_s fun _ => us_s fun _ => us_z rfl
  have F13 := fun_mk (st := s_Lword) l13 c13 k13
  have b13 := F13.binds (ps := ["_law_box_here", "_law_yard_here", "_law_top"]) fun _ _ _ _ _ _ => us_s fun _ => us_s fun _ => us_s fun _ => us_z rfl
  have F14 := fun_mk (st := s_Lorder) l14 c14 k14
  have b14 := F14.binds (ps := ["_law_box_here", "_law_things"]) fun _ _ _ _ _ _ => us_s fun _ => us_s fun _ => us_z rfl
  have F15 := fun_mk (st := s_Lbands) l15 c15 k15
  have b15 := F15.binds (ps := ["_law_yard_here"]) fun _ _ _ _ _ _ => us_s fun _ => us_z rfl
  have F16 := fun_mk (st := s_Ldrawing) l16 c16 k16
  have b16 := F16.binds (ps := ["_law_box_here", "_law_yard_here", "_law_words_here"]) fun _ _ _ _ _ _ => us_s fun _ => us_s fun _ => us_s fun _ => us_z rfl
  have F17 := fun_mk (st := s_Lwords) l17 c17 k17
  have b17 := F17.binds (ps := ["_law_box_here", "_law_yard_here"]) fun _ _ _ _ _ _ => us_s fun _ => us_s fun _ => us_z rfl
  have F18 := fun_mk (st := s_Lopened) l18 c18 k18
  have b18 := F18.binds (ps := ["_law_drawing_here"]) fun _ _ _ _ _ _ => us_s fun _ => us_z rfl
  have F19 := fun_mk (st := s_Lshut) l19 c19 k19
  have b19 := F19.binds (ps := ["_law_world"]) fun _ _ _ _ _ _ => us_s fun _ => us_z rfl
  have F20 := fun_mk (st := s_Ldoes) l20 c20 k20
  have b20 := F20.binds (ps := ["_law_yard_here", "_law_world", "_law_deed_here"]) fun _ _ _ _ _ _ => us_s fun _ => us_s fun _ => us_s fun _ => us_z rfl
  have F21 := fun_mk (st := s_Ldeed) l21 c21 k21
  have b21 := F21.binds (ps := ["_law_box_here", "_law_yard_here", "_law_drawing_here"]) fun _ _ _ _ _ _ => us_s fun _ => us_s fun _ => us_s fun _ => us_z rfl
  have F22 := fun_mk (st := s_law) l22 c22 k22
  have b22 := F22.binds (ps := ["_law_script"]) fun _ _ _ _ _ _ => us_s fun _ => us_z rfl
  have T : Txt K mg _ _ _ _ _ _ _ _ _ _ _ _ _ _ _ _ _ _ _ _ _ _ _ _ _ _ _ _ _ _ _ _ _ _ _ _ _ _ _ _ _ _ _ _ _ _ := ⟨⟨F0, PySem.W.mg_of X G a0, b0⟩, ⟨F1, PySem.W.mg_of X G a1, b1⟩, ⟨F2, PySem.W.mg_of X G a2, b2⟩, ⟨F3, PySem.W.mg_of X G a3, b3⟩, ⟨F4, PySem.W.mg_of X G a4, b4⟩, ⟨F5, PySem.W.mg_of X G a5, b5⟩, ⟨F6, PySem.W.mg_of X G a6, b6⟩, ⟨F7, PySem.W.mg_of X G a7, b7⟩, ⟨F8, PySem.W.mg_of X G a8, b8⟩, ⟨F9, PySem.W.mg_of X G a9, b9⟩, ⟨F10, PySem.W.mg_of X G a10, b10⟩, ⟨F11, PySem.W.mg_of X G a11, b11⟩, ⟨F12, PySem.W.mg_of X G a12, b12⟩, ⟨F13, PySem.W.mg_of X G a13, b13⟩, ⟨F14, PySem.W.mg_of X G a14, b14⟩, ⟨F15, PySem.W.mg_of X G a15, b15⟩, ⟨F16, PySem.W.mg_of X G a16, b16⟩, ⟨F17, PySem.W.mg_of X G a17, b17⟩, ⟨F18, PySem.W.mg_of X G a18, b18⟩, ⟨F19, PySem.W.mg_of X G a19, b19⟩, ⟨F20, PySem.W.mg_of X G a20, b20⟩, ⟨F21, PySem.W.mg_of X G a21, b21⟩, ⟨F22, PySem.W.mg_of X G a22, b22⟩, PySem.W.mg_none_of X G z_enumerate, PySem.W.mg_none_of X G z_int, PySem.W.mg_none_of X G z_len, PySem.W.mg_none_of X G z_list, PySem.W.mg_none_of X G z_max, PySem.W.mg_none_of X G z_min, PySem.W.mg_none_of X G z_range, PySem.W.mg_none_of X G z_repr, PySem.W.mg_none_of X G z_sorted, PySem.W.mg_none_of X G z_tuple, PySem.W.mg_none_of X G z_zip⟩
  exact ⟨_, fun s v => .of_eq rfl, fun base _ _ => ok_law T⟩
theorem walk {l : PySem.W.OpenLaw} {q : Program} {loose : List Str} {XP : (Str → Option Value) → Heap → Prop} {YP : World → Heap → Prop} {d : DefRec} {K : Params → PySem.W.Frag} (hn : l.most = some 63) (hdf : d.params.defaults = [])
    (hY : ∀ (w : World) (h : Heap), YP w h → (K w.params).In h)
    (F : ∀ (w : World) (mg : Str → Option Value) (fa : Addr) (h : Heap), (K w.params).In h → h.Ns mainGlobals mg → mg d.name = some (.ref fa) →
      ∃ fd : FuncData, (∀ (s : Shared) (u : Value), BindsTo s fd ⟨[u], []⟩ [("_law_script", u)]) ∧ ∀ base : Heap, (K w.params).In base → base.Ns mainGlobals mg → FnOk l.prog w (K w.params) mg base CX0 5 fa fd ["_law_script"] (sp_law (K w.params))) :
    PySem.W.WalkO q loose XP YP l.row.toRowW d [] (fun f vs => PySem.call f vs) :=
  L2.walk_of (n := 63) (k := 5) (x := "_law_script") (CX := fun _ => CX0) (sp := fun w => sp_law (K w.params)) hn (by decide) hdf ⟨rfl, by decide, by decide, rfl⟩ hY F (fun _ _ a ns hl _ hS => ⟨a, ns, rfl, hS, hl, fun _ => rfl⟩) fun _ _ _ _ _ z => z
end My
def PySem.W.Fast.tw11946271284952576223 : Nat := 0
open PySem PySem.W PyProof.Rows
set_option maxRecDepth 100000 in
set_option maxHeartbeats 0 in
theorem PySem.Challenge.cw_mustmeet_k20_deeds_done_holds : PySem.Challenge.rw_mustmeet_k20_deeds_done.Holds := by
  w_on; o_law; k_head; (case hw => w_witness2)
  k_fill
  refine My.walk (l := PySem.Challenge.rw_mustmeet_k20_deeds_done) rfl rfl (fun w h Y => PySem.W.kIn_of Y) ?F
  case F =>
    intro w mg fa h KX G hmg
    refine' My.all_mk KX G hmg ?a0 ?l0 ?c0 ?k0 ?a1 ?l1 ?c1 ?k1 ?a2 ?l2 ?c2 ?k2 ?a3 ?l3 ?c3 ?k3 ?a4 ?l4 ?c4 ?k4 ?a5 ?l5 ?c5 ?k5 ?a6 ?l6 ?c6 ?k6 ?a7 ?l7 ?c7 ?k7 ?a8 ?l8 ?c8 ?k8 ?a9 ?l9 ?c9 ?k9 ?a10 ?l10 ?c10 ?k10 ?a11 ?l11 ?c11 ?k11 ?a12 ?l12 ?c12 ?k12 ?a13 ?l13 ?c13 ?k13 ?a14 ?l14 ?c14 ?k14 ?a15 ?l15 ?c15 ?k15 ?a16 ?l16 ?c16 ?k16 ?a17 ?l17 ?c17 ?k17 ?a18 ?l18 ?c18 ?k18 ?a19 ?l19 ?c19 ?k19 ?a20 ?l20 ?c20 ?k20 ?a21 ?l21 ?c21 ?k21 ?a22 ?l22 ?c22 ?k22 ?z_enumerate ?z_int ?z_len ?z_list ?z_max ?z_min ?z_range ?z_repr ?z_sorted ?z_tuple ?z_zip
    (case a0 => k_is)
    (case l0 => k_is)
    (case c0 => k_is)
    (case k0 => k_is)
    (case a1 => k_is)
    (case l1 => k_is)
    (case c1 => k_is)
    (case k1 => k_is)
    (case a2 => k_is)
    (case l2 => k_is)
    (case c2 => k_is)
    (case k2 => k_is)
    (case a3 => k_is)
    (case l3 => k_is)
    (case c3 => k_is)
    (case k3 => k_is)
    (case a4 => k_is)
    (case l4 => k_is)
    (case c4 => k_is)
    (case k4 => k_is)
    (case a5 => k_is)
    (case l5 => k_is)
    (case c5 => k_is)
    (case k5 => k_is)
    (case a6 => k_is)
    (case l6 => k_is)
    (case c6 => k_is)
    (case k6 => k_is)
    (case a7 => k_is)
    (case l7 => k_is)
    (case c7 => k_is)
    (case k7 => k_is)
    (case a8 => k_is)
    (case l8 => k_is)
    (case c8 => k_is)
    (case k8 => k_is)
    (case a9 => k_is)
    (case l9 => k_is)
    (case c9 => k_is)
    (case k9 => k_is)
    (case a10 => k_is)
    (case l10 => k_is)
    (case c10 => k_is)
    (case k10 => k_is)
    (case a11 => k_is)
    (case l11 => k_is)
    (case c11 => k_is)
    (case k11 => k_is)
    (case a12 => k_is)
    (case l12 => k_is)
    (case c12 => k_is)
    (case k12 => k_is)
    (case a13 => k_is)
    (case l13 => k_is)
    (case c13 => k_is)
    (case k13 => k_is)
    (case a14 => k_is)
    (case l14 => k_is)
    (case c14 => k_is)
    (case k14 => k_is)
    (case a15 => k_is)
    (case l15 => k_is)
    (case c15 => k_is)
    (case k15 => k_is)
    (case a16 => k_is)
    (case l16 => k_is)
    (case c16 => k_is)
    (case k16 => k_is)
    (case a17 => k_is)
    (case l17 => k_is)
    (case c17 => k_is)
    (case k17 => k_is)
    (case a18 => k_is)
    (case l18 => k_is)
    (case c18 => k_is)
    (case k18 => k_is)
    (case a19 => k_is)
    (case l19 => k_is)
    (case c19 => k_is)
    (case k19 => k_is)
    (case a20 => k_is)
    (case l20 => k_is)
    (case c20 => k_is)
    (case k20 => k_is)
    (case a21 => k_is)
    (case l21 => k_is)
    (case c21 => k_is)
    (case k21 => k_is)
    (case a22 => k_is)
    (case l22 => k_is)
    (case c22 => k_is)
    (case k22 => k_is)
    (case z_enumerate => k_is)
    (case z_int => k_is)
    (case z_len => k_is)
    (case z_list => k_is)
    (case z_max => k_is)
    (case z_min => k_is)
    (case z_range => k_is)
    (case z_repr => k_is)
    (case z_sorted => k_is)
    (case z_tuple => k_is)
    (case z_zip => k_is)
